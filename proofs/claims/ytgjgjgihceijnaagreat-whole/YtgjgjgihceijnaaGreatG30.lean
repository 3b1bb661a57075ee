import Derived.Test.YtgjgjgihceijnaaGreatG29
import Derived.Test.YtgjgjgihceijnaaGreatG26
import Derived.Test.YtgjgjgihceijnaaGreatG01
import Derived.Test.YtgjgjgihceijnaaGreatG02
import Derived.Test.YtgjgjgihceijnaaGreatG03
import Derived.Test.YtgjgjgihceijnaaGreatG05
import Derived.Deep.RegionLaw
import Derived.Deep.QuietTactic
import Derived.BigQuiet
import Derived.Test.YtgjgjgihceijnaaGreatChecked
import Derived.WalkKit
import Derived.WalkSpells
import Derived.WalkLawsBesides
import Derived.Test.YtgjgjgihceijnaaGreatG23
open Nat renaming le_refl->aL,zero_le->aT
open Classical renaming byContradiction->aO
open Go.World renaming setCell->aR,cell?->bC
open Go.Value renaming bool->bD
set_option maxRecDepth 100000
set_option maxHeartbeats 8000000
namespace Go.Proofs.YtgjgjgihceijnaaGreat
open Go.RowKit Go.Stn
structure BA (w:World)(ab n:Nat)(al:Nat->Bool):Prop where
 c:∀i,i<n->w.cell? ⟨ab,i,none⟩=some (.bool (al i))
 f:∀i,w.frozen? ⟨ab,i,none⟩=false
theorem BA.set {w:World}{ab n:Nat}{al:Nat->Bool}(h:BA w ab n al){s:Nat}(hs:s<n)(v:Bool):BA (w.setCell ⟨ab,s,none⟩ (.bool v)) ab n (fun i=>if i=s then v else al i):=by
 refine⟨fun i hi=> ?_,fun i=>by rw[World.frozen?_setCell];exact h.f i⟩;by_cases e:i=s
 ·subst e;rw[if_pos rfl];exact World.cell?_setCell_same _ _ _ (h.c i hi)
 ·rw[if_neg e,World.cell?_setCell_other (h:=by intro e';injection e';omega)];exact h.c i hi
theorem Tryz.infoBool1:(Tryz.prog.info? 4).map (fun i=>(i.zero,i.size,i.bytes))=some (some (.bool false),1,1):=by kernel_rfl
theorem BA.new {w:World}{base ab n:Nat}{e:TypeId}(h:w.ownsRow base e 1 (.slice (some ⟨ab,0,none⟩) n n) n (madeCells (bD false).cells (n*1)).toList):BA w ab n (fun _=>false):=by
 refine⟨fun i hi=> ?_,fun i=>lF h i⟩;have hg:(madeCells (bD false).cells (n*1)).toList[i]? =some (.bool false):=by
  rw[Nat.mul_one,Array.getElem?_toList];exact Bi n i hi
 have:=h.cells rfl i _ hg;rw[pV]at this;exact this
theorem BA.below {w w':World}{ab n:Nat}{al:Nat->Bool}(h:BA w ab n al){B:Nat}(hB:Below B w w')(hb:ab<B):BA w' ab n al:=
 ⟨fun i hi=>(hB.cell (p:=⟨ab,i,none⟩) hb).trans (h.c i hi),fun i=>(hB.frozen (p:=⟨ab,i,none⟩) hb).trans (h.f i)⟩
structure LV (W wr:World)(n:Nat)(al:Nat->Bool):Prop where
 bl:Below W.heap.size W wr
 ba:BA wr W.heap.size n al
theorem LV.set {W wr:World}{n:Nat}{al:Nat->Bool}(h:LV W wr n al){s:Nat}(hs:s<n)(v:Bool):LV W (wr.setCell ⟨W.heap.size,s,none⟩ (.bool v)) n (fun i=>if i=s then v else al i):=
 ⟨h.bl.setCell (p:=⟨W.heap.size,s,none⟩) (aL _) _,h.ba.set hs v⟩
theorem LV.draw {W wr:World}{n:Nat}{al:Nat->Bool}(h:LV W wr n al)(q:Nat):LV W (wr.drewN q) n al:=
 ⟨⟨h.bl.os,h.bl.tape,h.bl.output,h.bl.size,h.bl.block⟩,⟨h.ba.c,h.ba.f⟩⟩
theorem LV.congr {W wr:World}{n:Nat}{al al':Nat->Bool}(h:LV W wr n al)(he:∀i,i<n->al i=al' i):LV W wr n al':=
 ⟨h.bl,⟨fun i hi=>by rw[←he i hi];exact h.ba.c i hi,h.ba.f⟩⟩
end Go.Proofs.YtgjgjgihceijnaaGreat
namespace Go.Proofs.YtgjgjgihceijnaaGreat
open Go.RowKit Go.Stn
theorem Is {c:Nat}(h:c<256):(oG c).1<256:=by
 unfold oG;split<;> (try split)<;> simp<;> omega
theorem Au {s:ByteArray}{i:Nat}(h:(kK s i).2.2=true):i<(kK s i).2.1/\(kK s i).2.1<=s.size/\(kK s i).1<256:=by
 unfold kK at*;by_cases h1:s.size<=i
 ·rw[if_pos h1]at h;cases h
 ·rw[if_neg h1]at h ⊢;by_cases h2:bt s i=92
  ·rw[if_pos h2]at h ⊢;by_cases h3:s.size<=i+1
   ·rw[if_pos h3]at h;cases h
   ·rw[if_neg h3];exact⟨by simp,by simp;omega,Is (jS s _)⟩
  ·rw[if_neg h2];exact⟨by simp,by simp;omega,jS s _⟩
def Y1 (s:ByteArray)(k n:Nat)(f:Nat->Bool)(a:Nat):Option ((Nat->Bool)×Nat):=if k=0 then jX s a else eV s n f a
theorem Oq {s:ByteArray}{k n:Nat}{f:Nat->Bool}{a:Nat}(hk:0<k)(hn:0<n)(ha:a<s.size)(hb:bt s a=93):Y1 s k n f a=some (f,a+1):=by
 unfold Y1;rw[if_neg (by omega)];obtain⟨m,rfl⟩:∃m,n=m+1:=⟨n - 1,by omega⟩
 unfold eV;have:isB s 93 a=true:=by have:=dF ha 93;rw[show((93:Nat):Int)=93 from rfl]at this;rw[this];simp[hb]
 rw[if_pos this]
theorem Nd {s:ByteArray}{k n:Nat}{f:Nat->Bool}{a:Nat}(h0:k=0->f=aP)(hn:0<k->s.size<n+a)(hn0:0<n)(hno:¬(0<k/\a<s.size/\bt s a=93)):
  ∃m,s.size<m+(a+1)/\0<m/\Y1 s k n f a=match cW s f a with
   | none=>none
   | some (g,a1)=>Y1 s (k+1) m g a1:=by
 by_cases hk:k=0
 ·subst hk;rw[h0 rfl];refine⟨s.size+1,by omega,by omega, ?_⟩;unfold Y1;rw[if_pos rfl];unfold jX
  rfl
 ·obtain⟨m,rfl⟩:∃m,n=m+1:=⟨n - 1,by omega⟩
  have hz:isB s 93 a=false:=by
   by_cases hl:a<s.size
   ·have:=dF hl 93;rw[show((93:Nat):Int)=93 from rfl]at this;rw[this,decide_eq_false_iff_not];exact fun e=>hno ⟨by omega,hl,e⟩
   ·exact pL (by omega) 93
  by_cases hm:0<m
  ·refine⟨m,by have:=hn (by omega);omega,hm, ?_⟩;unfold Y1;rw[if_neg hk]
   conv=>lhs;unfold eV
   rw[hz,if_neg (by simp)]
   cases cW s f a with
   | none=>rfl
   | some p=>simp
  · -- no byte is left
   have he:s.size<=a:=by have:=hn (by omega);omega
   refine⟨s.size+1,by omega,by omega, ?_⟩;have hms:cW s f a=none:=by
    unfold cW;rw[tS];have:(kK s a).2.2=false:=by unfold kK;rw[if_pos he]
    unfold Qm;rw[if_neg (by rw[this];simp)]
   unfold Y1;rw[if_neg hk]
   conv=>lhs;unfold eV
   rw[hz,if_neg (by simp),hms]
end Go.Proofs.YtgjgjgihceijnaaGreat
namespace Go.Proofs.YtgjgjgihceijnaaGreat
open Go.RowKit Go.Stn
def Sl (w:World)(G:Option ((Nat->Bool)×Nat))(e:Ending)(w':World):Prop:=
 Below w.heap.size w w'/\match G with
  | none=>∃a:Int,e= .returned (.tuple #[.slice none 0 0,.int .i64 a,.bool false])
  | some (f,a)=>e= .returned (.tuple #[.slice (some ⟨w.heap.size,0,none⟩) 256 256,.int .i64 (a:Int),.bool true])/\BA w' w.heap.size 256 f
theorem Ff (s:ByteArray)(i:Nat)(w:World)(hs:s.size<=500)(hi:i<s.size):
  Calls Tryz.prog 129 #[.string s,.int .i64 (i:Int)] w fun e w'=>Sl w (wB s (i+1)) e w':=by
 obtain⟨i0,hi0,hz0,hz1,hz2⟩:=info_parts Tryz.infoBool1;have HI:Hid (Tryz.prog.info? 4=some i0/\i0.zero=some (.bool false)/\i0.size=1/\i0.bytes=1):=⟨hi0,hz0,hz1,hz2⟩
 clear hi0 hz0 hz1 hz2;go_enter Tryz.func129,Tryz.ntmps129;go_upto_region 2 with(first | (at_make;refine wpList_make_full w rfl _ _ 80 rfl w.heap.size 4 i0 (.bool false) 1 Tryz.underlying80 HI.out.1 HI.out.2.1 HI.out.2.2.1 .i64 .i64 _ 256 256 rfl rfl rfl rfl (by rw[HI.out.2.2.2];omega) (by unfold maxLen;omega) (aL _) ?_;intro w1 hown hg;have HLV:Hid (LV w w1 256 (fun _=>false)):=⟨⟨hg.os,hg.tape,hg.output,hg.size,fun k hk=>hg.block k hk (by simp)⟩,BA.new hown⟩;clear hown hg))
 have HS:Hid (wB s (i+1)=if isB s 94 (i+1)=true then(match jX s (i+1+1)with | none=>none | some (f,a1)=>some ((fun i=> !(f i)),a1))else jX s (i+1)):=rfl
 go_cut [8] from 17 to 28 (fun nb wc=>nb= .bool (isB s 94 (i+1))/\LV w wc 256 (fun _=>false))
 case first=>
  by_cases h1:i+1<s.size
  ·have hb:(s[i+1]'h1).toNat=bt s (i+1):=jE s (i+1) h1;have d1:decide ((i:Int)+1<(s.size:Int))=true:=by simp;omega
   have hiI:(0:Int)<=(i:Int)+1/\(i:Int)+1<(s.size:Int):=by omega
   have HP:Hid (isB s 94 (i+1)=decide (bt s (i+1)=94)):=dF h1 94;generalize bt s (i+1)=y at*;by_cases h2:y=94
   ·have d2:((y:Int)==94)=true:=by rw[h2];rfl
    have HQ:Hid (isB s 94 (i+1)=true):=by unfold Hid;rw[HP.out];simp[h2]
    clear h2;go_wp2;go_meet
    case rel=>exact⟨by rw[HQ.out],⟨HLV.out.bl,HLV.out.ba⟩⟩
   ·have d2:((y:Int)==94)=false:=by rw[beq_eq_false_iff_ne];omega
    have HQ:Hid (isB s 94 (i+1)=false):=by unfold Hid;rw[HP.out];simp[h2]
    clear h2;go_wp2;go_meet
    case rel=>exact⟨by rw[HQ.out],⟨HLV.out.bl,HLV.out.ba⟩⟩
  ·have d1:decide ((i:Int)+1<(s.size:Int))=false:=by simp;omega
   have HQ:Hid (isB s 94 (i+1)=false):=pL (by omega) 94;go_wp2;go_meet
   case rel=>exact⟨by rw[HQ.out],⟨HLV.out.bl,HLV.out.ba⟩⟩
 case rest=>
  obtain⟨rfl,hl0⟩:=hcut;replace hl0:=aA hl0;clear HLV;generalize isB s 94 (i+1)=b at*;go_upto_if 31 with fail
  go_cut [1] from 32 to 33 (fun x wx=>∃a:Nat,x= .int .i64 (a:Int)/\a<=s.size+1/\LV w wx 256 (fun _=>false)/\wB s (i+1)=if b=true then(match jX s a with | none=>none | some (f,a1)=>some ((fun i=> !(f i)),a1))else jX s a)
  case first=>
   cases b with
   | true=>
    go_wp2;go_meet
    case rel=>exact⟨i+1+1,by go_num,by omega,hl0.out,HS.out⟩
   | false=>
    go_wp2;go_meet
    case rel=>exact⟨i+1,by go_num,by omega,hl0.out,HS.out⟩
  case rest=>
   obtain⟨a0,rfl,ha0,hl1,hset⟩:=hcut;replace hl1:=aA hl1;obtain⟨GX,hGX⟩:∃X,wB s (i+1)=X:=⟨_,rfl⟩
   rw[hGX]at hset;replace hset:=aA hset;have HGX:=aA hGX;clear HS hl0 hGX;obtain⟨G,hG⟩:∃G,jX s a0=G:=⟨_,rfl⟩
   have HG:=aA hG;rw[hG]at hset;clear hG;go_upto_block 0 with fail
   go_cut [1,9,10,11,12,13,14] from 34 to 98 (fun x _ _ _ _ _ _ wx=>∃(f:Nat->Bool) (a:Nat),x= .int .i64 (a:Int)/\a<s.size/\LV w wx 256 f/\G=some (f,a+1))
   case first=>
    go_wp2_with fail
    go_loopw [1,9,10,11,12,13,14] (fun x kv _ _ _ _ _ wr=>∃(k n:Nat) (f:Nat->Bool) (a:Nat),kv= .int .i64 (k:Int)/\x= .int .i64 (a:Int)/\a<=s.size+1/\k<=a/\LV w wr 256 f/\G=Y1 s k n f a/\(k=0->f=aP)/\(0<k->s.size<n+a)/\0<n) (fun x _ _ _ _ _ _ _=>s.size+2 - (intOf x).toNat)
    case atStart=>exact⟨0,1,aP,a0,rfl,rfl,ha0,by omega,hl1.out,HG.out.symm,fun _=>rfl,fun h=>by omega,by omega⟩
    case round=>
     obtain⟨k,n,f,a,rfl,rfl,ha,hka,hl2,hg,hz,hn,hn0⟩:=hrel;replace hl2:=aA hl2;by_cases hend:0<k/\a<s.size/\bt s a=93
     ·have HE:Hid (G=some (f,a+1)):=hg.trans (Oq hend.1 hn0 hend.2.1 hend.2.2);obtain⟨e1,e2,e3⟩:=hend;have hb:(s[a]'e2).toNat=bt s a:=jE s a e2;rw[e3]at hb;have d1:decide ((0:Int)<(k:Int))=true:=by simp;omega
      have d2:decide ((a:Int)<(s.size:Int))=true:=by simp;omega
      have haI:(0:Int)<=(a:Int)/\(a:Int)<(s.size:Int):=by omega
      clear e3 hz hn hg HG hset hl1;go_wp2;go_meet
      case rel=>exact⟨f,a,rfl,e2,hl2.out,HE.out⟩
     ·obtain⟨m,hm1,hm2,hm3⟩:=Nd hz hn hn0 hend;have HGM:=aA (hg.trans hm3);clear hg hm3 hz hn HG hl1;have HNE:=aA hend;clear hend;go_upto_region 8 with fail
      go_cut [49] from 36 to 48 (fun v wx=>v= .bool false/\LV w wx 256 f)
      case first=>
       by_cases hk:0<k
       ·have d1:decide ((0:Int)<(k:Int))=true:=by simp;omega
        by_cases e2:a<s.size
        ·have hb:(s[a]'e2).toNat=bt s a:=jE s a e2;have d2:decide ((a:Int)<(s.size:Int))=true:=by simp;omega
         have haI:(0:Int)<=(a:Int)/\(a:Int)<(s.size:Int):=by omega
         have d3:((bt s a:Int)==93)=false:=by rw[beq_eq_false_iff_ne];intro e3;exact HNE.out ⟨hk,e2,by omega⟩
         generalize bt s a=y at*;go_wp2;go_meet
         case rel=>exact⟨rfl,hl2.out⟩
        ·have d2:decide ((a:Int)<(s.size:Int))=false:=by simp;omega
         go_wp2;go_meet
         case rel=>exact⟨rfl,hl2.out⟩
       ·have d1:decide ((0:Int)<(k:Int))=false:=by simp;omega
        go_wp2;go_meet
        case rel=>exact⟨rfl,hl2.out⟩
      case rest=>
       obtain⟨rfl,hl3⟩:=hcut;replace hl3:=aA hl3;clear hl2 HNE;go_wp2_with fail;refine(Q3 s a _ (by omega) (by omega)).mono ?_;rintro e w5 ⟨rfl,q,rfl⟩;have HIT:=aA (@tS s a);have HIO:=aA (@Au s a);generalize kK s a=p at*;obtain⟨lo,nx,ok⟩:=p
       cases ok with
       | false=>
        have HN:Hid (GX=none):=by
         have hm:cW s f a=none:=by unfold cW;rw[HIT.out];rfl
         have hgn:G=none:=by rw[HGM.out,hm]
         unfold Hid;rw[hset.out,hgn];split<;> rfl
        have HB:=aA (hl3.out.draw q).bl;clear HIT HIO HGM hset;go_wp2;go_ret3;rw[HGX.out,HN.out];exact⟨HB.out,_,rfl⟩
       | true=>
        obtain⟨hx1,hx2,hx3⟩:=HIO.out rfl;simp only at hx1 hx2 hx3;clear HIO;go_upto_region 13 with fail
        go_cut [70] from 61 to 69 (fun v wx=>v= .bool (isB s 45 nx)/\LV w wx 256 f)
        case first=>
         have HL:=aA (hl3.out.draw q);by_cases e2:nx<s.size
         ·have hb:(s[nx]'e2).toNat=bt s nx:=jE s nx e2;have d2:decide ((nx:Int)<(s.size:Int))=true:=by simp;omega
          have haI:(0:Int)<=(nx:Int)/\(nx:Int)<(s.size:Int):=by omega
          have HP:Hid (isB s 45 nx=decide (bt s nx=45)):=dF e2 45;generalize bt s nx=y at*;by_cases h2:y=45
          ·have d3:((y:Int)==45)=true:=by rw[h2];rfl
           have HQ:Hid (isB s 45 nx=true):=by unfold Hid;rw[HP.out];simp[h2]
           clear h2;go_wp2;go_meet
           case rel=>exact⟨by rw[HQ.out],HL.out⟩
          ·have d3:((y:Int)==45)=false:=by rw[beq_eq_false_iff_ne];omega
           have HQ:Hid (isB s 45 nx=false):=by unfold Hid;rw[HP.out];simp[h2]
           clear h2;go_wp2;go_meet
           case rel=>exact⟨by rw[HQ.out],HL.out⟩
         ·have d2:decide ((nx:Int)<(s.size:Int))=false:=by simp;omega
          have HQ:Hid (isB s 45 nx=false):=pL (by omega) 45;go_wp2;go_meet
          case rel=>exact⟨by rw[HQ.out],HL.out⟩
        case rest=>
         obtain⟨rfl,hl4⟩:=hcut;replace hl4:=aA hl4;clear hl3;have HMB:Hid (cW s f a=if isB s 45 nx=false then some (cK f lo lo,nx)else match cM s dN (nx+1)with | none=>none | some (y,a2)=>if y<(lo:Int)then none else some (cK f lo y,a2)):=by unfold Hid cW;rw[HIT.out];rfl
         clear HIT;generalize isB s 45 nx=bb at*;go_upto_if 70 with fail
         go_cut [11,12,13] from 71 to 86 (fun nv _ hv wx=>∃h2 n2:Nat,hv= .int .u8 (h2:Int)/\nv= .int .i64 (n2:Int)/\lo<=h2/\h2<256/\a<n2/\n2<=s.size/\LV w wx 256 f/\cW s f a=some (cK f lo h2,n2))
         case first=>
          cases bb with
          | false=>
           go_wp2;go_meet
           case rel=>exact⟨lo,nx,rfl,rfl,aL _,hx3,hx1,hx2,hl4.out,HMB.out⟩
          | true=>
           have hit2:=fun w=>Q3 s (nx+1) w (by omega) (by omega)
           rw[show((nx+1:Nat):Int)=(nx:Int)+1 by omega]at hit2;have HS2:=aA (@tS s (nx+1));have HO2:=aA (@Au s (nx+1));generalize kK s (nx+1)=p2 at*;obtain⟨h2,n2,ok2⟩:=p2;go_wp2_with fail;refine(hit2 _).mono ?_;rintro e w6 ⟨rfl,q2,rfl⟩;have HLq:=aA (hl4.out.draw q2);clear hit2 hl4
           cases ok2 with
           | false=>
            have HN:Hid (GX=none):=by
             have hm:cW s f a=none:=by rw[HMB.out,if_neg (by simp),HS2.out];rfl
             have hgn:G=none:=by rw[HGM.out,hm]
             unfold Hid;rw[hset.out,hgn];split<;> rfl
            clear HMB HS2 HO2 HGM hset;go_wp2;go_ret3;rw[HGX.out,HN.out];exact⟨HLq.out.bl,_,rfl⟩
           | true=>
            obtain⟨y1,y2,y3⟩:=HO2.out rfl;have y1:nx+1<n2:=y1;have y2:n2<=s.size:=y2;have y3:h2<256:=y3;clear HO2;by_cases hlt:h2<lo
            ·have dl:decide ((h2:Int)<(lo:Int))=true:=by simp;omega
             have HN:Hid (GX=none):=by
              have hm:cW s f a=none:=by
               rw[HMB.out,if_neg (by simp),HS2.out];show(if((h2:Nat):Int)<(lo:Int)then none else some (cK f lo (h2:Int),n2))=none;rw[if_pos (by omega)]
              have hgn:G=none:=by rw[HGM.out,hm]
              unfold Hid;rw[hset.out,hgn];split<;> rfl
             clear HMB HS2 HGM hset;go_wp2;go_ret3;rw[HGX.out,HN.out];exact⟨HLq.out.bl,_,rfl⟩
            ·have dl:decide ((h2:Int)<(lo:Int))=false:=by simp;omega
             have HM2:Hid (cW s f a=some (cK f lo h2,n2)):=by
              unfold Hid;rw[HMB.out,if_neg (by simp),HS2.out];show(if((h2:Nat):Int)<(lo:Int)then none else some (cK f lo (h2:Int),n2))=_;rw[if_neg (by omega)]
             clear HMB HS2 HGM hset;go_wp2;go_meet
             case rel=>exact⟨h2,n2,rfl,rfl,by omega,y3,by omega,y2,HLq.out,HM2.out⟩
         case rest=>
          obtain⟨h2,n2,rfl,rfl,g1,g2,g3,g4,hl5,hmem⟩:=hcut;have HL5:=aA hl5;have HGN:Hid (G=Y1 s (k+1) m (cK f lo h2) n2):=by unfold Hid;rw[HGM.out,hmem]
          clear hl5 hmem HMB HGM hl4;go_upto_block 2 with fail
          go_cut [14] from 89 to 97 (fun _ wx=>LV w wx 256 (cK f lo h2))
          case first=>
           go_wp2_with fail
           go_loopw [14] (fun cv wr=>∃(c:Nat) (f2:Nat->Bool),lo<=c/\c<=h2+1/\cv= .int .i64 (c:Int)/\LV w wr 256 f2/\∀j,j<256->f2 j=(decide (lo<=j/\j<c) || f j)) (fun cv _=>h2+1 - (intOf cv).toNat)
           case atStart=>exact⟨lo,f,aL _,by omega,rfl,HL5.out,fun j _=>by rw[decide_eq_false (by omega)];rfl⟩
           case round=>
            obtain⟨c,f2,hc1,hc2,rfl,hlv,hff⟩:=hrel;have HLV:=aA hlv;have HFF:=aA hff;clear hlv hff;by_cases hle:c<=h2
            ·have dc:decide ((c:Int)<=(h2:Int))=true:=by simp;omega
             have hcI:(0:Int)<=(c:Int)/\(c:Int)<(256:Int):=by omega
             have z0:=HLV.out.ba.c c (by omega);have z1:=HLV.out.ba.f c;have HNX:Hid (∀j,j<256->(if j=c then true else f2 j)=(decide (lo<=j/\j<c+1) || f j)):=fun j hj=>by
              by_cases e:j=c
              ·rw[if_pos e,decide_eq_true (by omega)];rfl
              ·rw[if_neg e,HFF.out j hj];congr 1;rw[decide_eq_decide];omega
             go_wp2;go_roundw
             case rel=>exact⟨c+1,_,by omega,by omega,by go_num,HLV.out.set (by omega) true,HNX.out⟩
             case measure=>simp[intOf];omega
            ·have dc:decide ((c:Int)<=(h2:Int))=false:=by simp;omega
             have HE:Hid (LV w wr 256 (cK f lo h2)):=HLV.out.congr (fun j hj=>by
              rw[HFF.out j hj];unfold cK;congr 1;rw[decide_eq_decide];omega)
             go_wp2;go_meet
             case rel=>exact HE.out
          case rest=>
           have HL6:=aA hcut;clear hcut HL5;go_wp2;go_roundw
           case rel=>exact⟨k+1,m,_,n2,by go_num,rfl,by omega,by omega,HL6.out,HGN.out,fun h=>by omega,fun _=>by omega,hm2⟩
           case measure=>simp[intOf];omega
   case rest=>
    obtain⟨f,a,rfl,ha,hlv,hG⟩:=hcut;have HLV:=aA hlv;have HGE:Hid (GX=some ((fun j=>if b=true then !(f j)else f j),a+1)):=by
     unfold Hid;rw[hset.out,hG]
     cases b with
     | true=>rfl
     | false=>rfl
    clear hlv hG hset HG hl1;go_wp2_with fail
    go_loopw [15] (fun cv wr=>∃(c:Nat) (f2:Nat->Bool),c<=256/\cv= .int .i64 (c:Int)/\LV w wr 256 f2/\∀j,j<256->f2 j=if j<c then(if b=true then !(f j)else f j)else f j) (fun cv _=>256 - (intOf cv).toNat)
    case atStart=>exact⟨0,f,aT _,rfl,HLV.out,fun j _=>by rw[if_neg (by omega)]⟩
    case round=>
     obtain⟨c,f2,hc,rfl,hlv,hff⟩:=hrel;have HL2:=aA hlv;have HFF:=aA hff;clear hlv hff HLV;by_cases hlt:c<256
     ·have dc:decide ((c:Int)<(256:Int))=true:=by simp;omega
      have hcI:(0:Int)<=(c:Int)/\(c:Int)<(256:Int):=by omega
      have z0:=HL2.out.ba.c c hlt;have z1:=HL2.out.ba.f c;obtain⟨v,ev⟩:∃v,f2 c=v:=⟨_,rfl⟩
      rw[ev]at z0;have HNX:Hid (∀j,j<256->(if j=c then(v !=b)else f2 j)=if j<c+1 then(if b=true then !(f j)else f j)else f j):=fun j hj=>by
       have:=HFF.out j hj;by_cases e:j=c
       ·subst e;rw[if_neg (show¬j<j by omega)]at this;rw[if_pos rfl,if_pos (show j<j+1 by omega),←ev,this]
        cases b<;> cases f j<;> rfl
       ·rw[if_neg e,this];by_cases e2:j<c
        ·rw[if_pos e2,if_pos (show j<c+1 by omega)]
        ·rw[if_neg e2,if_neg (show¬j<c+1 by omega)]
      clear ev;go_wp2;go_roundw
      case rel=>exact⟨c+1,_,by omega,by go_num,HL2.out.set hlt (v !=b),HNX.out⟩
      case measure=>simp[intOf];omega
     ·have dc:decide ((c:Int)<(256:Int))=false:=by simp;omega
      have HE:Hid (LV w wr 256 (fun j=>if b=true then !(f j)else f j)):=HL2.out.congr (fun j hj=>by rw[HFF.out j hj,if_pos (by omega)]);go_wp2;go_ret3;rw[HGX.out,HGE.out];exact⟨HE.out.bl,by go_num,HE.out.ba⟩
end Go.Proofs.YtgjgjgihceijnaaGreat
namespace Go.Proofs.YtgjgjgihceijnaaGreat
open Go.RowKit Go.Stn
theorem Mw (c:Nat):dY (c:Int) dM=(gY (c:Int) && !amB c dM):=by
 unfold dY amB;congr 1;rw[Bool.eq_iff_iff,decide_eq_true_eq,Bool.not_eq_true',decide_eq_false_iff_not];constructor
 ·rintro h ⟨i,hi,e⟩;exact h i hi (by omega)
 ·intro h i hi e;exact h ⟨i,hi,by omega⟩
theorem Bn {s:ByteArray}{i:Nat}(h:i<s.size)(hb:bt s i=91):cD s i=wB s (i+1):=by
 unfold cD;have:isB s 91 i=true:=by have:=dF h 91;rw[show((91:Nat):Int)=91 from rfl]at this;rw[this];simp[hb]
 rw[if_pos this]
theorem Cw {s:ByteArray}{i:Nat}(h:i<s.size)(hb:bt s i=46):cD s i=some ((fun i=> !(aP i)),i+1):=by
 unfold cD;have h1:isB s 91 i=false:=by have:=dF h 91;rw[show((91:Nat):Int)=91 from rfl]at this;rw[this];simp[hb]
 have h2:isB s 46 i=true:=by have:=dF h 46;rw[show((46:Nat):Int)=46 from rfl]at this;rw[this];simp[hb]
 rw[h1,if_neg (by simp),if_pos h2]
theorem Bj {s:ByteArray}{i:Nat}(h:i+1<s.size)(hb:bt s i=92):cD s i=if(oG (bt s (i+1))).2=true then some (cK aP ((oG (bt s (i+1))).1:Int) ((oG (bt s (i+1))).1:Int),i+2)else none:=by
 unfold cD;have h1:isB s 91 i=false:=by have:=dF (show i<s.size by omega) 91;rw[show((91:Nat):Int)=91 from rfl]at this;rw[this];simp[hb]
 have h2:isB s 46 i=false:=by have:=dF (show i<s.size by omega) 46;rw[show((46:Nat):Int)=46 from rfl]at this;rw[this];simp[hb]
 have h3:isB s 92 i=true:=by have:=dF (show i<s.size by omega) 92;rw[show((92:Nat):Int)=92 from rfl]at this;rw[this];simp[hb]
 rw[h1,if_neg (by simp),h2,if_neg (by simp)];unfold cM;rw[if_pos h3,K2,if_neg (by omega)];unfold Qm
 cases (oG (bt s (i+1))).2 with
 | true=>rfl
 | false=>rfl
theorem O0 {s:ByteArray}{i:Nat}(h:i<s.size)(h1:bt s i≠91)(h2:bt s i≠46)(h3:¬(bt s i=92/\i+1<s.size)):cD s i=if(gY (bt s i:Int) && !amB (bt s i) dM)=true then some (cK aP (bt s i:Int) (bt s i:Int),i+1)else none:=by
 unfold cD;have e1:isB s 91 i=false:=by have:=dF h 91;rw[show((91:Nat):Int)=91 from rfl]at this;rw[this];simp[h1]
 have e2:isB s 46 i=false:=by have:=dF h 46;rw[show((46:Nat):Int)=46 from rfl]at this;rw[this];simp[h2]
 rw[e1,if_neg (by simp),e2,if_neg (by simp)];unfold cM;have e3:=dF h 92;rw[show((92:Nat):Int)=92 from rfl]at e3;rw[e3];by_cases hb:bt s i=92
 ·have hno:amB (bt s i) dM=true:=by rw[hb];decide+kernel
  rw[if_pos (by simp[hb]),K2,if_pos (by omega),hno];simp
 ·rw[if_neg (by simp[hb]),eY h,Mw]
  cases (gY (bt s i:Int) && !amB (bt s i) dM)with
  | true=>rfl
  | false=>rfl
theorem zD (c j:Nat):cK aP (c:Int) (c:Int) j=decide (j=c):=by
 unfold cK aP;rw[Bool.or_false,decide_eq_decide];omega
def Oz (w:World)(G:Option ((Nat->Bool)×Nat))(e:Ending)(w':World):Prop:=
 Below w.heap.size w w'/\match G with
  | none=>∃(v:Value) (a:Int),e= .returned (.tuple #[v,.int .i64 a,.bool false])
  | some (f,a)=>∃g,e= .returned (.tuple #[.slice (some ⟨g,0,none⟩) 256 256,.int .i64 (a:Int),.bool true])/\w.heap.size<=g/\g<w'.heap.size/\BA w' g 256 f
theorem Ie (s:ByteArray)(i:Nat)(w:World)(hs:s.size<=500)(hi:i<s.size):
  Calls Tryz.prog 123 #[.string s,.int .i64 (i:Int)] w fun e w'=>Oz w (cD s i) e w':=by
 obtain⟨i0,hi0,hz0,hz1,hz2⟩:=info_parts Tryz.infoBool1;have HI:Hid (Tryz.prog.info? 4=some i0/\i0.zero=some (.bool false)/\i0.size=1/\i0.bytes=1):=⟨hi0,hz0,hz1,hz2⟩
 clear hi0 hz0 hz1 hz2;have hb:(s[i]'hi).toNat=bt s i:=jE s i hi;have hlt:=jS s i;have hiI:(0:Int)<=(i:Int)/\(i:Int)<(s.size:Int):=by omega
 have HC1:=aA (@Bn s i hi);have HC2:=aA (@Cw s i hi);have HC3:=aA (@Bj s i);have HC4:=aA (@O0 s i hi);obtain⟨A,hA⟩:∃A,cD s i=A:=⟨_,rfl⟩
 rw[hA]at HC1 HC2 HC3 HC4;have HA:=aA hA;clear hA;obtain⟨y,hy⟩:∃y,bt s i=y:=⟨_,rfl⟩
 rw[hy]at hb hlt HC1 HC2 HC3 HC4;clear hy;go_enter Tryz.func123,Tryz.ntmps123;go_upto_region 2 with(first | (at_make;refine wpList_make_full w rfl _ _ 80 rfl w.heap.size 4 i0 (.bool false) 1 Tryz.underlying80 HI.out.1 HI.out.2.1 HI.out.2.2.1 .i64 .i64 _ 256 256 rfl rfl rfl rfl (by rw[HI.out.2.2.2];omega) (by unfold maxLen;omega) (aL _) ?_;intro w1 hown hg;have hz1:=(hown.lt w.heap.size rfl).2;have HLV:Hid (LV w w1 256 (fun _=>false)):=⟨⟨hg.os,hg.tape,hg.output,hg.size,fun k hk=>hg.block k hk (by simp)⟩,BA.new hown⟩;clear hown hg))
 by_cases k1:y=91
 ·have t1:((y:Int)==91)=true:=by rw[k1];rfl
  have HE:=aA (HC1.out k1);clear k1 HC1 HC2 HC3 HC4;go_wp2_with fail;refine(Ff s i w1 hs hi).mono ?_;rintro e w2 ⟨hb2,hcase⟩;have HB2:=aA (HLV.out.bl.trans (hb2.mono (Nat.le_of_lt hz1)));have hz2:=hb2.size;rw[←HE.out]at hcase
  cases A with
  | none=>
   obtain⟨a,rfl⟩:=hcase;clear hb2;go_wp2;go_ret3;rw[HA.out];exact⟨HB2.out,_,_,rfl⟩
  | some p=>
   obtain⟨f,a⟩:=p;obtain⟨rfl,hba⟩:=hcase;have HBA:=aA hba;have hgz:w1.heap.size<w2.heap.size:=by
    have hc:=hba.c 0 (by omega);apply aO;intro hn;have:w2.heap[w1.heap.size]? =none:=by simp;omega
    unfold bC at hc;simp only[this]at hc
    cases hc
   clear hb2 hba;go_wp2;go_ret3;rw[HA.out];exact⟨HB2.out,_,rfl,by omega,hgz,HBA.out⟩
 ·have t1:((y:Int)==91)=false:=by rw[beq_eq_false_iff_ne];omega
  by_cases k2:y=46
  ·have t2:((y:Int)==46)=true:=by rw[k2];rfl
   have HE:=aA (HC2.out k2);clear k1 k2 HC1 HC2 HC3 HC4;go_wp2_with fail
   go_loopw [11] (fun cv wr=>∃(c:Nat) (f:Nat->Bool),c<=256/\cv= .int .i64 (c:Int)/\LV w wr 256 f/\∀j,j<c->f j=true) (fun cv _=>256 - (intOf cv).toNat)
   case atStart=>exact⟨0,_,aT _,rfl,HLV.out,fun j h=>absurd h (by omega)⟩
   case round=>
    obtain⟨c,f,hc,rfl,hlv,hff⟩:=hrel;have HL2:=aA hlv;have HFF:=aA hff;clear hlv hff HLV;by_cases hlc:c<256
    ·have hcI:(0:Int)<=(c:Int)/\(c:Int)<(256:Int):=by omega
     have z0:=HL2.out.ba.c c hlc;have z1:=HL2.out.ba.f c;have HNX:Hid (∀j,j<c+1->(if j=c then true else f j)=true):=fun j hj=>by
      by_cases e:j=c
      ·rw[if_pos e]
      ·rw[if_neg e];exact HFF.out j (by omega)
     go_wp2;go_roundw
     case rel=>exact⟨c+1,_,by omega,by go_num,HL2.out.set hlc true,HNX.out⟩
     case measure=>simp[intOf];omega
    ·have dc:decide ((c:Int)<(256:Int))=false:=by simp;omega
     have HE2:Hid (LV w wr 256 (fun i=> !(aP i))):=HL2.out.congr (fun j hj=>by rw[HFF.out j (by omega)];rfl);have hgz:w.heap.size<wr.heap.size:=by
      have hc:=HE2.out.ba.c 0 (by omega);apply aO;intro hn;have:wr.heap[w.heap.size]? =none:=by simp;omega
      unfold bC at hc;simp only[this]at hc
      cases hc
     go_wp2;go_ret3;rw[HA.out,HE.out];exact⟨HE2.out.bl,_,by go_num,aL _,hgz,HE2.out.ba⟩
  ·have t2:((y:Int)==46)=false:=by rw[beq_eq_false_iff_ne];omega
   by_cases k3:y=92/\i+1<s.size
   ·obtain⟨k4,k5⟩:=k3;have t3:((y:Int)==92)=true:=by rw[k4];rfl
    have d1:decide ((i:Int)+1<(s.size:Int))=true:=by simp;omega
    have hb1:(s[i+1]'k5).toNat=bt s (i+1):=jE s (i+1) k5;have hjI:(0:Int)<=(i:Int)+1/\(i:Int)+1<(s.size:Int):=by omega
    have HE:=aA (HC3.out k5 k4);have hlt1:=jS s (i+1);obtain⟨c,hc⟩:∃c,bt s (i+1)=c:=⟨_,rfl⟩
    rw[hc]at hb1 HE hlt1;have hlc:=Is hlt1;have hes:=fun W=>zT c W hlt1
    obtain⟨x,ok,hx⟩:∃x ok,oG c=(x,ok):=⟨_,_,rfl⟩
    rw[hx]at HE hlc hes;have HES:=aA hes;have hlc:x<256:=hlc;clear k1 k2 k4 HC1 HC2 HC3 HC4 hc hx hes;go_wp2_with fail;refine(HES.out _).mono ?_;rintro e w2 ⟨rfl,q,rfl⟩;have HL2:=aA (HLV.out.draw q);have z0:=HL2.out.ba.c x hlc;have z1:=HL2.out.ba.f x;have hxI:(0:Int)<=(x:Int)/\(x:Int)<(256:Int):=by omega
    have HL3:=aA ((HL2.out.set hlc true).congr (al':=cK aP (x:Int) (x:Int)) (fun j _=>by rw[zD];by_cases e:j=x<;> simp[e]));have hz3:w.heap.size<(w1.drewN q).heap.size:=hz1;clear HLV;go_wp2;go_ret3;rw[HA.out,HE.out]
    cases ok with
    | true=>exact⟨HL3.out.bl,_,by go_num,aL _,by simpa[aR]using hz1,HL3.out.ba⟩
    | false=>exact⟨HL3.out.bl,_,_,rfl⟩
   ·have HE:=aA (HC4.out k1 k2 k3);have HK3:=aA k3;have HVS:=aA (fun W=>wA y W hlt);have HAM:=aA (fun W=>vB y dM W (by decide));have HSP:Hid (dM=⟨#[92,124,42,43,63,46,40,41,91,93]⟩):=rfl;generalize gY (y:Int)=vs at*;generalize amB y dM=am at*;rw[HSP.out]at HAM;clear k1 k2 HC1 HC2 HC3 HC4;by_cases k4:y=92
    ·have t3:((y:Int)==92)=true:=by rw[k4];rfl
     have d1:decide ((i:Int)+1<(s.size:Int))=false:=by
      have:¬i+1<s.size:=fun h=>HK3.out ⟨k4,h⟩
      simp;omega
     clear k4;go_wp2_with fail;refine(HAM.out _).mono ?_;rintro e w2 ⟨rfl,q,hw2⟩;have HL1:Hid (LV w w2 256 (fun _=>false)):=by unfold Hid;rw[hw2];exact HLV.out.draw q
     have hzw:w.heap.size<w2.heap.size:=by rw[hw2];exact hz1
     clear hw2;go_wp2_with fail;refine(HVS.out _).mono ?_;rintro e w3 ⟨rfl,q2,hw3⟩;have HL2:Hid (LV w w3 256 (fun _=>false)):=by unfold Hid;rw[hw3];exact HL1.out.draw q2
     have hzw3:w.heap.size<w3.heap.size:=by rw[hw3];exact hzw
     clear hw3 HL1;have z0:=HL2.out.ba.c y hlt;have z1:=HL2.out.ba.f y;have hxI:(0:Int)<=(y:Int)/\(y:Int)<(256:Int):=by omega
     have HL3:=aA ((HL2.out.set hlt true).congr (al':=cK aP (y:Int) (y:Int)) (fun j _=>by rw[zD];by_cases e:j=y<;> simp[e]));have hz3:w.heap.size<(w3.setCell ⟨w.heap.size,y,none⟩ (.bool true)).heap.size:=by simpa[aR]using hzw3
     clear HLV
     cases vs with
     | false=>
      go_wp2;go_ret3;rw[HA.out,HE.out];exact⟨HL3.out.bl,_,_,rfl⟩
     | true=>
      cases am with
      | true=>
       go_wp2;go_ret3;rw[HA.out,HE.out];exact⟨HL3.out.bl,_,_,rfl⟩
      | false=>
       go_wp2;go_ret3;rw[HA.out,HE.out];exact⟨HL3.out.bl,_,by go_num,aL _,hz3,HL3.out.ba⟩
    ·have t3:((y:Int)==92)=false:=by rw[beq_eq_false_iff_ne];omega
     clear k4;go_wp2_with fail;refine(HAM.out _).mono ?_;rintro e w2 ⟨rfl,q,hw2⟩;have HL1:Hid (LV w w2 256 (fun _=>false)):=by unfold Hid;rw[hw2];exact HLV.out.draw q
     have hzw:w.heap.size<w2.heap.size:=by rw[hw2];exact hz1
     clear hw2;go_wp2_with fail;refine(HVS.out _).mono ?_;rintro e w3 ⟨rfl,q2,hw3⟩;have HL2:Hid (LV w w3 256 (fun _=>false)):=by unfold Hid;rw[hw3];exact HL1.out.draw q2
     have hzw3:w.heap.size<w3.heap.size:=by rw[hw3];exact hzw
     clear hw3 HL1;have z0:=HL2.out.ba.c y hlt;have z1:=HL2.out.ba.f y;have hxI:(0:Int)<=(y:Int)/\(y:Int)<(256:Int):=by omega
     have HL3:=aA ((HL2.out.set hlt true).congr (al':=cK aP (y:Int) (y:Int)) (fun j _=>by rw[zD];by_cases e:j=y<;> simp[e]));have hz3:w.heap.size<(w3.setCell ⟨w.heap.size,y,none⟩ (.bool true)).heap.size:=by simpa[aR]using hzw3
     clear HLV
     cases vs with
     | false=>
      go_wp2;go_ret3;rw[HA.out,HE.out];exact⟨HL3.out.bl,_,_,rfl⟩
     | true=>
      cases am with
      | true=>
       go_wp2;go_ret3;rw[HA.out,HE.out];exact⟨HL3.out.bl,_,_,rfl⟩
      | false=>
       go_wp2;go_ret3;rw[HA.out,HE.out];exact⟨HL3.out.bl,_,by go_num,aL _,hz3,HL3.out.ba⟩
end Go.Proofs.YtgjgjgihceijnaaGreat
