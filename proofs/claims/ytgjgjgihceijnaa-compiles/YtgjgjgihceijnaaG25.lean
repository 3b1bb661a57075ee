/- Texts put together: KpLive, RtClass, RtClassW, RtPlace. -/
import Derived.Test.YtgjgjgihceijnaaG24
import Derived.Test.YtgjgjgihceijnaaG21
import Derived.Test.YtgjgjgihceijnaaG01
import Derived.Test.YtgjgjgihceijnaaG02
import Derived.Test.YtgjgjgihceijnaaG03
import Derived.Deep.RegionLaw
import Derived.Deep.QuietTactic
import Derived.BigQuiet
import Derived.Test.YtgjgjgihceijnaaChecked
import Derived.WalkKit
import Derived.WalkSpells
import Derived.WalkLawsBesides
import Derived.Test.YtgjgjgihceijnaaG18
namespace Go.Proofs.Ytgjgjgihceijnaa
open Go.RowKit Go.Stn
structure BA (w:World)(ab n:Nat)(al:Nat→Bool):Prop where
 c:∀i,i<n→w.cell? ⟨ab,i,none⟩=some (.bool (al i))
 f:∀i,w.frozen? ⟨ab,i,none⟩=false
theorem BA.set {w:World}{ab n:Nat}{al:Nat→Bool}(h:BA w ab n al){s:Nat}(hs:s<n)(v:Bool):BA (w.setCell ⟨ab,s,none⟩ (.bool v)) ab n (fun i=>if i=s then v else al i):=by
 refine⟨fun i hi=> ?_,fun i=>by rw[World.frozen?_setCell];exact h.f i⟩
 by_cases e:i=s
 ·subst e;rw[if_pos rfl];exact World.cell?_setCell_same _ _ _ (h.c i hi)
 ·rw[if_neg e,World.cell?_setCell_other (h:=by intro e';injection e';omega)];exact h.c i hi
theorem Try.infoBool1:(Try.prog.info? 4).map (fun i=>(i.zero,i.size,i.bytes))=some (some (.bool false),1,1):=by kernel_rfl
theorem BA.new {w:World}{base ab n:Nat}{e:TypeId}(h:w.ownsRow base e 1 (.slice (some ⟨ab,0,none⟩) n n) n (madeCells (Value.bool false).cells (n*1)).toList):BA w ab n (fun _=>false):=by
 refine⟨fun i hi=> ?_,fun i=>row_frozen h i⟩
 have hg:(madeCells (Value.bool false).cells (n*1)).toList[i]? =some (.bool false):=by
  rw[Nat.mul_one,Array.getElem?_toList]
  exact made_get n i hi
 have:=h.cells rfl i _ hg
 rw[addr_add]at this;exact this
theorem BA.below {w w':World}{ab n:Nat}{al:Nat→Bool}(h:BA w ab n al){B:Nat}(hB:Below B w w')(hb:ab<B):BA w' ab n al:=
 ⟨fun i hi=>(hB.cell (p:=⟨ab,i,none⟩) hb).trans (h.c i hi),fun i=>(hB.frozen (p:=⟨ab,i,none⟩) hb).trans (h.f i)⟩
structure LV (W wr:World)(n:Nat)(al:Nat→Bool):Prop where
 bl:Below W.heap.size W wr
 ba:BA wr W.heap.size n al
theorem LV.set {W wr:World}{n:Nat}{al:Nat→Bool}(h:LV W wr n al){s:Nat}(hs:s<n)(v:Bool):LV W (wr.setCell ⟨W.heap.size,s,none⟩ (.bool v)) n (fun i=>if i=s then v else al i):=
 ⟨h.bl.setCell (p:=⟨W.heap.size,s,none⟩) (Nat.le_refl _) _,h.ba.set hs v⟩
theorem LV.draw {W wr:World}{n:Nat}{al:Nat→Bool}(h:LV W wr n al)(q:Nat):LV W (wr.drewN q) n al:=
 ⟨⟨h.bl.os,h.bl.tape,h.bl.output,h.bl.size,h.bl.block⟩,⟨h.ba.c,h.ba.f⟩⟩
theorem LV.congr {W wr:World}{n:Nat}{al al':Nat→Bool}(h:LV W wr n al)(he:∀i,i<n→al i=al' i):LV W wr n al':=
 ⟨h.bl,⟨fun i hi=>by rw[←he i hi];exact h.ba.c i hi,h.ba.f⟩⟩
end Go.Proofs.Ytgjgjgihceijnaa

namespace Go.Proofs.Ytgjgjgihceijnaa
open Go.RowKit Go.Stn
theorem escR_lt {c:Nat}(h:c<256):(escR c).1<256:=by
 unfold escR;split<;> (try split)<;> simp<;> omega
theorem itemR_ok {s:ByteArray}{i:Nat}(h:(itemR s i).2.2=true):i<(itemR s i).2.1∧(itemR s i).2.1≤s.size∧(itemR s i).1<256:=by
 unfold itemR at*
 by_cases h1:s.size≤i
 ·rw[if_pos h1]at h;cases h
 ·rw[if_neg h1]at h ⊢
  by_cases h2:bt s i=92
  ·rw[if_pos h2]at h ⊢
   by_cases h3:s.size≤i+1
   ·rw[if_pos h3]at h;cases h
   ·rw[if_neg h3];exact⟨by simp,by simp;omega,escR_lt (bt_lt s _)⟩
  ·rw[if_neg h2];exact⟨by simp,by simp;omega,bt_lt s _⟩
def setG (s:ByteArray)(k n:Nat)(f:Nat→Bool)(a:Nat):Option ((Nat→Bool)×Nat):=if k=0 then setRX s a else setLoopX s n f a
theorem setG_end {s:ByteArray}{k n:Nat}{f:Nat→Bool}{a:Nat}(hk:0<k)(hn:0<n)(ha:a<s.size)(hb:bt s a=93):setG s k n f a=some (f,a+1):=by
 unfold setG
 rw[if_neg (by omega)]
 obtain⟨m,rfl⟩:∃m,n=m+1:=⟨n - 1,by omega⟩
 unfold setLoopX
 have:isB s 93 a=true:=by have:=peek_byte ha 93;rw[show((93:Nat):Int)=93 from rfl]at this;rw[this];simp[hb]
 rw[if_pos this]
theorem setG_more {s:ByteArray}{k n:Nat}{f:Nat→Bool}{a:Nat}(h0:k=0→f=zeroF)(hn:0<k→s.size<n+a)(hn0:0<n)(hno:¬(0<k∧a<s.size∧bt s a=93)):
  ∃m,s.size<m+(a+1)∧0<m∧setG s k n f a=match memberX s f a with
   | none=>none
   | some (g,a1)=>setG s (k+1) m g a1:=by
 by_cases hk:k=0
 ·subst hk
  rw[h0 rfl]
  refine⟨s.size+1,by omega,by omega, ?_⟩
  unfold setG
  rw[if_pos rfl]
  unfold setRX
  rfl
 ·obtain⟨m,rfl⟩:∃m,n=m+1:=⟨n - 1,by omega⟩
  have hz:isB s 93 a=false:=by
   by_cases hl:a<s.size
   ·have:=peek_byte hl 93
    rw[show((93:Nat):Int)=93 from rfl]at this
    rw[this,decide_eq_false_iff_not]
    exact fun e=>hno ⟨by omega,hl,e⟩
   ·exact peek_end (by omega) 93
  by_cases hm:0<m
  ·refine⟨m,by have:=hn (by omega);omega,hm, ?_⟩
   unfold setG
   rw[if_neg hk]
   conv=>lhs;unfold setLoopX
   rw[hz,if_neg (by simp)]
   cases memberX s f a with
   | none=>rfl
   | some p=>simp
  · -- no byte is left
   have he:s.size≤a:=by have:=hn (by omega);omega
   refine⟨s.size+1,by omega,by omega, ?_⟩
   have hms:memberX s f a=none:=by
    unfold memberX
    rw[single_item]
    have:(itemR s a).2.2=false:=by unfold itemR;rw[if_pos he]
    unfold optR
    rw[if_neg (by rw[this];simp)]
   unfold setG
   rw[if_neg hk]
   conv=>lhs;unfold setLoopX
   rw[hz,if_neg (by simp),hms]
end Go.Proofs.Ytgjgjgihceijnaa

namespace Go.Proofs.Ytgjgjgihceijnaa
open Go.RowKit Go.Stn
def ClassOut (w:World)(G:Option ((Nat→Bool)×Nat))(e:Ending)(w':World):Prop:=
 Below w.heap.size w w'∧match G with
  | none=>∃a:Int,e= .returned (.tuple #[.slice none 0 0,.int .i64 a,.bool false])
  | some (f,a)=>e= .returned (.tuple #[.slice (some ⟨w.heap.size,0,none⟩) 256 256,.int .i64 (a:Int),.bool true])∧BA w' w.heap.size 256 f
set_option maxRecDepth 100000 in
set_option maxHeartbeats 2000000 in
theorem rclass_any (s:ByteArray)(i:Nat)(w:World)(hs:s.size≤500)(hi:i<s.size):
  Calls Try.prog 142 #[.string s,.int .i64 (i:Int)] w fun e w'=>ClassOut w (setX s (i+1)) e w':=by
 obtain⟨i0,hi0,hz0,hz1,hz2⟩:=info_parts Try.infoBool1
 have HI:Hid (Try.prog.info? 4=some i0∧i0.zero=some (.bool false)∧i0.size=1∧i0.bytes=1):=⟨hi0,hz0,hz1,hz2⟩
 clear hi0 hz0 hz1 hz2
 go_enter Try.func142,Try.ntmps142
 go_upto_region 2 with(first | (at_make;refine wpList_make_full w rfl _ _ 94 rfl w.heap.size 4 i0 (.bool false) 1 Try.underlying94 HI.out.1 HI.out.2.1 HI.out.2.2.1 .i64 .i64 _ 256 256 rfl rfl rfl rfl (by rw[HI.out.2.2.2];omega) (by unfold maxLen;omega) (Nat.le_refl _) ?_;intro w1 hown hg;have HLV:Hid (LV w w1 256 (fun _=>false)):=⟨⟨hg.os,hg.tape,hg.output,hg.size,fun k hk=>hg.block k hk (by simp)⟩,BA.new hown⟩;clear hown hg))
 have HS:Hid (setX s (i+1)=if isB s 94 (i+1)=true then(match setRX s (i+1+1)with | none=>none | some (f,a1)=>some ((fun i=> !(f i)),a1))else setRX s (i+1)):=rfl
 go_cut [8] from 17 to 28 (fun nb wc=>nb= .bool (isB s 94 (i+1))∧LV w wc 256 (fun _=>false))
 case first=>
  by_cases h1:i+1<s.size
  ·have hb:(s[i+1]'h1).toNat=bt s (i+1):=bt_eq s (i+1) h1
   have d1:decide ((i:Int)+1<(s.size:Int))=true:=by simp;omega
   have hiI:(0:Int)≤(i:Int)+1∧(i:Int)+1<(s.size:Int):=by omega
   have HP:Hid (isB s 94 (i+1)=decide (bt s (i+1)=94)):=peek_byte h1 94
   generalize bt s (i+1)=y at*
   by_cases h2:y=94
   ·have d2:((y:Int)==94)=true:=by rw[h2];rfl
    have HQ:Hid (isB s 94 (i+1)=true):=by unfold Hid;rw[HP.out];simp[h2]
    clear h2
    go_wp2
    go_meet
    case rel=>exact⟨by rw[HQ.out],⟨HLV.out.bl,HLV.out.ba⟩⟩
   ·have d2:((y:Int)==94)=false:=by rw[beq_eq_false_iff_ne];omega
    have HQ:Hid (isB s 94 (i+1)=false):=by unfold Hid;rw[HP.out];simp[h2]
    clear h2
    go_wp2
    go_meet
    case rel=>exact⟨by rw[HQ.out],⟨HLV.out.bl,HLV.out.ba⟩⟩
  ·have d1:decide ((i:Int)+1<(s.size:Int))=false:=by simp;omega
   have HQ:Hid (isB s 94 (i+1)=false):=peek_end (by omega) 94
   go_wp2
   go_meet
   case rel=>exact⟨by rw[HQ.out],⟨HLV.out.bl,HLV.out.ba⟩⟩
 case rest=>
  obtain⟨rfl,hl0⟩:=hcut
  replace hl0:=hidZ hl0
  clear HLV
  generalize isB s 94 (i+1)=b at*
  go_upto_if 31 with fail
  go_cut [1] from 32 to 33 (fun x wx=>∃a:Nat,x= .int .i64 (a:Int)∧a≤s.size+1∧LV w wx 256 (fun _=>false)∧setX s (i+1)=if b=true then(match setRX s a with | none=>none | some (f,a1)=>some ((fun i=> !(f i)),a1))else setRX s a)
  case first=>
   cases b with
   | true=>
    go_wp2
    go_meet
    case rel=>exact⟨i+1+1,by go_num,by omega,hl0.out,HS.out⟩
   | false=>
    go_wp2
    go_meet
    case rel=>exact⟨i+1,by go_num,by omega,hl0.out,HS.out⟩
  case rest=>
   obtain⟨a0,rfl,ha0,hl1,hset⟩:=hcut
   replace hl1:=hidZ hl1
   obtain⟨GX,hGX⟩:∃X,setX s (i+1)=X:=⟨_,rfl⟩
   rw[hGX]at hset
   replace hset:=hidZ hset
   have HGX:=hidZ hGX
   clear HS hl0 hGX
   obtain⟨G,hG⟩:∃G,setRX s a0=G:=⟨_,rfl⟩
   have HG:=hidZ hG
   rw[hG]at hset
   clear hG
   go_upto_block 0 with fail
   go_cut [1,9,10,11,12,13,14] from 34 to 98 (fun x _ _ _ _ _ _ wx=>∃(f:Nat→Bool) (a:Nat),x= .int .i64 (a:Int)∧a<s.size∧LV w wx 256 f∧G=some (f,a+1))
   case first=>
    go_wp2_with fail
    go_loopw [1,9,10,11,12,13,14] (fun x kv _ _ _ _ _ wr=>∃(k n:Nat) (f:Nat→Bool) (a:Nat),kv= .int .i64 (k:Int)∧x= .int .i64 (a:Int)∧a≤s.size+1∧k≤a∧LV w wr 256 f∧G=setG s k n f a∧(k=0→f=zeroF)∧(0<k→s.size<n+a)∧0<n) (fun x _ _ _ _ _ _ _=>s.size+2 - (intOf x).toNat)
    case atStart=>exact⟨0,1,zeroF,a0,rfl,rfl,ha0,by omega,hl1.out,HG.out.symm,fun _=>rfl,fun h=>by omega,by omega⟩
    case round=>
     obtain⟨k,n,f,a,rfl,rfl,ha,hka,hl2,hg,hz,hn,hn0⟩:=hrel
     replace hl2:=hidZ hl2
     by_cases hend:0<k∧a<s.size∧bt s a=93
     ·have HE:Hid (G=some (f,a+1)):=hg.trans (setG_end hend.1 hn0 hend.2.1 hend.2.2)
      obtain⟨e1,e2,e3⟩:=hend
      have hb:(s[a]'e2).toNat=bt s a:=bt_eq s a e2
      rw[e3]at hb
      have d1:decide ((0:Int)<(k:Int))=true:=by simp;omega
      have d2:decide ((a:Int)<(s.size:Int))=true:=by simp;omega
      have haI:(0:Int)≤(a:Int)∧(a:Int)<(s.size:Int):=by omega
      clear e3 hz hn hg HG hset hl1
      go_wp2
      go_meet
      case rel=>exact⟨f,a,rfl,e2,hl2.out,HE.out⟩
     ·obtain⟨m,hm1,hm2,hm3⟩:=setG_more hz hn hn0 hend
      have HGM:=hidZ (hg.trans hm3)
      clear hg hm3 hz hn HG hl1
      have HNE:=hidZ hend
      clear hend
      go_upto_region 8 with fail
      go_cut [49] from 36 to 48 (fun v wx=>v= .bool false∧LV w wx 256 f)
      case first=>
       by_cases hk:0<k
       ·have d1:decide ((0:Int)<(k:Int))=true:=by simp;omega
        by_cases e2:a<s.size
        ·have hb:(s[a]'e2).toNat=bt s a:=bt_eq s a e2
         have d2:decide ((a:Int)<(s.size:Int))=true:=by simp;omega
         have haI:(0:Int)≤(a:Int)∧(a:Int)<(s.size:Int):=by omega
         have d3:((bt s a:Int)==93)=false:=by rw[beq_eq_false_iff_ne];intro e3;exact HNE.out ⟨hk,e2,by omega⟩
         generalize bt s a=y at*
         go_wp2
         go_meet
         case rel=>exact⟨rfl,hl2.out⟩
        ·have d2:decide ((a:Int)<(s.size:Int))=false:=by simp;omega
         go_wp2
         go_meet
         case rel=>exact⟨rfl,hl2.out⟩
       ·have d1:decide ((0:Int)<(k:Int))=false:=by simp;omega
        go_wp2
        go_meet
        case rel=>exact⟨rfl,hl2.out⟩
      case rest=>
       obtain⟨rfl,hl3⟩:=hcut
       replace hl3:=hidZ hl3
       clear hl2 HNE
       go_wp2_with fail
       refine(ritem_any s a _ (by omega) (by omega)).mono ?_
       rintro e w5 ⟨rfl,q,rfl⟩
       have HIT:=hidZ (@single_item s a)
       have HIO:=hidZ (@itemR_ok s a)
       generalize itemR s a=p at*
       obtain⟨lo,nx,ok⟩:=p
       cases ok with
       | false=>
        have HN:Hid (GX=none):=by
         have hm:memberX s f a=none:=by unfold memberX;rw[HIT.out];rfl
         have hgn:G=none:=by rw[HGM.out,hm]
         unfold Hid
         rw[hset.out,hgn]
         split<;> rfl
        have HB:=hidZ (hl3.out.draw q).bl
        clear HIT HIO HGM hset
        go_wp2
        go_ret3
        rw[HGX.out,HN.out]
        exact⟨HB.out,_,rfl⟩
       | true=>
        obtain⟨hx1,hx2,hx3⟩:=HIO.out rfl
        simp only at hx1 hx2 hx3
        clear HIO
        go_upto_region 13 with fail
        go_cut [70] from 61 to 69 (fun v wx=>v= .bool (isB s 45 nx)∧LV w wx 256 f)
        case first=>
         have HL:=hidZ (hl3.out.draw q)
         by_cases e2:nx<s.size
         ·have hb:(s[nx]'e2).toNat=bt s nx:=bt_eq s nx e2
          have d2:decide ((nx:Int)<(s.size:Int))=true:=by simp;omega
          have haI:(0:Int)≤(nx:Int)∧(nx:Int)<(s.size:Int):=by omega
          have HP:Hid (isB s 45 nx=decide (bt s nx=45)):=peek_byte e2 45
          generalize bt s nx=y at*
          by_cases h2:y=45
          ·have d3:((y:Int)==45)=true:=by rw[h2];rfl
           have HQ:Hid (isB s 45 nx=true):=by unfold Hid;rw[HP.out];simp[h2]
           clear h2
           go_wp2
           go_meet
           case rel=>exact⟨by rw[HQ.out],HL.out⟩
          ·have d3:((y:Int)==45)=false:=by rw[beq_eq_false_iff_ne];omega
           have HQ:Hid (isB s 45 nx=false):=by unfold Hid;rw[HP.out];simp[h2]
           clear h2
           go_wp2
           go_meet
           case rel=>exact⟨by rw[HQ.out],HL.out⟩
         ·have d2:decide ((nx:Int)<(s.size:Int))=false:=by simp;omega
          have HQ:Hid (isB s 45 nx=false):=peek_end (by omega) 45
          go_wp2
          go_meet
          case rel=>exact⟨by rw[HQ.out],HL.out⟩
        case rest=>
         obtain⟨rfl,hl4⟩:=hcut
         replace hl4:=hidZ hl4
         clear hl3
         have HMB:Hid (memberX s f a=if isB s 45 nx=false then some (withB f lo lo,nx)else match singleX s spIn (nx+1)with | none=>none | some (y,a2)=>if y<(lo:Int)then none else some (withB f lo y,a2)):=by unfold Hid memberX;rw[HIT.out];rfl
         clear HIT
         generalize isB s 45 nx=bb at*
         go_upto_if 70 with fail
         go_cut [11,12,13] from 71 to 86 (fun nv _ hv wx=>∃h2 n2:Nat,hv= .int .u8 (h2:Int)∧nv= .int .i64 (n2:Int)∧lo≤h2∧h2<256∧a<n2∧n2≤s.size∧LV w wx 256 f∧memberX s f a=some (withB f lo h2,n2))
         case first=>
          cases bb with
          | false=>
           go_wp2
           go_meet
           case rel=>exact⟨lo,nx,rfl,rfl,Nat.le_refl _,hx3,hx1,hx2,hl4.out,HMB.out⟩
          | true=>
           have hit2:=fun w=>ritem_any s (nx+1) w (by omega) (by omega)
           rw[show((nx+1:Nat):Int)=(nx:Int)+1 by omega]at hit2
           have HS2:=hidZ (@single_item s (nx+1))
           have HO2:=hidZ (@itemR_ok s (nx+1))
           generalize itemR s (nx+1)=p2 at*
           obtain⟨h2,n2,ok2⟩:=p2
           go_wp2_with fail
           refine(hit2 _).mono ?_
           rintro e w6 ⟨rfl,q2,rfl⟩
           have HLq:=hidZ (hl4.out.draw q2)
           clear hit2 hl4
           cases ok2 with
           | false=>
            have HN:Hid (GX=none):=by
             have hm:memberX s f a=none:=by rw[HMB.out,if_neg (by simp),HS2.out];rfl
             have hgn:G=none:=by rw[HGM.out,hm]
             unfold Hid
             rw[hset.out,hgn]
             split<;> rfl
            clear HMB HS2 HO2 HGM hset
            go_wp2
            go_ret3
            rw[HGX.out,HN.out]
            exact⟨HLq.out.bl,_,rfl⟩
           | true=>
            obtain⟨y1,y2,y3⟩:=HO2.out rfl
            have y1:nx+1<n2:=y1
            have y2:n2≤s.size:=y2
            have y3:h2<256:=y3
            clear HO2
            by_cases hlt:h2<lo
            ·have dl:decide ((h2:Int)<(lo:Int))=true:=by simp;omega
             have HN:Hid (GX=none):=by
              have hm:memberX s f a=none:=by
               rw[HMB.out,if_neg (by simp),HS2.out]
               show(if((h2:Nat):Int)<(lo:Int)then none else some (withB f lo (h2:Int),n2))=none
               rw[if_pos (by omega)]
              have hgn:G=none:=by rw[HGM.out,hm]
              unfold Hid
              rw[hset.out,hgn]
              split<;> rfl
             clear HMB HS2 HGM hset
             go_wp2
             go_ret3
             rw[HGX.out,HN.out]
             exact⟨HLq.out.bl,_,rfl⟩
            ·have dl:decide ((h2:Int)<(lo:Int))=false:=by simp;omega
             have HM2:Hid (memberX s f a=some (withB f lo h2,n2)):=by
              unfold Hid
              rw[HMB.out,if_neg (by simp),HS2.out]
              show(if((h2:Nat):Int)<(lo:Int)then none else some (withB f lo (h2:Int),n2))=_
              rw[if_neg (by omega)]
             clear HMB HS2 HGM hset
             go_wp2
             go_meet
             case rel=>exact⟨h2,n2,rfl,rfl,by omega,y3,by omega,y2,HLq.out,HM2.out⟩
         case rest=>
          obtain⟨h2,n2,rfl,rfl,g1,g2,g3,g4,hl5,hmem⟩:=hcut
          have HL5:=hidZ hl5
          have HGN:Hid (G=setG s (k+1) m (withB f lo h2) n2):=by unfold Hid;rw[HGM.out,hmem]
          clear hl5 hmem HMB HGM hl4
          go_upto_block 2 with fail
          go_cut [14] from 89 to 97 (fun _ wx=>LV w wx 256 (withB f lo h2))
          case first=>
           go_wp2_with fail
           go_loopw [14] (fun cv wr=>∃(c:Nat) (f2:Nat→Bool),lo≤c∧c≤h2+1∧cv= .int .i64 (c:Int)∧LV w wr 256 f2∧∀j,j<256→f2 j=(decide (lo≤j∧j<c) || f j)) (fun cv _=>h2+1 - (intOf cv).toNat)
           case atStart=>exact⟨lo,f,Nat.le_refl _,by omega,rfl,HL5.out,fun j _=>by rw[decide_eq_false (by omega)];rfl⟩
           case round=>
            obtain⟨c,f2,hc1,hc2,rfl,hlv,hff⟩:=hrel
            have HLV:=hidZ hlv
            have HFF:=hidZ hff
            clear hlv hff
            by_cases hle:c≤h2
            ·have dc:decide ((c:Int)≤(h2:Int))=true:=by simp;omega
             have hcI:(0:Int)≤(c:Int)∧(c:Int)<(256:Int):=by omega
             have z0:=HLV.out.ba.c c (by omega)
             have z1:=HLV.out.ba.f c
             have HNX:Hid (∀j,j<256→(if j=c then true else f2 j)=(decide (lo≤j∧j<c+1) || f j)):=fun j hj=>by
              by_cases e:j=c
              ·rw[if_pos e,decide_eq_true (by omega)];rfl
              ·rw[if_neg e,HFF.out j hj]
               congr 1
               rw[decide_eq_decide]
               omega
             go_wp2
             go_roundw
             case rel=>exact⟨c+1,_,by omega,by omega,by go_num,HLV.out.set (by omega) true,HNX.out⟩
             case measure=>simp[intOf];omega
            ·have dc:decide ((c:Int)≤(h2:Int))=false:=by simp;omega
             have HE:Hid (LV w wr 256 (withB f lo h2)):=HLV.out.congr (fun j hj=>by
              rw[HFF.out j hj]
              unfold withB
              congr 1
              rw[decide_eq_decide]
              omega)
             go_wp2
             go_meet
             case rel=>exact HE.out
          case rest=>
           have HL6:=hidZ hcut
           clear hcut HL5
           go_wp2
           go_roundw
           case rel=>exact⟨k+1,m,_,n2,by go_num,rfl,by omega,by omega,HL6.out,HGN.out,fun h=>by omega,fun _=>by omega,hm2⟩
           case measure=>simp[intOf];omega
   case rest=>
    obtain⟨f,a,rfl,ha,hlv,hG⟩:=hcut
    have HLV:=hidZ hlv
    have HGE:Hid (GX=some ((fun j=>if b=true then !(f j)else f j),a+1)):=by
     unfold Hid
     rw[hset.out,hG]
     cases b with
     | true=>rfl
     | false=>rfl
    clear hlv hG hset HG hl1
    go_wp2_with fail
    go_loopw [15] (fun cv wr=>∃(c:Nat) (f2:Nat→Bool),c≤256∧cv= .int .i64 (c:Int)∧LV w wr 256 f2∧∀j,j<256→f2 j=if j<c then(if b=true then !(f j)else f j)else f j) (fun cv _=>256 - (intOf cv).toNat)
    case atStart=>exact⟨0,f,Nat.zero_le _,rfl,HLV.out,fun j _=>by rw[if_neg (by omega)]⟩
    case round=>
     obtain⟨c,f2,hc,rfl,hlv,hff⟩:=hrel
     have HL2:=hidZ hlv
     have HFF:=hidZ hff
     clear hlv hff HLV
     by_cases hlt:c<256
     ·have dc:decide ((c:Int)<(256:Int))=true:=by simp;omega
      have hcI:(0:Int)≤(c:Int)∧(c:Int)<(256:Int):=by omega
      have z0:=HL2.out.ba.c c hlt
      have z1:=HL2.out.ba.f c
      obtain⟨v,ev⟩:∃v,f2 c=v:=⟨_,rfl⟩
      rw[ev]at z0
      have HNX:Hid (∀j,j<256→(if j=c then(v !=b)else f2 j)=if j<c+1 then(if b=true then !(f j)else f j)else f j):=fun j hj=>by
       have:=HFF.out j hj
       by_cases e:j=c
       ·subst e
        rw[if_neg (show¬j<j by omega)]at this
        rw[if_pos rfl,if_pos (show j<j+1 by omega),←ev,this]
        cases b<;> cases f j<;> rfl
       ·rw[if_neg e,this]
        by_cases e2:j<c
        ·rw[if_pos e2,if_pos (show j<c+1 by omega)]
        ·rw[if_neg e2,if_neg (show¬j<c+1 by omega)]
      clear ev
      go_wp2
      go_roundw
      case rel=>exact⟨c+1,_,by omega,by go_num,HL2.out.set hlt (v !=b),HNX.out⟩
      case measure=>simp[intOf];omega
     ·have dc:decide ((c:Int)<(256:Int))=false:=by simp;omega
      have HE:Hid (LV w wr 256 (fun j=>if b=true then !(f j)else f j)):=HL2.out.congr (fun j hj=>by rw[HFF.out j hj,if_pos (by omega)])
      go_wp2
      go_ret3
      rw[HGX.out,HGE.out]
      exact⟨HE.out.bl,by go_num,HE.out.ba⟩
end Go.Proofs.Ytgjgjgihceijnaa

namespace Go.Proofs.Ytgjgjgihceijnaa
open Go.RowKit Go.Stn
theorem out_plain (c:Nat):plainB (c:Int) spOut=(visB (c:Int) && !amB c spOut):=by
 unfold plainB amB
 congr 1
 rw[Bool.eq_iff_iff,decide_eq_true_eq,Bool.not_eq_true',decide_eq_false_iff_not]
 constructor
 ·rintro h ⟨i,hi,e⟩;exact h i hi (by omega)
 ·intro h i hi e;exact h ⟨i,hi,by omega⟩
theorem allowed_set {s:ByteArray}{i:Nat}(h:i<s.size)(hb:bt s i=91):allowedX s i=setX s (i+1):=by
 unfold allowedX
 have:isB s 91 i=true:=by have:=peek_byte h 91;rw[show((91:Nat):Int)=91 from rfl]at this;rw[this];simp[hb]
 rw[if_pos this]
theorem allowed_all {s:ByteArray}{i:Nat}(h:i<s.size)(hb:bt s i=46):allowedX s i=some ((fun i=> !(zeroF i)),i+1):=by
 unfold allowedX
 have h1:isB s 91 i=false:=by have:=peek_byte h 91;rw[show((91:Nat):Int)=91 from rfl]at this;rw[this];simp[hb]
 have h2:isB s 46 i=true:=by have:=peek_byte h 46;rw[show((46:Nat):Int)=46 from rfl]at this;rw[this];simp[hb]
 rw[h1,if_neg (by simp),if_pos h2]
theorem allowed_esc {s:ByteArray}{i:Nat}(h:i+1<s.size)(hb:bt s i=92):allowedX s i=if(escR (bt s (i+1))).2=true then some (withB zeroF ((escR (bt s (i+1))).1:Int) ((escR (bt s (i+1))).1:Int),i+2)else none:=by
 unfold allowedX
 have h1:isB s 91 i=false:=by have:=peek_byte (show i<s.size by omega) 91;rw[show((91:Nat):Int)=91 from rfl]at this;rw[this];simp[hb]
 have h2:isB s 46 i=false:=by have:=peek_byte (show i<s.size by omega) 46;rw[show((46:Nat):Int)=46 from rfl]at this;rw[this];simp[hb]
 have h3:isB s 92 i=true:=by have:=peek_byte (show i<s.size by omega) 92;rw[show((92:Nat):Int)=92 from rfl]at this;rw[this];simp[hb]
 rw[h1,if_neg (by simp),h2,if_neg (by simp)]
 unfold singleX
 rw[if_pos h3,esc_same,if_neg (by omega)]
 unfold optR
 cases (escR (bt s (i+1))).2 with
 | true=>rfl
 | false=>rfl
theorem allowed_plain {s:ByteArray}{i:Nat}(h:i<s.size)(h1:bt s i≠91)(h2:bt s i≠46)(h3:¬(bt s i=92∧i+1<s.size)):allowedX s i=if(visB (bt s i:Int) && !amB (bt s i) spOut)=true then some (withB zeroF (bt s i:Int) (bt s i:Int),i+1)else none:=by
 unfold allowedX
 have e1:isB s 91 i=false:=by have:=peek_byte h 91;rw[show((91:Nat):Int)=91 from rfl]at this;rw[this];simp[h1]
 have e2:isB s 46 i=false:=by have:=peek_byte h 46;rw[show((46:Nat):Int)=46 from rfl]at this;rw[this];simp[h2]
 rw[e1,if_neg (by simp),e2,if_neg (by simp)]
 unfold singleX
 have e3:=peek_byte h 92
 rw[show((92:Nat):Int)=92 from rfl]at e3
 rw[e3]
 by_cases hb:bt s i=92
 ·have hno:amB (bt s i) spOut=true:=by rw[hb];decide+kernel
  rw[if_pos (by simp[hb]),esc_same,if_pos (by omega),hno]
  simp
 ·rw[if_neg (by simp[hb]),peekP_at h,out_plain]
  cases (visB (bt s i:Int) && !amB (bt s i) spOut)with
  | true=>rfl
  | false=>rfl
theorem one_withB (c j:Nat):withB zeroF (c:Int) (c:Int) j=decide (j=c):=by
 unfold withB zeroF
 rw[Bool.or_false,decide_eq_decide]
 omega
def PlaceOut (w:World)(G:Option ((Nat→Bool)×Nat))(e:Ending)(w':World):Prop:=
 Below w.heap.size w w'∧match G with
  | none=>∃(v:Value) (a:Int),e= .returned (.tuple #[v,.int .i64 a,.bool false])
  | some (f,a)=>∃g,e= .returned (.tuple #[.slice (some ⟨g,0,none⟩) 256 256,.int .i64 (a:Int),.bool true])∧w.heap.size≤g∧g<w'.heap.size∧BA w' g 256 f
set_option maxRecDepth 100000 in
set_option maxHeartbeats 2000000 in
theorem rplace_any (s:ByteArray)(i:Nat)(w:World)(hs:s.size≤500)(hi:i<s.size):
  Calls Try.prog 139 #[.string s,.int .i64 (i:Int)] w fun e w'=>PlaceOut w (allowedX s i) e w':=by
 obtain⟨i0,hi0,hz0,hz1,hz2⟩:=info_parts Try.infoBool1
 have HI:Hid (Try.prog.info? 4=some i0∧i0.zero=some (.bool false)∧i0.size=1∧i0.bytes=1):=⟨hi0,hz0,hz1,hz2⟩
 clear hi0 hz0 hz1 hz2
 have hb:(s[i]'hi).toNat=bt s i:=bt_eq s i hi
 have hlt:=bt_lt s i
 have hiI:(0:Int)≤(i:Int)∧(i:Int)<(s.size:Int):=by omega
 have HC1:=hidZ (@allowed_set s i hi)
 have HC2:=hidZ (@allowed_all s i hi)
 have HC3:=hidZ (@allowed_esc s i)
 have HC4:=hidZ (@allowed_plain s i hi)
 obtain⟨A,hA⟩:∃A,allowedX s i=A:=⟨_,rfl⟩
 rw[hA]at HC1 HC2 HC3 HC4
 have HA:=hidZ hA
 clear hA
 obtain⟨y,hy⟩:∃y,bt s i=y:=⟨_,rfl⟩
 rw[hy]at hb hlt HC1 HC2 HC3 HC4
 clear hy
 go_enter Try.func139,Try.ntmps139
 go_upto_region 2 with(first | (at_make;refine wpList_make_full w rfl _ _ 94 rfl w.heap.size 4 i0 (.bool false) 1 Try.underlying94 HI.out.1 HI.out.2.1 HI.out.2.2.1 .i64 .i64 _ 256 256 rfl rfl rfl rfl (by rw[HI.out.2.2.2];omega) (by unfold maxLen;omega) (Nat.le_refl _) ?_;intro w1 hown hg;have hz1:=(hown.lt w.heap.size rfl).2;have HLV:Hid (LV w w1 256 (fun _=>false)):=⟨⟨hg.os,hg.tape,hg.output,hg.size,fun k hk=>hg.block k hk (by simp)⟩,BA.new hown⟩;clear hown hg))
 by_cases k1:y=91
 ·have t1:((y:Int)==91)=true:=by rw[k1];rfl
  have HE:=hidZ (HC1.out k1)
  clear k1 HC1 HC2 HC3 HC4
  go_wp2_with fail
  refine(rclass_any s i w1 hs hi).mono ?_
  rintro e w2 ⟨hb2,hcase⟩
  have HB2:=hidZ (HLV.out.bl.trans (hb2.mono (Nat.le_of_lt hz1)))
  have hz2:=hb2.size
  rw[←HE.out]at hcase
  cases A with
  | none=>
   obtain⟨a,rfl⟩:=hcase
   clear hb2
   go_wp2
   go_ret3
   rw[HA.out]
   exact⟨HB2.out,_,_,rfl⟩
  | some p=>
   obtain⟨f,a⟩:=p
   obtain⟨rfl,hba⟩:=hcase
   have HBA:=hidZ hba
   have hgz:w1.heap.size<w2.heap.size:=by
    have hc:=hba.c 0 (by omega)
    apply Classical.byContradiction
    intro hn
    have:w2.heap[w1.heap.size]? =none:=by simp;omega
    unfold World.cell? at hc
    simp only[this]at hc
    cases hc
   clear hb2 hba
   go_wp2
   go_ret3
   rw[HA.out]
   exact⟨HB2.out,_,rfl,by omega,hgz,HBA.out⟩
 ·have t1:((y:Int)==91)=false:=by rw[beq_eq_false_iff_ne];omega
  by_cases k2:y=46
  ·have t2:((y:Int)==46)=true:=by rw[k2];rfl
   have HE:=hidZ (HC2.out k2)
   clear k1 k2 HC1 HC2 HC3 HC4
   go_wp2_with fail
   go_loopw [11] (fun cv wr=>∃(c:Nat) (f:Nat→Bool),c≤256∧cv= .int .i64 (c:Int)∧LV w wr 256 f∧∀j,j<c→f j=true) (fun cv _=>256 - (intOf cv).toNat)
   case atStart=>exact⟨0,_,Nat.zero_le _,rfl,HLV.out,fun j h=>absurd h (by omega)⟩
   case round=>
    obtain⟨c,f,hc,rfl,hlv,hff⟩:=hrel
    have HL2:=hidZ hlv
    have HFF:=hidZ hff
    clear hlv hff HLV
    by_cases hlc:c<256
    ·have hcI:(0:Int)≤(c:Int)∧(c:Int)<(256:Int):=by omega
     have z0:=HL2.out.ba.c c hlc
     have z1:=HL2.out.ba.f c
     have HNX:Hid (∀j,j<c+1→(if j=c then true else f j)=true):=fun j hj=>by
      by_cases e:j=c
      ·rw[if_pos e]
      ·rw[if_neg e];exact HFF.out j (by omega)
     go_wp2
     go_roundw
     case rel=>exact⟨c+1,_,by omega,by go_num,HL2.out.set hlc true,HNX.out⟩
     case measure=>simp[intOf];omega
    ·have dc:decide ((c:Int)<(256:Int))=false:=by simp;omega
     have HE2:Hid (LV w wr 256 (fun i=> !(zeroF i))):=HL2.out.congr (fun j hj=>by rw[HFF.out j (by omega)];rfl)
     have hgz:w.heap.size<wr.heap.size:=by
      have hc:=HE2.out.ba.c 0 (by omega)
      apply Classical.byContradiction
      intro hn
      have:wr.heap[w.heap.size]? =none:=by simp;omega
      unfold World.cell? at hc
      simp only[this]at hc
      cases hc
     go_wp2
     go_ret3
     rw[HA.out,HE.out]
     exact⟨HE2.out.bl,_,by go_num,Nat.le_refl _,hgz,HE2.out.ba⟩
  ·have t2:((y:Int)==46)=false:=by rw[beq_eq_false_iff_ne];omega
   by_cases k3:y=92∧i+1<s.size
   ·obtain⟨k4,k5⟩:=k3
    have t3:((y:Int)==92)=true:=by rw[k4];rfl
    have d1:decide ((i:Int)+1<(s.size:Int))=true:=by simp;omega
    have hb1:(s[i+1]'k5).toNat=bt s (i+1):=bt_eq s (i+1) k5
    have hjI:(0:Int)≤(i:Int)+1∧(i:Int)+1<(s.size:Int):=by omega
    have HE:=hidZ (HC3.out k5 k4)
    have hlt1:=bt_lt s (i+1)
    obtain⟨c,hc⟩:∃c,bt s (i+1)=c:=⟨_,rfl⟩
    rw[hc]at hb1 HE hlt1
    have hlc:=escR_lt hlt1
    have hes:=fun W=>rescape_any c W hlt1
    obtain⟨x,ok,hx⟩:∃x ok,escR c=(x,ok):=⟨_,_,rfl⟩
    rw[hx]at HE hlc hes
    have HES:=hidZ hes
    have hlc:x<256:=hlc
    clear k1 k2 k4 HC1 HC2 HC3 HC4 hc hx hes
    go_wp2_with fail
    refine(HES.out _).mono ?_
    rintro e w2 ⟨rfl,q,rfl⟩
    have HL2:=hidZ (HLV.out.draw q)
    have z0:=HL2.out.ba.c x hlc
    have z1:=HL2.out.ba.f x
    have hxI:(0:Int)≤(x:Int)∧(x:Int)<(256:Int):=by omega
    have HL3:=hidZ ((HL2.out.set hlc true).congr (al':=withB zeroF (x:Int) (x:Int)) (fun j _=>by rw[one_withB];by_cases e:j=x<;> simp[e]))
    have hz3:w.heap.size<(w1.drewN q).heap.size:=hz1
    clear HLV
    go_wp2
    go_ret3
    rw[HA.out,HE.out]
    cases ok with
    | true=>exact⟨HL3.out.bl,_,by go_num,Nat.le_refl _,by simpa[World.setCell]using hz1,HL3.out.ba⟩
    | false=>exact⟨HL3.out.bl,_,_,rfl⟩
   ·have HE:=hidZ (HC4.out k1 k2 k3)
    have HK3:=hidZ k3
    have HVS:=hidZ (fun W=>rshown_any y W hlt)
    have HAM:=hidZ (fun W=>ramong_any y spOut W (by decide))
    have HSP:Hid (spOut=⟨#[92,124,42,43,63,46,40,41,91,93]⟩):=rfl
    generalize visB (y:Int)=vs at*
    generalize amB y spOut=am at*
    rw[HSP.out]at HAM
    clear k1 k2 HC1 HC2 HC3 HC4
    by_cases k4:y=92
    ·have t3:((y:Int)==92)=true:=by rw[k4];rfl
     have d1:decide ((i:Int)+1<(s.size:Int))=false:=by
      have:¬i+1<s.size:=fun h=>HK3.out ⟨k4,h⟩
      simp
      omega
     clear k4
     go_wp2_with fail
     refine(HAM.out _).mono ?_
     rintro e w2 ⟨rfl,q,hw2⟩
     have HL1:Hid (LV w w2 256 (fun _=>false)):=by unfold Hid;rw[hw2];exact HLV.out.draw q
     have hzw:w.heap.size<w2.heap.size:=by rw[hw2];exact hz1
     clear hw2
     go_wp2_with fail
     refine(HVS.out _).mono ?_
     rintro e w3 ⟨rfl,q2,hw3⟩
     have HL2:Hid (LV w w3 256 (fun _=>false)):=by unfold Hid;rw[hw3];exact HL1.out.draw q2
     have hzw3:w.heap.size<w3.heap.size:=by rw[hw3];exact hzw
     clear hw3 HL1
     have z0:=HL2.out.ba.c y hlt
     have z1:=HL2.out.ba.f y
     have hxI:(0:Int)≤(y:Int)∧(y:Int)<(256:Int):=by omega
     have HL3:=hidZ ((HL2.out.set hlt true).congr (al':=withB zeroF (y:Int) (y:Int)) (fun j _=>by rw[one_withB];by_cases e:j=y<;> simp[e]))
     have hz3:w.heap.size<(w3.setCell ⟨w.heap.size,y,none⟩ (.bool true)).heap.size:=by simpa[World.setCell]using hzw3
     clear HLV
     cases vs with
     | false=>
      go_wp2
      go_ret3
      rw[HA.out,HE.out]
      exact⟨HL3.out.bl,_,_,rfl⟩
     | true=>
      cases am with
      | true=>
       go_wp2
       go_ret3
       rw[HA.out,HE.out]
       exact⟨HL3.out.bl,_,_,rfl⟩
      | false=>
       go_wp2
       go_ret3
       rw[HA.out,HE.out]
       exact⟨HL3.out.bl,_,by go_num,Nat.le_refl _,hz3,HL3.out.ba⟩
    ·have t3:((y:Int)==92)=false:=by rw[beq_eq_false_iff_ne];omega
     clear k4
     go_wp2_with fail
     refine(HAM.out _).mono ?_
     rintro e w2 ⟨rfl,q,hw2⟩
     have HL1:Hid (LV w w2 256 (fun _=>false)):=by unfold Hid;rw[hw2];exact HLV.out.draw q
     have hzw:w.heap.size<w2.heap.size:=by rw[hw2];exact hz1
     clear hw2
     go_wp2_with fail
     refine(HVS.out _).mono ?_
     rintro e w3 ⟨rfl,q2,hw3⟩
     have HL2:Hid (LV w w3 256 (fun _=>false)):=by unfold Hid;rw[hw3];exact HL1.out.draw q2
     have hzw3:w.heap.size<w3.heap.size:=by rw[hw3];exact hzw
     clear hw3 HL1
     have z0:=HL2.out.ba.c y hlt
     have z1:=HL2.out.ba.f y
     have hxI:(0:Int)≤(y:Int)∧(y:Int)<(256:Int):=by omega
     have HL3:=hidZ ((HL2.out.set hlt true).congr (al':=withB zeroF (y:Int) (y:Int)) (fun j _=>by rw[one_withB];by_cases e:j=y<;> simp[e]))
     have hz3:w.heap.size<(w3.setCell ⟨w.heap.size,y,none⟩ (.bool true)).heap.size:=by simpa[World.setCell]using hzw3
     clear HLV
     cases vs with
     | false=>
      go_wp2
      go_ret3
      rw[HA.out,HE.out]
      exact⟨HL3.out.bl,_,_,rfl⟩
     | true=>
      cases am with
      | true=>
       go_wp2
       go_ret3
       rw[HA.out,HE.out]
       exact⟨HL3.out.bl,_,_,rfl⟩
      | false=>
       go_wp2
       go_ret3
       rw[HA.out,HE.out]
       exact⟨HL3.out.bl,_,by go_num,Nat.le_refl _,hz3,HL3.out.ba⟩
end Go.Proofs.Ytgjgjgihceijnaa

