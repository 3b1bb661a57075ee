import Derived.Test.YtgjgjgihceijnaaGreatG02
import Derived.Test.YtgjgjgihceijnaaGreatG03
open Nat renaming lt_of_lt_of_le->aL,zero_add->aR,le_of_lt->bS,le_refl->cN
open List renaming range->aO,getElem?_eq_getElem->aT,map_congr_left->bK,nil_append->bM,mem_range->bO,mem_map->bT
open Bool renaming and_eq_true->bC,or_self->cF
open Go.Value renaming ownBlock->bD,oneCell'->bN,slice->cL,int->cP
open Go.RowKit.Below renaming refl->cO
set_option maxRecDepth 100000
set_option maxHeartbeats 8000000
namespace Go.Stn
open Go.RowKit
structure SIn (w:World)(top g n K:Nat)(zb:Nat->Nat)(tk:Nat->Nat)(nx:Nat->Nat->Int):Prop where
 tkc:∀s,s<n->w.cell? ⟨g,s*2,none⟩=some (.int .i64 (tk s))
 nxc:∀s,s<n->w.cell? ⟨g,s*2+1,none⟩=some (.slice (some ⟨zb s,0,none⟩) K K)
 ldc:∀s k,s<n->k<K->w.cell? ⟨zb s,k,none⟩=some (.int .i64 (nx s k))
 bg:g<top
 bz:∀s,s<n->zb s<top
theorem SIn.below {w w':World}{top g n K B:Nat}{zb tk:Nat->Nat}{nx:Nat->Nat->Int}(h:SIn w top g n K zb tk nx)(hB:Below B w w')(hb:top<=B):SIn w' top g n K zb tk nx:=
 ⟨fun s hs=>(hB.cell (p:=⟨g,s*2,none⟩) (aL h.bg hb)).trans (h.tkc s hs),fun s hs=>(hB.cell (p:=⟨g,s*2+1,none⟩) (aL h.bg hb)).trans (h.nxc s hs),
  fun s k hs hk=>(hB.cell (p:=⟨zb s,k,none⟩) (aL (h.bz s hs) hb)).trans (h.ldc s k hs hk),h.bg,h.bz⟩
theorem SIn.drewN {w:World}{top g n K:Nat}{zb tk:Nat->Nat}{nx:Nat->Nat->Int}(h:SIn w top g n K zb tk nx)(q:Nat):SIn (w.drewN q) top g n K zb tk nx:=⟨h.tkc,h.nxc,h.ldc,h.bg,h.bz⟩
def NIn (w:World)(g n:Nat)(f:Nat->Int):Prop:=∀i,i<n->w.cell? ⟨g,i,none⟩=some (.int .i64 (f i))
theorem NIn.below {w w':World}{g n B:Nat}{f:Nat->Int}(h:NIn w g n f)(hB:Below B w w')(hb:g<B):NIn w' g n f:=fun i hi=>(hB.cell (p:=⟨g,i,none⟩) hb).trans (h i hi)
theorem NIn.of_row {w:World}{base e g cap:Nat}{l:List Nat}(h:w.ownsRow base e 1 (.slice (some ⟨g,0,none⟩) l.length cap) l.length (jD l)):NIn w g l.length (bW l):=fun i hi=>by
 have h1:=h.cells rfl i (.int .i64 (bW l i)) (by
  unfold jD bW;rw[List.getElem?_map,aT hi,List.getD_eq_getElem?_getD,aT hi];rfl)
 by_cases hj:i=0
 ·subst hj;simpa[Addr.add]using h1
 ·simpa[Addr.add,hj]using h1
theorem Sw {pt:Nat->Int}{nx:Nat->Nat->Int}{s t K g:Nat}(hg:g<K)(h:jF pt (nx s g)≠jF pt (nx t g)):K9 pt nx s t K=false:=by
 unfold K9;rw[decide_eq_false_iff_not];intro q;exact h (q g hg)
theorem Qr {pt:Nat->Int}{nx:Nat->Nat->Int}{s t K:Nat}(h:∀g,g<K->jF pt (nx s g)=jF pt (nx t g)):K9 pt nx s t K=true:=by
 unfold K9;rw[decide_eq_true_eq];exact h
end Go.Stn
namespace Go.Proofs.YtgjgjgihceijnaaGreat
open Go.RowKit Go.Stn
theorem tB (pt:Nat->Int)(g n cap:Nat)(x:Int)(w:World)(hx:x= -1\/(0<=x/\x<n))(h:NIn w g n pt):
  Calls Tryz.prog 102 #[.slice (some ⟨g,0,none⟩) n cap,.int .i64 x] w fun e w'=>e= .returned (.int .i64 (jF pt x))/\w'=w:=by
 by_cases hm:x= -1
 ·subst hm;go_enter Tryz.func102,Tryz.ntmps102;go_wp2;go_ret;exact⟨rfl,rfl⟩
 ·have hd:(x== -1)=false:=beq_eq_false_iff_ne.2 hm;obtain⟨k,rfl⟩:∃k:Nat,x=(k:Int):=⟨x.toNat,by omega⟩
  have hk:k<n:=by omega
  have hc:=h k hk;have HE:Hid (jF pt (k:Int)=pt k):=by unfold Hid jF;rw[if_neg hm];simp
  have hkI:(0:Int)<=(k:Int)/\(k:Int)<(n:Int):=by omega
  clear hm hx h;go_enter Tryz.func102,Tryz.ntmps102;go_wp2;go_ret;exact⟨by rw[HE.out];rfl,rfl⟩
theorem Fm (pt:Nat->Int)(g n cap K top pg pcap:Nat)(zb tk:Nat->Nat)(nx:Nat->Nat->Int)(s t:Nat)(w:World)(hs:s<n)(ht:t<n)(hK:K<=300)
  (hr:∀i k,i<n->k<K->nx i k= -1\/(0<=nx i k/\nx i k<n)) (hS:SIn w top g n K zb tk nx) (hP:NIn w pg n pt):
  Calls Tryz.prog 101 #[.slice (some ⟨g,0,none⟩) n cap,.slice (some ⟨pg,0,none⟩) n pcap,.int .i64 s,.int .i64 t] w fun e w'=>e= .returned (.bool (bP pt tk nx K s t))/\∃q,w'=w.drewN q:=by
 have p1:=hP s hs;have p2:=hP t ht;have t1:=hS.tkc s hs;have t2:=hS.tkc t ht;have n1:=hS.nxc s hs;have n2:=hS.nxc t ht;have hsI:(0:Int)<=(s:Int)/\(s:Int)<(n:Int):=by omega
 have htI:(0:Int)<=(t:Int)/\(t:Int)<(n:Int):=by omega
 have HS:=aA hS;have HP:=aA hP;have HR:=aA hr;clear hS hP hr;by_cases e1:pt s=pt t
 ·have hd1:(pt s !=pt t)=false:=by rw[e1];simp
  by_cases e2:tk s=tk t
  ·have hd2:((tk s:Int) !=(tk t:Int))=false:=by rw[e2];simp
   have HE:Hid (bP pt tk nx K s t=K9 pt nx s t K):=by unfold Hid bP;rw[decide_eq_true e1,decide_eq_true e2];simp
   generalize pt s=a1 at*;generalize pt t=a2 at*;generalize tk s=a3 at*;generalize tk t=a4 at*;clear e1 e2;go_enter Tryz.func101,Tryz.ntmps101;go_wp2_with fail;go_quiet (fail);go_wp2_with fail
   go_loopw [41] (fun x wr=>∃(k q:Nat),x= .int .i64 (k:Int)/\k<=K/\wr=w.drewN q/\∀j,j<k->jF pt (nx s j)=jF pt (nx t j)) (fun x _=>K - (intOf x).toNat)
   case atStart=>exact⟨0,nq,rfl,Nat.zero_le _,rfl,fun j hj=>absurd hj (Nat.not_lt_zero _)⟩
   case round=>
    obtain⟨k,q,rfl,hk,rfl,hall⟩:=hrel;have HA:=aA hall;clear hall;by_cases hlt:k<K
    ·have c1:=HS.out.ldc s k hs hlt;have c2:=HS.out.ldc t k ht hlt;have HC1:=aA (fun W (hW:NIn W pg n pt)=>tB pt pg n pcap (nx s k) W (HR.out s k hs hlt) hW);have HC2:=aA (fun W (hW:NIn W pg n pt)=>tB pt pg n pcap (nx t k) W (HR.out t k ht hlt) hW);have HN:=aA (@Sw pt nx s t K k hlt);have HL:Hid (jF pt (nx s k)=jF pt (nx t k)->∀j,j<k+1->jF pt (nx s j)=jF pt (nx t j)):=fun h j hj=>by
      by_cases e:j=k
      ·rw[e];exact h
      ·exact HA.out j (by omega)
     have hkI:(0:Int)<=(k:Int)/\(k:Int)<(K:Int):=by omega
     have hd3:decide ((k:Int)<(K:Int))=true:=by simp;omega
     generalize nx s k=x1 at*;generalize nx t k=x2 at*;go_wp2_with fail;refine(HC1.out (w.drewN q) HP.out).mono ?_;rintro e w2 ⟨rfl,rfl⟩;go_wp2_with fail;refine(HC2.out (w.drewN q) HP.out).mono ?_;rintro e w2 ⟨rfl,rfl⟩;by_cases hne:jF pt x1=jF pt x2
     ·have hd4:(jF pt x1 !=jF pt x2)=false:=by rw[hne];simp
      have HA2:=aA (HL.out hne);generalize jF pt x1=y1 at*;generalize jF pt x2=y2 at*;clear hne;go_wp2;go_roundw
      case rel=>exact⟨k+1,q,by go_num,hlt,rfl,HA2.out⟩
      case measure=>simp[intOf];omega
     ·have hd4:(jF pt x1 !=jF pt x2)=true:=by rw[bne_iff_ne];exact hne
      have HE2:=aA (HN.out hne);generalize jF pt x1=y1 at*;generalize jF pt x2=y2 at*;clear hne;go_wp2;go_ret;exact⟨by rw[HE.out,HE2.out];rfl,_,rfl⟩
    ·have e:k=K:=by omega
     subst e;have HE2:Hid (K9 pt nx s t k=true):=Qr HA.out;have hd3:decide ((k:Int)<(k:Int))=false:=by simp
     go_wp2;go_ret;exact⟨by rw[HE.out,HE2.out];rfl,_,rfl⟩
  ·have hd2:((tk s:Int) !=(tk t:Int))=true:=by rw[bne_iff_ne];omega
   have HE:Hid (bP pt tk nx K s t=false):=by unfold Hid bP;rw[decide_eq_false e2];simp
   generalize pt s=a1 at*;generalize pt t=a2 at*;generalize tk s=a3 at*;generalize tk t=a4 at*;clear e1 e2;go_enter Tryz.func101,Tryz.ntmps101;go_wp2_with fail;go_quiet (fail);go_wp2;go_ret;exact⟨by rw[HE.out];rfl,_,rfl⟩
 ·have hd1:(pt s !=pt t)=true:=by rw[bne_iff_ne];exact e1
  have HE:Hid (bP pt tk nx K s t=false):=by unfold Hid bP;rw[decide_eq_false e1];simp
  generalize pt s=a1 at*;generalize pt t=a2 at*;clear e1;go_enter Tryz.func101,Tryz.ntmps101;go_wp2_with fail;go_quiet (fail);go_wp2;go_ret;exact⟨by rw[HE.out];rfl,_,rfl⟩
end Go.Proofs.YtgjgjgihceijnaaGreat
namespace Go.Stn
def stC (cl:Nat)(zs:List ((Nat×List Int)×Nat)):List Value:=zs.flatMap fun z=>[cP .i64 (z.1.1:Int),cL (some ⟨z.2,0,none⟩) cl cl]
theorem Cb (cl:Nat)(zs:List ((Nat×List Int)×Nat))(z:(Nat×List Int)×Nat):stC cl (zs++ [z])=stC cl zs++ [cP .i64 (z.1.1:Int),cL (some ⟨z.2,0,none⟩) cl cl]:=by simp[stC]
def jO (w:World)(lo:Nat)(zs:List ((Nat×List Int)×Nat)):Prop:=∀z∈zs,lo<=z.2/\z.2<w.heap.size/\w.rangeAt z.2 0 (jP z.1.2)
theorem jO.grown {w w':World}{lo g:Nat}{zs:List ((Nat×List Int)×Nat)}(h:jO w lo zs)(hg:w.grownBy w' (some g))(hl:g<lo):jO w' lo zs:=fun z hz=>by
 obtain⟨h1,h2,h3⟩:=h z hz;exact⟨h1,aL h2 hg.size,aC h3 (hg.block z.2 h2 (by intro e;injection e;omega))⟩
theorem jO.nil (w:World)(lo:Nat):jO w lo []:=fun _ hz=>absurd hz (List.not_mem_nil)
theorem jO.snoc {w:World}{lo:Nat}{zs:List ((Nat×List Int)×Nat)}{z:(Nat×List Int)×Nat}(h:jO w lo zs)(h1:lo<=z.2/\z.2<w.heap.size/\w.rangeAt z.2 0 (jP z.1.2)):jO w lo (zs++ [z]):=fun y hy=>by
 rcases List.mem_append.1 hy with h2 | h2
 ·exact h y h2
 ·rw[List.mem_singleton]at h2;rw[h2];exact h1
theorem jO.below {w w':World}{lo B:Nat}{zs:List ((Nat×List Int)×Nat)}(h:jO w lo zs)(hg:RowKit.Below B w w')(hl:w.heap.size<=B):jO w' lo zs:=fun z hz=>by
 obtain⟨h1,h2,h3⟩:=h z hz;exact⟨h1,aL h2 hg.size,aC h3 (hg.block z.2 (by omega))⟩
theorem lQ {w:World}{base e g k cap:Nat}{xs:List Value}(h:w.ownsRow base e 1 (.slice (some ⟨g,0,none⟩) k cap) k xs):w.rangeAt g 0 xs:=fun j v hv=>by
 have:=h.cells rfl j v hv;by_cases hj:j=0
 ·subst hj;simpa[Addr.add]using this
 ·simpa[Addr.add,hj]using this
end Go.Stn
namespace Go.Proofs.YtgjgjgihceijnaaGreat
open Go.RowKit Go.Stn
theorem Tryz.infoState:(Tryz.prog.info? 121).map (fun i=>(i.zero,i.size,i.bytes))=some (some (.agg #[.int .i64 0,.slice none 0 0]),2,32):=by kernel_rfl
theorem Nb (s:ByteArray)(r:LSt)(ru cl:Nat)(rb:Nat)(w:World)(hs:s.size<=120000)(hcl:cl<=256)(h:LRd w rb s r)(hr:r.1<=s.size):
  Calls Tryz.prog 82 #[.pointer (some ⟨rb,0,none⟩),.int .i64 ru,.int .i64 cl] w fun e w'=>
   ∃(B:Nat) (zs:List ((Nat×List Int)×Nat)),w.heap.size<=B/\e= .returned (.slice (some ⟨B,0,none⟩) zs.length zs.length)/\zs.map (·.1)=(lB s ru cl r).1/\
   w'.ownsRow B 121 2 (.slice (some ⟨B,0,none⟩) zs.length zs.length) zs.length (stC cl zs)/\jO w' (B+1) zs/\w.grownBy w' (some rb)/\LRd w' rb s (lB s ru cl r).2:=by
 obtain⟨i0,hi0,hz0,hz1,hz2⟩:=info_parts Tryz.infoInt;have HI:Hid (Tryz.prog.info? 3=some i0/\i0.zero=some (.int .i64 0)/\i0.size=1/\i0.bytes=8):=⟨hi0,hz0,hz1,hz2⟩
 clear hi0 hz0 hz1 hz2;obtain⟨i1,hi0,hz0,hz1,hz2⟩:=info_parts Tryz.infoState;have HI1:Hid (Tryz.prog.info? 121=some i1/\i1.zero=some (.agg #[.int .i64 0,.slice none 0 0])/\i1.size=2/\i1.bytes=32):=⟨hi0,hz0,hz1,hz2⟩
 clear hi0 hz0 hz1 hz2;have hn:=fP s r 1 100 rb w hs h hr;have HP:Hid (lB s ru cl r=C7 s ru cl (bX s 1 100 r).1 (bX s 1 100 r).1 [] (bX s 1 100 r).2):=rfl;have hnl:=wQ (s:=s) (lo:=1) (hi:=100) (r:=r) (by omega);have hna:=fG (lo:=1) (hi:=100) hr;have hrb:=h.hb;generalize bX s 1 100 r=N at*;obtain⟨n,r1⟩:=N;simp only at*;clear h;go_enter Tryz.func82,Tryz.ntmps82;go_wp2_with fail;refine hn.mono ?_;rintro e w1 ⟨rfl,hg1,hl1⟩;have HG1:=aA hg1;have HL1:=aA hl1;have hsz1:=hg1.size;clear hg1 hl1 hn;go_wp2_with (first | (at_make;refine wpList_make_own w1 rfl _ _ 110 rfl w1.heap.size 121 i1 _ 2 Tryz.underlying110 HI1.out.1 HI1.out.2.1 HI1.out.2.2.1 .i64 .i64 _ n rfl rfl rfl (by rw[HI1.out.2.2.2];omega) (by unfold maxLen;omega) (cN _) ?_;intro w2 hown hg));have HR2:=aA (HL1.out.grown hg (by simp));have HG2:=aA (aH HG1.out (yU hg (some rb)));have HO2:=aA hown;have hrb1:rb<w1.heap.size:=by omega
 clear hown hg HL1 HG1;generalize w1.heap.size=B at*
 go_loopg [8] n (fun gk x wr=>∃(zs:List ((Nat×List Int)×Nat)) (k:Nat) (r':LSt),x= .slice (some ⟨B,0,none⟩) k n/\zs.length=k/\k+gk=n/\r'.1<=s.size/\lB s ru cl r=C7 s ru cl n gk (zs.map (·.1)) r'/\
  wr.ownsRow B 121 2 (.slice (some ⟨B,0,none⟩) k n) k (stC cl zs)/\jO wr (B+1) zs/\w.grownBy wr (some rb)/\LRd wr rb s r')
 case atStart=>exact⟨[],0,r1,rfl,rfl,by omega,hna,HP.out,HO2.out,jO.nil _ _,HG2.out,HR2.out⟩
 case round=>
  obtain⟨zs,k,r',rfl,hxl,hkn,hr',heq,hown,hrow,hg,hl⟩:=hrel;have HQ:=aA heq;have HO:=aA hown;have HW:=aA hrow;have HG:=aA hg;have HL:=aA hl;have HX:=aA hxl;have hsz:B<wr.heap.size:=by have:=(hown.lt B rfl).2;omega
  clear heq hown hg hl hxl hrow HR2 HG2 HO2;by_cases hlt:k<n
  ·obtain⟨g',rfl⟩:∃g',gk=g'+1:=⟨gk - 1,by omega⟩
   have HQ2:Hid (lB s ru cl r=C7 s ru cl n g' (zs.map (·.1)++ [((bX s 0 ru r').1,(jB s n cl [] (bX s 0 ru r').2).1)]) (jB s n cl [] (bX s 0 ru r').2).2):=HQ.out;have hc:=fP s r' 0 ru rb wr hs HL.out hr';have ha:=fG (lo:=0) (hi:=ru) hr';generalize bX s 0 ru r'=N at*;obtain⟨tk,r2⟩:=N;simp only at*;have hd:decide ((k:Int)<(n:Int))=true:=by simp;omega
   go_wp2_with fail;refine hc.mono ?_;rintro e w3 ⟨rfl,hg3,hl3⟩;have HO3:Hid (w3.ownsRow B 121 2 (.slice (some ⟨B,0,none⟩) k n) k (stC cl zs)):=aA (HO.out.kept hg3 (.inr (by simp[bD];omega)));have HW3:=aA (HW.out.grown hg3 (by omega));have HG3:=aA (aH HG.out hg3);have HL3:=aA hl3;have hsz3:B<w3.heap.size:=by have:=hg3.size;omega
   clear hg3 hl3 HO HG HL hc HW;go_wp2_with (first | (at_make;refine wpList_make_own w3 rfl _ _ 59 rfl w3.heap.size 3 i0 (.int .i64 0) 1 Tryz.underlying59 HI.out.1 HI.out.2.1 HI.out.2.2.1 .i64 .i64 _ cl rfl rfl rfl (by rw[HI.out.2.2.2];omega) (by unfold maxLen;omega) (cN _) ?_;intro w4 hown4 hg4));have HR4:=aA (HL3.out.grown hg4 (by simp));have HG4:=aA (yU hg4 (some rb));have HO4:=aA hown4;clear hown4 hg4 HL3;generalize hC:w3.heap.size=C at*
   go_loopg [10] cl (fun gj x wj=>∃(xs:List Int) (m:Nat) (rj:LSt),x= .slice (some ⟨C,0,none⟩) m cl/\xs.length=m/\m+gj=cl/\rj.1<=s.size/\jB s n cl [] r2=jB s n gj xs rj/\
    wj.ownsRow C 3 1 (.slice (some ⟨C,0,none⟩) m cl) m (jP xs)/\w3.grownBy wj (some rb)/\LRd wj rb s rj)
   case atStart=>exact⟨[],0,r2,rfl,rfl,by omega,ha,rfl,HO4.out,HG4.out,HR4.out⟩
   case round=>
    obtain⟨xs,m,rj,rfl,hxl,hmn,hrj,heq,hown,hg,hl⟩:=hrel;have HQJ:=aA heq;have HOJ:=aA hown;have HGJ:=aA hg;have HLJ:=aA hl;have HXJ:=aA hxl;have hszj:C<wr.heap.size:=by have:=(hown.lt C rfl).2;omega
    clear heq hown hg hl hxl HR4 HG4 HO4;by_cases hltj:m<cl
    ·obtain⟨j',rfl⟩:∃j',gk=j'+1:=⟨gk - 1,by omega⟩
     have HQ3:Hid (jB s n cl [] r2=jB s n j' (xs++ [(lA s n rj).1]) (lA s n rj).2):=HQJ.out;have hc:=Nq s rj n rb wr hs HLJ.out hrj;have ha:=Dj (n:=n) hrj;generalize lA s n rj=N at*;obtain⟨x,r3⟩:=N;simp only at*;have hdj:decide ((m:Int)<(cl:Int))=true:=by simp;omega
     go_wp2_with fail;refine hc.mono ?_;rintro e w5 ⟨rfl,hg5,hl5⟩;have HO5:Hid (w5.ownsRow C 3 1 (.slice (some ⟨C,0,none⟩) m cl) m (jP xs)):=aA (HOJ.out.kept hg5 (.inr (by simp[bD];omega)));have HG5:=aA (aH HGJ.out hg5);have HL5:=aA hl5;have hsz5:C<w5.heap.size:=by have:=hg5.size;omega
     clear hg5 hl5 HOJ HGJ HLJ hc;go_wp2_with (first | (at_builtin;refine eI w5 rfl _ _ 59 rfl C 3 (.int .i64 0) 1 8 Tryz.underlying59 Tryz.infoInt C m cl (jP xs) [.int .i64 x] _ rfl HO5.out _ rfl rfl rfl (by simp[bN]) (by omega) ?_;intro w6 hown6 hgrow6));go_roundg j'
     case measure=>omega
     case rel=>
      have hg6:=dG HG5.out (.cells #[.int .i64 x] 3);refine⟨xs++ [x],m+1,r3,rfl,by simp[HXJ.out],by omega,ha,HQ3.out,by rw[nB];exact hown6,yM hg6 hgrow6 (by omega), ?_⟩;exact(HL5.out.below ((cO _ _).alloc (bS hsz5) _) (by omega)).grown hgrow6 (by simp;omega)
    ·have e:m=cl:=by omega
     subst e;have e2:gk=0:=by omega
     subst e2;have HE:Hid (jB s n m [] r2=(xs,rj)):=HQJ.out;have hdj:decide ((m:Int)<(m:Int))=false:=by simp
     have HO6:Hid (wr.ownsRow B 121 2 (.slice (some ⟨B,0,none⟩) k n) k (stC m zs)):=aA (HO3.out.kept HGJ.out (.inr (by simp[bD];omega)));have HW6:=aA (HW3.out.grown HGJ.out (by omega));have HG6:=aA (aH HG3.out HGJ.out);have HRW:=aA (lQ HOJ.out);have hsz6:B<wr.heap.size:=by omega
     clear HO3 HW3 HG3 HOJ HGJ;go_wp2_with (first | (at_builtin;refine eI wr rfl _ _ 110 rfl B 121 (.agg #[.int .i64 0,.slice none 0 0]) 2 32 Tryz.underlying110 Tryz.infoState B k n (stC m zs) [.int .i64 (tk:Int),.slice (some ⟨C,0,none⟩) m m] _ rfl HO6.out _ rfl rfl rfl (by simp[bN]) (by omega) ?_;intro w6 hown6 hgrow6));go_roundg g'
     case measure=>omega
     case rel=>
      have hg6:=dG HG6.out (.cells #[.int .i64 (tk:Int),.slice (some ⟨C,0,none⟩) m m] 121);have hq:=HQ2.out;rw[HE.out]at hq;have hsz7:=hgrow6.size;simp at hsz7;refine⟨zs++ [((tk,xs),C)],k+1,rj,rfl,by simp[HX.out],by omega,hrj,by rw[List.map_append];exact hq,by rw[Cb];exact hown6, ?_,yM hg6 hgrow6 (by omega), ?_⟩
      ·refine((HW6.out.grown (dG (World.grownBy.refl _ (some B)) _) (by omega)).snoc ⟨by omega,by simp;omega, ?_⟩).grown hgrow6 (by omega);exact aC HRW.out (Below.heap_alloc wr _ C hszj)
      ·exact(HLJ.out.below ((cO _ _).alloc (bS hsz6) _) (by omega)).grown hgrow6 (by simp;omega)
  ·have e:k=n:=by omega
   subst e;have e2:gk=0:=by omega
   subst e2;have HE:Hid (lB s ru cl r=(zs.map (·.1),r')):=HQ.out;have hd:decide ((k:Int)<(k:Int))=false:=by simp
   go_wp2;go_ret;rw[HE.out];have hx:=HX.out;subst hx;exact⟨B,zs,hsz1,rfl,rfl,HO.out,HW.out,HG.out,HL.out⟩
end Go.Proofs.YtgjgjgihceijnaaGreat
namespace Go.Stn
def mM (s inp:ByteArray)(c p:Nat):Nat->Option Nat
 | 0=>some 0
 | d+1=>match mM s inp c p d with
  | none=>none
  | some st=>if bE s c st (bt inp (p+d))=255 then none else some (bE s c st (bt inp (p+d)))
def sL (s inp:ByteArray)(c p d:Nat):Option Nat:=
 match mM s inp c p d with
 | none=>none
 | some st=>if 0<eA s c st then some (eA s c st - 1)else none
def qC (s inp:ByteArray)(c p:Nat):Nat->Int×Nat
 | 0=>(-1,p)
 | d+1=>match sL s inp c p (d+1)with
  | some r=>((r:Int),p+(d+1))
  | none=>qC s inp c p d
theorem Dk {s inp:ByteArray}{c p d st:Nat}(h:mM s inp c p d=some st):
  mM s inp c p (d+1)=if bE s c st (bt inp (p+d))=255 then none else some (bE s c st (bt inp (p+d))):=by
 rw[mM,h]
theorem Mf {s inp:ByteArray}(hi:fV s=true){c p:Nat}(hc:c<iM s):∀d st,mM s inp c p d=some st->st<nSt s c:=by
 intro d
 induction d with
 | zero=>intro st h;rw[mM]at h;have:=(X7 hi hc).2;simp at h;omega
 | succ n ih=>
  intro st h
  cases h2:mM s inp c p n with
  | none=>rw[mM,h2]at h;cases h
  | some t=>
   rw[Dk h2]at h;split at h
   ·cases h
   ·rcases Jv hi hc (ih t h2) (jS inp (p+n))with h3 | h3
    ·simp at h;omega
    ·contradiction
theorem E7 {s inp:ByteArray}{c p d:Nat}(h:sL s inp c p (d+1)=none):qC s inp c p (d+1)=qC s inp c p d:=by
 rw[qC,h]
theorem G0 {s inp:ByteArray}{c p d r:Nat}(h:sL s inp c p (d+1)=some r):qC s inp c p (d+1)=((r:Int),p+(d+1)):=by
 rw[qC,h]
def oR (l:List (Int×Int×Int))(x:Int×Int×Int):Bool:=l.contains x
def lng (s inp:ByteArray)(c p:Nat):Int×Nat:=qC s inp c p (inp.size - p)
end Go.Stn
namespace Go.Stn
def std (c st i:Nat):Int×Int×Int:=((c:Int),(st:Int),(i:Int))
def lU (s inp:ByteArray)(c:Nat)(H:List (Int×Int×Int)):Nat->Nat->Nat->List (Int×Int×Int)->Nat->List (Int×Int×Int)×Nat
 | 0,_,_,S,n=>(S,n)
 | d+1,st,i,S,n=>
  if oR H (std c st i)=true then(S,n)
  else if bE s c st (bt inp i)=255 then(S++ [std c st i],n+1)
  else lU s inp c H d (bE s c st (bt inp i)) (i+1) (if 0<eA s c (bE s c st (bt inp i))then []else S++ [std c st i]) (n+1)
theorem C0 {s inp:ByteArray}{c d st i n:Nat}{H S:List (Int×Int×Int)}(h:oR H (std c st i)=true):lU s inp c H (d+1) st i S n=(S,n):=by
 rw[lU,if_pos h]
theorem uW {s inp:ByteArray}{c d st i n:Nat}{H S:List (Int×Int×Int)}(h:oR H (std c st i)=false)(hl:bE s c st (bt inp i)=255):
  lU s inp c H (d+1) st i S n=(S++ [std c st i],n+1):=by
 rw[lU,if_neg (by rw[h];decide),if_pos hl]
theorem zX {s inp:ByteArray}{c d st i n:Nat}{H S:List (Int×Int×Int)}(h:oR H (std c st i)=false)(hl:bE s c st (bt inp i)≠255)(hm:0<eA s c (bE s c st (bt inp i))):
  lU s inp c H (d+1) st i S n=lU s inp c H d (bE s c st (bt inp i)) (i+1) [] (n+1):=by
 rw[lU,if_neg (by rw[h];decide),if_neg hl,if_pos hm]
theorem F8 {s inp:ByteArray}{c d st i n:Nat}{H S:List (Int×Int×Int)}(h:oR H (std c st i)=false)(hl:bE s c st (bt inp i)≠255)(hm:eA s c (bE s c st (bt inp i))=0):
  lU s inp c H (d+1) st i S n=lU s inp c H d (bE s c st (bt inp i)) (i+1) (S++ [std c st i]) (n+1):=by
 rw[lU,if_neg (by rw[h];decide),if_neg hl,if_neg (by omega)]
def eW (s inp:ByteArray)(c:Nat)(H:List (Int×Int×Int))(p:Nat):List (Int×Int×Int)×Nat:=lU s inp c H (inp.size - p) 0 p [] 0
theorem Kr {s inp:ByteArray}{c:Nat}{H:List (Int×Int×Int)}:∀d st i S n,(lU s inp c H d st i S n).1.length<=S.length+d/\(lU s inp c H d st i S n).2<=n+d:=by
 intro d
 induction d with
 | zero=>intro st i S n;simp[lU]
 | succ e ih=>
  intro st i S n;rw[lU];split
  ·exact⟨by simp only;omega,by simp only;omega⟩
  ·split
   ·simp
   ·have:=ih (bE s c st (bt inp i)) (i+1) (if 0<eA s c (bE s c st (bt inp i))then []else S++ [std c st i]) (n+1);split at this
    ·rename_i hm;rw[if_pos hm];simp at this ⊢;omega
    ·rename_i hm;rw[if_neg hm];simp at this ⊢;omega
end Go.Stn
namespace Go.Stn
def fE (s:ByteArray)(r:Nat):Nat:=bt s (4+r)
def vV (s inp:ByteArray):Nat->Nat->Nat->List (Int×Int×Int)->Nat->List (Int×Int×Int)->List (Int×Int×Int)×Nat×Nat
 | 0,_,c,_,n,T=>(T,n,c)
 | f+1,p,c,H,n,T=>
  if p<inp.size then
   if(lng s inp c p).1= -1 then(T++ [(-1,(p:Int),(p:Int))],n+(eW s inp c H p).2,c)
   else vV s inp f (lng s inp c p).2 (if 1<fE s (lng s inp c p).1.toNat then fE s (lng s inp c p).1.toNat - 2 else c) (H++(eW s inp c H p).1) (n+(eW s inp c H p).2)
    (if fE s (lng s inp c p).1.toNat=1 then T else T++ [((lng s inp c p).1,(p:Int),((lng s inp c p).2:Int))])
  else(T,n,c)
def rC (s inp:ByteArray)(c:Nat):List (Int×Int×Int)×Nat×Nat:=vV s inp (inp.size+1) 0 c [] 0 []
theorem Dl {s inp:ByteArray}(hi:fV s=true){c p:Nat}(hc:c<iM s):∀d,qC s inp c p d=(-1,p)\/∃r q:Nat,qC s inp c p d=((r:Int),q)/\r<iR s/\p<q/\q<=p+d:=by
 intro d
 induction d with
 | zero=>exact .inl rfl
 | succ e ih=>
  cases ht:sL s inp c p (e+1)with
  | none=>
   rw[E7 ht];rcases ih with h | ⟨r,q,h1,h2,h3,h4⟩
   ·exact .inl h
   ·exact .inr ⟨r,q,h1,h2,h3,by omega⟩
  | some r=>
   right;refine⟨r,p+(e+1),G0 ht, ?_,by omega,by omega⟩;unfold sL at ht;split at ht
   ·cases ht
   ·rename_i st hst;split at ht
    ·rename_i hm;have:=Uj hi hc (Mf hi hc _ _ hst);simp at ht;omega
    ·cases ht
theorem yG {s inp:ByteArray}(hi:fV s=true){c p:Nat}(hc:c<iM s)(hp:p<=inp.size):lng s inp c p=(-1,p)\/∃r q:Nat,lng s inp c p=((r:Int),q)/\r<iR s/\p<q/\q<=inp.size:=by
 unfold lng;rcases Dl hi hc (inp:=inp) (p:=p) (inp.size - p)with h | ⟨r,q,h1,h2,h3,h4⟩
 ·exact .inl h
 ·exact .inr ⟨r,q,h1,h2,h3,by omega⟩
theorem uI {s:ByteArray}(hi:fV s=true){r:Nat}(hr:r<iR s):fE s r<=1+iM s:=by
 have hC:=(hZ.1 hi).2.2.1;unfold Di at hC;simp only[bC]at hC;have:=zH hC.1 r hr;unfold fE;omega
theorem I1 {s inp:ByteArray}{f p c n:Nat}{H T:List (Int×Int×Int)}(h:¬p<inp.size):vV s inp (f+1) p c H n T=(T,n,c):=by
 rw[vV,if_neg h]
theorem zN {s inp:ByteArray}{f p c n:Nat}{H T:List (Int×Int×Int)}(h:p<inp.size)(hl:lng s inp c p=(-1,p)):
  vV s inp (f+1) p c H n T=(T++ [(-1,(p:Int),(p:Int))],n+(eW s inp c H p).2,c):=by
 rw[vV,if_pos h,hl,if_pos rfl]
theorem zP {s inp:ByteArray}{f p c n r q:Nat}{H T:List (Int×Int×Int)}(h:p<inp.size)(hl:lng s inp c p=((r:Int),q)):
  vV s inp (f+1) p c H n T=vV s inp f q (if 1<fE s r then fE s r - 2 else c) (H++(eW s inp c H p).1) (n+(eW s inp c H p).2)
   (if fE s r=1 then T else T++ [((r:Int),(p:Int),(q:Int))]):=by
 rw[vV,if_pos h,hl,if_neg (by simp)];simp
theorem V1 {s inp:ByteArray}{c p:Nat}{H:List (Int×Int×Int)}:(eW s inp c H p).1.length<=inp.size - p/\(eW s inp c H p).2<=inp.size - p:=by
 have:=Kr (s:=s) (inp:=inp) (c:=c) (H:=H) (inp.size - p) 0 p [] 0;unfold eW;simp at this;exact this
end Go.Stn
namespace Go.Stn
theorem Gi {s:ByteArray}{ru cl:Nat}:∀n l (r:LSt),r.2=true->(jY s ru cl n l r).2.2=true:=by
 intro n;induction n with
 | zero=>intro l r h;exact h
 | succ k ih=>intro l r h;exact ih _ _ (Q7 h)
theorem Rr {l:List Nat}{m:Nat}(h:oM l m=false):∀x∈l,x<=m:=by
 intro x hx;unfold oM at h;rw[decide_eq_false_iff_not]at h;exact Nat.le_of_not_lt (fun hl=>h ⟨x,hx,hl⟩)
theorem Rv {l:List Nat}{m:Nat}(h:∀x∈l,x<=m):oM l m=false:=by
 unfold oM;rw[decide_eq_false_iff_not];rintro⟨x,hx,hl⟩;have:=h x hx;omega
structure Qb (s:ByteArray):Prop where
 r3:lh3 s=(3,false)
 ru:eK s=iR s
 r4:lh4 s=(4,false)
 be:iJ s=(aO (iR s)).map (fE s)
 r5:lh5 s=(4+iR s,false)
 mn:qI s=iM s
 r6:lh6 s=(5+iR s,false)
 cl:gC s=iK s
 r7:lh7 s=(6+iR s,false)
 co:bL s=(aO 256).map (oO s)
 r8:lh8 s=(iAt s 0,false)
theorem U7 {s:ByteArray}(h0:4<=s.size)(hb:bt s 0=83/\bt s 1=84/\bt s 2=1)(hr:1<=iR s/\iR s<=8)
  (hbe:4+iR s<=s.size/\∀j,j<iR s->fE s j<=5) (hm:4+iR s<s.size/\1<=iM s/\iM s<=4) (ho:∀j,j<iR s->fE s j<=1+iM s)
  (hk:5+iR s<s.size) (hc:6+iR s+256<=s.size/\∀j,j<256->oO s j<=iK s - 1):Qb s:=by
 have e0:bX s 83 83 (0,false)=(83,(1,false)):=by rw[dW (by omega) (by omega) (by omega),hb.1]
 have e1:bX s 84 84 (1,false)=(84,(2,false)):=by rw[dW (by omega) (by omega) (by omega),hb.2.1]
 have e2:bX s 1 1 (2,false)=(1,(3,false)):=by rw[dW (by omega) (by omega) (by omega),hb.2.2]
 have r3:lh3 s=(3,false):=by unfold lh3;rw[e0];simp only;rw[e1];simp only;rw[e2]
 have e3:bX s 1 8 (3,false)=(iR s,(4,false)):=dW (by omega) hr.1 hr.2;have ru:eK s=iR s:=by unfold eK;rw[r3,e3]
 have r4:lh4 s=(4,false):=by unfold lh4;rw[r3,e3]
 have e4:=zO (s:=s) (hi:=5) (iR s) [] 4 hbe.1 hbe.2;have be:iJ s=(aO (iR s)).map (fE s):=by unfold iJ;rw[ru,r4,e4];rfl
 have r5:lh5 s=(4+iR s,false):=by unfold lh5;rw[ru,r4,e4]
 have e5:bX s 1 4 (4+iR s,false)=(iM s,(4+iR s+1,false)):=dW hm.1 hm.2.1 hm.2.2;have mn:qI s=iM s:=by unfold qI;rw[r5,e5]
 have ov:oM (iJ s) (1+qI s)=false:=Rv (fun x hx=>by
  rw[be,bT]at hx;obtain⟨j,hj,rfl⟩:=hx;rw[mn];exact ho j (bO.1 hj))
 have r6:lh6 s=(5+iR s,false):=by unfold lh6;rw[r5,e5,ov];simp only[cF];congr 1;omega
 have e6:bX s 0 255 (5+iR s,false)=(bt s (5+iR s),(5+iR s+1,false)):=dW hk (by omega) (by have:=jS s (5+iR s);omega);have cl:gC s=iK s:=by unfold gC;rw[r6,e6];unfold iK;simp only;omega
 have r7:lh7 s=(6+iR s,false):=by unfold lh7;rw[r6,e6];simp only;congr 1;omega
 have e7:=zO (s:=s) (hi:=iK s - 1) 256 [] (6+iR s) hc.1 hc.2;have co:bL s=(aO 256).map (oO s):=by unfold bL;rw[cl,r7,e7];simp only[bM];exact bK (fun j _=>rfl)
 have ea:6+iR s+256=iAt s 0:=by show _=262+iR s;omega
 have r8:lh8 s=(iAt s 0,false):=by unfold lh8;rw[cl,r7,e7,ea]
 exact⟨r3,ru,r4,be,r5,mn,r6,cl,r7,co,r8⟩
theorem wZ {s:ByteArray}(h:fV s=true):Qb s:=by
 obtain⟨h1,h2,h3,h4,h5⟩:=nJ h;have hA:=pC.1 (hZ.1 h).1;refine U7 hA.1 hA.2.1 ⟨h2,h1⟩ ⟨by omega,fun j hj=>by have:=uI h hj;omega⟩ ⟨by omega,h3,h4⟩ (fun j hj=>uI h hj) (by omega) ⟨h5,fun j hj=>by have:=sJ h j hj;omega⟩
def J3 (s:ByteArray)(c:Nat):List (Nat×List Int):=(aO (nSt s c)).map fun st=>V3 s (iK s) (oA s c st)
theorem Q8 {s:ByteArray}(h:fV s=true):vF s=(aO (iM s)).map (J3 s)/\lh9 s=(s.size,false):=by
 have hd:=wZ h;have e:=Ft (s:=s) (iM s) [] 0 (fun j hj=>by rw[aR];exact vW h hj);refine⟨?_, ?_⟩
 ·unfold vF;rw[hd.ru,hd.cl,hd.mn,hd.r8,e];simp only[bM];refine bK (fun j _=> ?_);rw[aR];rfl
 ·unfold lh9;rw[hd.ru,hd.cl,hd.mn,hd.r8,e,aR,(hZ.1 h).2.2.2.2.2]
theorem Qj {s:ByteArray}(h:(lh9 s).2=false)(hs:(lh9 s).1=s.size):fV s=true:=by
 have h8:(lh8 s).2=false:=by
  cases hb:(lh8 s).2 with
  | false=>rfl
  | true=>unfold lh9 at h;rw[Gi _ _ _ hb]at h;cases h
 obtain⟨h7,k7,c7⟩:=F5 _ _ _ h8;obtain⟨h6,p6,a6,b6⟩:=jH h7;have h6':=h6;unfold lh6 at h6';simp only[Bool.or_eq_false_iff]at h6';obtain⟨h5,p5,a5,b5⟩:=jH h6'.1;obtain⟨h4,k4,c4⟩:=F5 _ _ _ h5;obtain⟨h3,p3,a3,b3⟩:=jH h4;obtain⟨h2,p2,a2,b2⟩:=jH h3;obtain⟨h1,p1,a1,b1⟩:=jH h2;obtain⟨h0,p0,a0,b0⟩:=jH h1;simp only at p0 a0 b0;have e0:bX s 83 83 (0,false)=(bt s 0,(1,false)):=dW (by omega) (by omega) (by omega);rw[e0]at p1 a1 b1;simp only at p1 a1 b1;have e1:bX s 84 84 (1,false)=(bt s 1,(2,false)):=dW p1 a1 b1;rw[e0]at p2 a2 b2;simp only at p2 a2 b2;rw[e1]at p2 a2 b2;simp only at p2 a2 b2;have e2:bX s 1 1 (2,false)=(bt s 2,(3,false)):=dW p2 a2 b2;have r3:lh3 s=(3,false):=by unfold lh3;rw[e0];simp only;rw[e1];simp only;rw[e2]
 rw[r3]at p3 a3 b3;simp only at p3 a3 b3;have e3:bX s 1 8 (3,false)=(iR s,(4,false)):=dW p3 a3 b3;have ru:eK s=iR s:=by unfold eK;rw[r3,e3]
 have r4:lh4 s=(4,false):=by unfold lh4;rw[r3,e3]
 rw[r4,ru]at k4;rw[r4,ru]at c4;simp only at k4 c4;have k4:=k4 (by omega);have e4:=zO (s:=s) (hi:=5) (iR s) [] 4 k4 c4;have r5:lh5 s=(4+iR s,false):=by unfold lh5;rw[ru,r4,e4]
 have be:iJ s=(aO (iR s)).map (fE s):=by unfold iJ;rw[ru,r4,e4];rfl
 rw[r5]at p5 a5 b5;simp only at p5 a5 b5;have e5:bX s 1 4 (4+iR s,false)=(iM s,(4+iR s+1,false)):=dW p5 a5 b5;have mn:qI s=iM s:=by unfold qI;rw[r5,e5]
 have r6:lh6 s=(5+iR s,false):=by unfold lh6;rw[r5,e5,h6'.2];simp only[cF];congr 1;omega
 have ho:∀j,j<iR s->fE s j<=1+iM s:=fun j hj=>by
  have:=Rr h6'.2 (fE s j) (by rw[be,bT];exact⟨j,bO.2 hj,rfl⟩);rw[mn]at this;exact this
 rw[r6]at p6;simp only at p6;have e6:bX s 0 255 (5+iR s,false)=(bt s (5+iR s),(5+iR s+1,false)):=dW p6 (by omega) (by have:=jS s (5+iR s);omega);have cl:gC s=iK s:=by unfold gC;rw[r6,e6];unfold iK;simp only;omega
 have r7:lh7 s=(6+iR s,false):=by unfold lh7;rw[r6,e6];simp only;congr 1;omega
 rw[r7]at k7;rw[r7,cl]at c7;simp only at k7 c7;have k7:=k7 (by omega);have a3':1<=iR s:=a3;have b3':iR s<=8:=b3;have a5':1<=iM s:=a5;have b5':iM s<=4:=b5;have hd:=U7 (s:=s) (by omega) ⟨by omega,by omega,by omega⟩ ⟨a3',b3'⟩ ⟨k4,c4⟩ ⟨p5,a5',b5'⟩ ho p6 ⟨k7,c7⟩;have h9:=h;unfold lh9 at h9 hs;rw[hd.ru,hd.cl,hd.mn]at h9 hs;obtain⟨q1,q2,q3⟩:=Bz (s:=s) (iM s) [] 0 (lh8 s) (by rw[hd.r8]) h9;rw[q3,aR]at hs;refine hZ.2 ⟨pC.2 ⟨by omega,⟨by omega,by omega,by omega⟩,a3',b3'⟩, ?_, ?_, ?_,fun c hc=>by have:=q2 c hc;rw[aR]at this;exact this,hs⟩
 ·unfold Dw;rw[bC];refine⟨kB (by omega) (fun j hj=> ?_),decide_eq_true (by omega)⟩;have e:j=0:=by omega
  subst e;have:bt s (4+iR s+0)=iM s:=rfl;omega
 ·unfold Di;rw[bC];refine⟨kB k4 (fun j hj=> ?_),kB (by omega) (fun j hj=> ?_)⟩
  ·have:=ho j hj;unfold fE at this;omega
  ·have:=jS s (5+iR s+j);omega
 ·unfold T4;refine kB k7 (fun j hj=> ?_);have:=c7 j hj;have:=Wf s;omega
theorem Qa (s:ByteArray):(lh9 s).1<=s.size:=by
 unfold lh9 lh8 lh7 lh6 lh5 lh4 lh3;refine Lt _ _ _ (G3 _ _ _ (fG ?_));exact fG (G3 _ _ _ (fG (fG (fG (fG (by simp))))))
theorem Qf (s:ByteArray):((lh9 s).2 || decide ((lh9 s).1<s.size))= !(fV s):=by
 have h1:=Qa s
 cases hi:fV s with
 | true=>rw[(Q8 hi).2];simp
 | false=>
  cases h2:(lh9 s).2 with
  | true=>rfl
  | false=>
   by_cases h3:(lh9 s).1<s.size
   ·simp[h3]
   ·rw[Qj h2 (by omega)]at hi;cases hi
end Go.Stn
