/- Texts put together: PlBehind, PlLead, PlWhole, PlToken, StWk, StAdd. -/
import Derived.Test.YtgjgjgihceijnaaG08
import Derived.Test.YtgjgjgihceijnaaG04
namespace Go.Stn
def behK (next:Nat→Int)(pl:Int):Nat→Int
 | 0=>0
 | k+1=>if andI pl (pow2 k)=0 then behK next pl k else orI (behK next pl k) (next k)
def behP (next:Nat→Int)(pl:Int):Int:=behK next pl 10
end Go.Stn
namespace Go.Proofs.Ytgjgjgihceijnaa
open Go.RowKit Go.Stn
structure NetAt (w:World)(nb:Nat)(vf vl:Value)(next:Nat→Int):Prop where
 c0:w.cell? ⟨nb,0,none⟩=some vf
 c1:w.cell? ⟨nb,1,none⟩=some vl
 nx:∀k,k<10→w.cell? ⟨nb,2+k,none⟩=some (.int .i64 (next k))
 fz:∀i,w.frozen? ⟨nb,i,none⟩=false
set_option maxRecDepth 100000 in
theorem pbehind_any (next:Nat→Int)(pl:Int)(nb:Nat)(vf vl:Value)(w:World)(h:NetAt w nb vf vl next):
  Calls Try.prog 93 #[.pointer (some ⟨nb,0,none⟩),.int .i64 pl] w fun e w'=>w'=w∧e= .returned (.int .i64 (behP next pl)):=by
 have HN:=hidK h.nx
 clear h
 go_enter Try.func93,Try.ntmps93
 go_wp2_with fail
 go_loop [5,7] (fun x i=>∃k:Nat,k≤10∧i= .int .i64 (k:Int)∧x= .int .i64 (behK next pl k)) (fun _ i=>10 - (intOf i).toNat)
 case atStart=>exact⟨0,Nat.zero_le _,rfl,rfl⟩
 case round=>
  obtain⟨k,hk,rfl,rfl⟩:=hrel
  by_cases hlt:k<10
  ·have HS:Hid (behK next pl (k+1)=if andI pl (pow2 k)=0 then behK next pl k else orI (behK next pl k) (next k)):=rfl
   have hc:=HN.out k hlt
   have hkI:(k:Int)<10:=by omega
   generalize behK next pl k=acc at*
   go_wp2_with fail
   refine(psingle_any k (by omega) _).mono ?_
   rintro e w1 ⟨rfl,rfl⟩
   by_cases hz:andI pl (pow2 k)=0
   ·have HE:Hid (behK next pl (k+1)=acc):=HS.out.trans (if_pos hz)
    have hz':(bits .and .i64 pl (pow2 k) !=0)=false:=by rw[show bits .and .i64 pl (pow2 k)=0 from hz];rfl
    clear hz HS
    go_wp2
    go_round
    case rel=>exact⟨k+1,by omega,by simp,by rw[HE.out]⟩
    case measure=>simp[intOf];omega
   ·have HE:Hid (behK next pl (k+1)=orI acc (next k)):=HS.out.trans (if_neg hz)
    have hz':(bits .and .i64 pl (pow2 k) !=0)=true:=bne_iff_ne.2 hz
    clear hz HS
    go_wp2
    go_round
    case rel=>exact⟨k+1,by omega,by simp,by rw[HE.out];rfl⟩
    case measure=>simp[intOf];omega
  ·have e:k=10:=by omega
   subst e
   go_wp2
   go_ret
   exact⟨rfl,rfl⟩
end Go.Proofs.Ytgjgjgihceijnaa

namespace Go.Stn
def leadK (next:Nat→Int)(fr dst:Int)(k:Nat):Nat→Int:=fun i=>if i<k∧andI fr (pow2 i)≠0 then orI (next i) dst else next i
def nleadP (next:Nat→Int)(fr dst:Int):Nat→Int:=leadK next fr dst 10
theorem leadK_self (next:Nat→Int)(fr dst:Int)(k:Nat):leadK next fr dst k k=next k:=by unfold leadK;rw[if_neg (by omega)]
theorem leadK_no {next:Nat→Int}{fr dst:Int}{k:Nat}(h:andI fr (pow2 k)=0):leadK next fr dst (k+1)=leadK next fr dst k:=by
 funext i
 unfold leadK
 by_cases e:i=k
 ·subst e;rw[if_neg (by simp[h]),if_neg (by omega)]
 ·by_cases hi:i<k
  ·simp[hi,show i<k+1 by omega]
  ·simp[hi,show¬i<k+1 by omega]
theorem leadK_yes {next:Nat→Int}{fr dst:Int}{k:Nat}(h:andI fr (pow2 k)≠0)(i:Nat):leadK next fr dst (k+1) i=if i=k then orI (next k) dst else leadK next fr dst k i:=by
 unfold leadK
 by_cases e:i=k
 ·subst e;rw[if_pos ⟨by omega,h⟩,if_pos rfl]
 ·rw[if_neg e]
  by_cases hi:i<k
  ·simp[hi,show i<k+1 by omega]
  ·simp[hi,show¬i<k+1 by omega]
end Go.Stn
namespace Go.Proofs.Ytgjgjgihceijnaa
open Go.RowKit Go.Stn
theorem NetAt.set {w:World}{nb:Nat}{vf vl:Value}{next next':Nat→Int}(h:NetAt w nb vf vl next)(k:Nat)(hk:k<10)(v:Int)(hn:∀i,next' i=if i=k then v else next i):NetAt (w.setCell ⟨nb,2+k,none⟩ (.int .i64 v)) nb vf vl next':=by
 refine⟨?_, ?_,fun i hi=> ?_,fun i=>by rw[World.frozen?_setCell];exact h.fz i⟩
 ·rw[World.cell?_setCell_other (h:=by intro e;injection e;omega)];exact h.c0
 ·rw[World.cell?_setCell_other (h:=by intro e;injection e;omega)];exact h.c1
 ·rw[hn i]
  by_cases e:i=k
  ·subst e;rw[if_pos rfl,World.cell?_setCell_same' _ _ _ (by rw[h.nx i hi];rfl)]
  ·rw[if_neg e,World.cell?_setCell_other (h:=by intro e;injection e;omega)];exact h.nx i hi
theorem NetAt.drew {w:World}{nb:Nat}{vf vl:Value}{next:Nat→Int}(h:NetAt w nb vf vl next):NetAt w.drew nb vf vl next:=⟨h.c0,h.c1,h.nx,h.fz⟩
theorem grown_drew1 {a w:World}{r:Option Nat}(h:a.grownBy w r):a.grownBy w.drew r:=⟨h.os,h.tape,h.output,h.size,h.block⟩
set_option maxRecDepth 100000 in
theorem plead_any (next:Nat→Int)(fr dst:Int)(nb:Nat)(vf vl:Value)(w:World)(h:NetAt w nb vf vl next):
  Calls Try.prog 118 #[.pointer (some ⟨nb,0,none⟩),.int .i64 fr,.int .i64 dst] w fun e w'=>w.grownBy w' (some nb)∧NetAt w' nb vf vl (nleadP next fr dst)∧e= .returned (.tuple #[]):=by
 have HN:=hidK h
 clear h
 go_enter Try.func118,Try.ntmps118
 go_wp2_with fail
 go_loopw [7] (fun i wr=>∃k:Nat,k≤10∧i= .int .i64 (k:Int)∧w.grownBy wr (some nb)∧NetAt wr nb vf vl (leadK next fr dst k)) (fun i _=>10 - (intOf i).toNat)
 case atStart=>exact⟨0,Nat.zero_le _,rfl,World.grownBy.refl _ _,by
  have e:leadK next fr dst 0=next:=by(funext i;unfold leadK;simp)
  rw[e];exact HN.out⟩
 case round=>
  obtain⟨k,hk,rfl,hg,hn⟩:=hrel
  have HG:=hidK hg
  have HA:=hidK hn
  clear hg hn HN
  by_cases hlt:k<10
  ·have hc:=HA.out.nx k hlt
   rw[leadK_self]at hc
   have hz:=HA.out.fz (2+k)
   have hkI:(k:Int)<10:=by omega
   go_wp2_with fail
   refine(psingle_any k (by omega) _).mono ?_
   rintro e w1 ⟨rfl,rfl⟩
   by_cases hz0:andI fr (pow2 k)=0
   ·have HE:=hidK (leadK_no (next:=next) (dst:=dst) hz0)
    have hz':(bits .and .i64 fr (pow2 k) !=0)=false:=by rw[show bits .and .i64 fr (pow2 k)=0 from hz0];rfl
    clear hz0
    go_wp2
    go_roundw
    case rel=>exact⟨k+1,by omega,by simp,HG.out,by rw[HE.out];exact HA.out⟩
    case measure=>simp[intOf];omega
   ·have HE:=hidK (leadK_yes (next:=next) (dst:=dst) hz0)
    have hz':(bits .and .i64 fr (pow2 k) !=0)=true:=bne_iff_ne.2 hz0
    clear hz0
    go_wp2
    go_region
    all_goals
     go_wp2
     go_roundw
     case rel=>exact⟨k+1,by omega,by simp,grown_set (grown_drew1 HG.out) _ _,HA.out.drew.set k hlt _ HE.out⟩
     case measure=>simp[intOf];omega
  ·have e:k=10:=by omega
   subst e
   go_wp2
   go_end0
   exact⟨HG.out,HA.out,rfl⟩
end Go.Proofs.Ytgjgjgihceijnaa

namespace Go.Stn
def wholeP (kind left:Int)(l r:Int×Int×Bool)(next:Nat→Int):(Int×Int×Bool)×(Nat→Int):=
 if kind=0 then((pow2 left.toNat,pow2 left.toNat,false),next)
 else if kind=1 then(joinedP l r,nleadP next l.2.1 r.1)
 else if kind=2 then((orI l.1 r.1,orI l.2.1 r.2.1,l.2.2 || r.2.2),next)
 else if kind=3 then((l.1,l.2.1,true),next)
 else if kind=4 then(l,nleadP next l.2.1 l.1)
 else((l.1,l.2.1,true),nleadP next l.2.1 l.1)
end Go.Stn
namespace Go.Proofs.Ytgjgjgihceijnaa
open Go.RowKit Go.Stn
theorem NetAt.below {w w':World}{nb B:Nat}{vf vl:Value}{next:Nat→Int}(h:NetAt w nb vf vl next)(hB:Below B w w')(hb:nb<B):NetAt w' nb vf vl next:=
 ⟨(hB.cell (p:=⟨nb,0,none⟩) hb).trans h.c0,(hB.cell (p:=⟨nb,1,none⟩) hb).trans h.c1,fun k hk=>(hB.cell (p:=⟨nb,2+k,none⟩) hb).trans (h.nx k hk),fun i=>(hB.frozen (p:=⟨nb,i,none⟩) hb).trans (h.fz i)⟩
theorem fours (w:World)(a b c d e f g h i:Value)(t1 t2:TypeId)(x y z:Value):
  Three ((((w.alloc (.cells #[a,b,c] t1)).alloc (.cells #[d,e,f] t2)).alloc (.cells #[g,h,i] t2)).alloc (.cells #[x,y,z] t2)) (w.heap.size+1) d e f∧
  Three ((((w.alloc (.cells #[a,b,c] t1)).alloc (.cells #[d,e,f] t2)).alloc (.cells #[g,h,i] t2)).alloc (.cells #[x,y,z] t2)) (w.heap.size+1+1) g h i∧
  Three ((((w.alloc (.cells #[a,b,c] t1)).alloc (.cells #[d,e,f] t2)).alloc (.cells #[g,h,i] t2)).alloc (.cells #[x,y,z] t2)) (w.heap.size+1+1+1) x y z:=
 ⟨((Three.new _ _ _ _ _ _ (by simp)).alloc (by simp) _).alloc (by simp) _,(Three.new _ _ _ _ _ _ (by simp)).alloc (by simp) _,Three.new _ _ _ _ _ _ (by simp)⟩
def WholeSaid (w:World)(nb:Nat)(vf vl:Value)(x:(Int×Int×Bool)×(Nat→Int))(e:Ending)(w':World):Prop:=
 w.grownBy w' (some nb)∧NetAt w' nb vf vl x.2∧e= .returned (partV x.1)
theorem grown_three {a w:World}{r:Option Nat}(h:a.grownBy w r){b:Nat}(hb:a.heap.size≤b)(x y z:Value):a.grownBy (((w.setCell ⟨b,0,none⟩ x).setCell ⟨b,1,none⟩ y).setCell ⟨b,2,none⟩ z) r:=
 grown_setOver (grown_setOver (grown_setOver h hb 0 x) hb 1 y) hb 2 z
theorem NetAt.three {w:World}{nb b:Nat}{vf vl:Value}{next:Nat→Int}(h:NetAt w nb vf vl next)(hb:nb<b)(x y z:Value):NetAt (((w.setCell ⟨b,0,none⟩ x).setCell ⟨b,1,none⟩ y).setCell ⟨b,2,none⟩ z) nb vf vl next:=
 h.below (below_three (Below.refl b w) (Nat.le_refl _) x y z) hb
theorem Three.other1 {w:World}{b:Nat}{x y z:Value}(h:Three w b x y z)(c i:Nat)(v:Value)(hc:b≠c):Three (w.setCell ⟨c,i,none⟩ v) b x y z:=
 h.block (Below.heap_setCell w ⟨c,i,none⟩ v b hc)
set_option maxRecDepth 100000 in
theorem pwhole0 (next:Nat→Int)(p:Nat)(hp:p<10)(z:Int)(l r:Int×Int×Bool)(nb:Nat)(vf vl:Value)(w:World)(hnb:nb<w.heap.size)(h:NetAt w nb vf vl next):
  Calls Try.prog 91 #[.pointer (some ⟨nb,0,none⟩),.agg #[.int .i64 0,.int .i64 (p:Int),.int .i64 z],partV l,partV r] w (WholeSaid w nb vf vl (wholeP 0 p l r next)):=by
 obtain⟨l1,l2,l3⟩:=l
 obtain⟨r1,r2,r3⟩:=r
 have HH:=hidK h
 clear h
 show Calls _ _ #[_,_,.agg #[.int .i64 l1,.int .i64 l2,.bool l3],.agg #[.int .i64 r1,.int .i64 r2,.bool r3]] _ _
 go_enter Try.func91,Try.ntmps91
 go_wp2_with fail
 refine(psingle_any p (by omega) _).mono ?_
 rintro e w1 ⟨rfl,rfl⟩
 go_wp2_with fail
 exact ret_cell1 Try.results91 (w.heap.size+1+1+1) 0 _ _ rfl (fours _ _ _ _ _ _ _ _ _ _ _ _ _ _ _).2.2.range Try.underlying193 rfl Try.partSize rfl
  ⟨grown_of_below (below4 _ _ _ _ _) (Nat.le_refl _) _,HH.out.below (below4 _ _ _ _ _) hnb,rfl⟩
set_option maxRecDepth 100000 in
theorem pwhole2 (next:Nat→Int)(y z:Int)(l r:Int×Int×Bool)(nb:Nat)(vf vl:Value)(w:World)(hnb:nb<w.heap.size)(h:NetAt w nb vf vl next):
  Calls Try.prog 91 #[.pointer (some ⟨nb,0,none⟩),.agg #[.int .i64 2,.int .i64 y,.int .i64 z],partV l,partV r] w (WholeSaid w nb vf vl (wholeP 2 y l r next)):=by
 obtain⟨l1,l2,l3⟩:=l
 obtain⟨r1,r2,r3⟩:=r
 have HH:=hidK h
 clear h
 show Calls _ _ #[_,_,.agg #[.int .i64 l1,.int .i64 l2,.bool l3],.agg #[.int .i64 r1,.int .i64 r2,.bool r3]] _ _
 cases l3
 all_goals
  go_enter Try.func91,Try.ntmps91
  go_wp2_with fail
  exact ret_cell1 Try.results91 (w.heap.size+1+1+1) 0 _ _ rfl (fours _ _ _ _ _ _ _ _ _ _ _ _ _ _ _).2.2.range Try.underlying193 rfl Try.partSize rfl
   ⟨grown_of_below (below4 _ _ _ _ _) (Nat.le_refl _) _,HH.out.below (below4 _ _ _ _ _) hnb,rfl⟩
set_option maxRecDepth 100000 in
theorem pwhole3 (next:Nat→Int)(y z:Int)(l r:Int×Int×Bool)(nb:Nat)(vf vl:Value)(w:World)(hnb:nb<w.heap.size)(h:NetAt w nb vf vl next):
  Calls Try.prog 91 #[.pointer (some ⟨nb,0,none⟩),.agg #[.int .i64 3,.int .i64 y,.int .i64 z],partV l,partV r] w (WholeSaid w nb vf vl (wholeP 3 y l r next)):=by
 obtain⟨l1,l2,l3⟩:=l
 obtain⟨r1,r2,r3⟩:=r
 have HH:=hidK h
 clear h
 show Calls _ _ #[_,_,.agg #[.int .i64 l1,.int .i64 l2,.bool l3],.agg #[.int .i64 r1,.int .i64 r2,.bool r3]] _ _
 go_enter Try.func91,Try.ntmps91
 go_wp2_with fail
 exact ret_cell1 Try.results91 (w.heap.size+1+1+1) 0 _ _ rfl (fours _ _ _ _ _ _ _ _ _ _ _ _ _ _ _).2.2.range Try.underlying193 rfl Try.partSize rfl
  ⟨grown_of_below (below4 _ _ _ _ _) (Nat.le_refl _) _,HH.out.below (below4 _ _ _ _ _) hnb,rfl⟩
set_option maxRecDepth 100000 in
theorem pwhole4 (next:Nat→Int)(y z:Int)(l r:Int×Int×Bool)(nb:Nat)(vf vl:Value)(w:World)(hnb:nb<w.heap.size)(h:NetAt w nb vf vl next):
  Calls Try.prog 91 #[.pointer (some ⟨nb,0,none⟩),.agg #[.int .i64 4,.int .i64 y,.int .i64 z],partV l,partV r] w (WholeSaid w nb vf vl (wholeP 4 y l r next)):=by
 obtain⟨l1,l2,l3⟩:=l
 obtain⟨r1,r2,r3⟩:=r
 show Calls _ _ #[_,_,.agg #[.int .i64 l1,.int .i64 l2,.bool l3],.agg #[.int .i64 r1,.int .i64 r2,.bool r3]] _ _
 have HB:=hidK (below4 w (.cells #[.int .i64 4,.int .i64 y,.int .i64 z] 191) (.cells #[.int .i64 l1,.int .i64 l2,.bool l3] 193) (.cells #[.int .i64 r1,.int .i64 r2,.bool r3] 193) (.cells #[.int .i64 0,.int .i64 0,.bool false] 193))
 have HF:=hidK (fours w (.int .i64 4) (.int .i64 y) (.int .i64 z) (.int .i64 l1) (.int .i64 l2) (.bool l3) (.int .i64 r1) (.int .i64 r2) (.bool r3) 191 193 (.int .i64 0) (.int .i64 0) (.bool false))
 have hsz:((((w.alloc (.cells #[.int .i64 4,.int .i64 y,.int .i64 z] 191)).alloc (.cells #[.int .i64 l1,.int .i64 l2,.bool l3] 193)).alloc (.cells #[.int .i64 r1,.int .i64 r2,.bool r3] 193)).alloc (.cells #[.int .i64 0,.int .i64 0,.bool false] 193)).heap.size=w.heap.size+4:=by simp
 go_enter Try.func91,Try.ntmps91
 go_wp2_with fail
 generalize (((w.alloc (.cells #[.int .i64 4,.int .i64 y,.int .i64 z] 191)).alloc (.cells #[.int .i64 l1,.int .i64 l2,.bool l3] 193)).alloc (.cells #[.int .i64 r1,.int .i64 r2,.bool r3] 193)).alloc (.cells #[.int .i64 0,.int .i64 0,.bool false] 193)=W at*
 refine(plead_any next l2 l1 nb vf vl W (h.below HB.out hnb)).mono ?_
 rintro e w1 ⟨hg,hn,rfl⟩
 have H1:=hidK (HF.out.1.block (hg.block _ (by omega) (by intro e;injection e;omega)))
 have H2:=hidK (HF.out.2.1.block (hg.block _ (by omega) (by intro e;injection e;omega)))
 have H3:=hidK (HF.out.2.2.block (hg.block _ (by omega) (by intro e;injection e;omega)))
 have HG:=hidK (grown_trans (grown_of_below HB.out (Nat.le_refl _) (some nb)) hg)
 have HN:=hidK hn
 have hs1:w.heap.size+4≤w1.heap.size:=by have:=hg.size;omega
 clear hg hn h HB HF hsz
 have a0:=H1.out.c0
 have a1:=H1.out.c1
 have a2:=H1.out.c2
 have b0:=H3.out.c0
 have b1:=H3.out.c1
 have b2:=H3.out.c2
 have z0:=H3.out.z 0
 have z1:=H3.out.z 1
 have z2:=H3.out.z 2
 go_wp2_with fail
 exact ret_cell1 Try.results91 (w.heap.size+1+1+1) 0 _ _ rfl (H3.out.stored _ _ _).range Try.underlying193 rfl Try.partSize rfl
  ⟨grown_three HG.out (by omega) _ _ _,HN.out.three (by omega) _ _ _,rfl⟩
set_option maxRecDepth 100000 in
theorem pwhole5 (next:Nat→Int)(y z:Int)(l r:Int×Int×Bool)(nb:Nat)(vf vl:Value)(w:World)(hnb:nb<w.heap.size)(h:NetAt w nb vf vl next):
  Calls Try.prog 91 #[.pointer (some ⟨nb,0,none⟩),.agg #[.int .i64 5,.int .i64 y,.int .i64 z],partV l,partV r] w (WholeSaid w nb vf vl (wholeP 5 y l r next)):=by
 obtain⟨l1,l2,l3⟩:=l
 obtain⟨r1,r2,r3⟩:=r
 show Calls _ _ #[_,_,.agg #[.int .i64 l1,.int .i64 l2,.bool l3],.agg #[.int .i64 r1,.int .i64 r2,.bool r3]] _ _
 have HB:=hidK (below4 w (.cells #[.int .i64 5,.int .i64 y,.int .i64 z] 191) (.cells #[.int .i64 l1,.int .i64 l2,.bool l3] 193) (.cells #[.int .i64 r1,.int .i64 r2,.bool r3] 193) (.cells #[.int .i64 0,.int .i64 0,.bool false] 193))
 have HF:=hidK (fours w (.int .i64 5) (.int .i64 y) (.int .i64 z) (.int .i64 l1) (.int .i64 l2) (.bool l3) (.int .i64 r1) (.int .i64 r2) (.bool r3) 191 193 (.int .i64 0) (.int .i64 0) (.bool false))
 have hsz:((((w.alloc (.cells #[.int .i64 5,.int .i64 y,.int .i64 z] 191)).alloc (.cells #[.int .i64 l1,.int .i64 l2,.bool l3] 193)).alloc (.cells #[.int .i64 r1,.int .i64 r2,.bool r3] 193)).alloc (.cells #[.int .i64 0,.int .i64 0,.bool false] 193)).heap.size=w.heap.size+4:=by simp
 go_enter Try.func91,Try.ntmps91
 go_wp2_with fail
 generalize (((w.alloc (.cells #[.int .i64 5,.int .i64 y,.int .i64 z] 191)).alloc (.cells #[.int .i64 l1,.int .i64 l2,.bool l3] 193)).alloc (.cells #[.int .i64 r1,.int .i64 r2,.bool r3] 193)).alloc (.cells #[.int .i64 0,.int .i64 0,.bool false] 193)=W at*
 refine(plead_any next l2 l1 nb vf vl W (h.below HB.out hnb)).mono ?_
 rintro e w1 ⟨hg,hn,rfl⟩
 have H1:=hidK (HF.out.1.block (hg.block _ (by omega) (by intro e;injection e;omega)))
 have H2:=hidK (HF.out.2.1.block (hg.block _ (by omega) (by intro e;injection e;omega)))
 have H3:=hidK (HF.out.2.2.block (hg.block _ (by omega) (by intro e;injection e;omega)))
 have HG:=hidK (grown_trans (grown_of_below HB.out (Nat.le_refl _) (some nb)) hg)
 have HN:=hidK hn
 have hs1:w.heap.size+4≤w1.heap.size:=by have:=hg.size;omega
 clear hg hn h HB HF hsz
 have a0:=H1.out.c0
 have a1:=H1.out.c1
 have a2:=H1.out.c2
 have b0:=H3.out.c0
 have b1:=H3.out.c1
 have b2:=H3.out.c2
 have z0:=H3.out.z 0
 have z1:=H3.out.z 1
 have z2:=H3.out.z 2
 have y2:=H1.out.z 2
 have H4:=hidK (H3.out.other1 (w.heap.size+1) 2 (.bool true) (by omega))
 have HG4:=hidK (grown_setOver HG.out (b:=w.heap.size+1) (by omega) 2 (.bool true))
 have HN4:=hidK (HN.out.below ((Below.refl (w.heap.size+1) w1).setCell (p:=⟨w.heap.size+1,2,none⟩) (Nat.le_refl _) (.bool true)) (by omega))
 go_wp2_with fail
 exact ret_cell1 Try.results91 (w.heap.size+1+1+1) 0 _ _ rfl (H4.out.stored _ _ _).range Try.underlying193 rfl Try.partSize rfl
  ⟨grown_three HG4.out (by omega) _ _ _,HN4.out.three (by omega) _ _ _,rfl⟩
set_option maxRecDepth 100000 in
theorem pwhole1 (next:Nat→Int)(y z:Int)(l r:Int×Int×Bool)(nb:Nat)(vf vl:Value)(w:World)(hnb:nb<w.heap.size)(h:NetAt w nb vf vl next):
  Calls Try.prog 91 #[.pointer (some ⟨nb,0,none⟩),.agg #[.int .i64 1,.int .i64 y,.int .i64 z],partV l,partV r] w (WholeSaid w nb vf vl (wholeP 1 y l r next)):=by
 obtain⟨l1,l2,l3⟩:=l
 obtain⟨r1,r2,r3⟩:=r
 show Calls _ _ #[_,_,.agg #[.int .i64 l1,.int .i64 l2,.bool l3],.agg #[.int .i64 r1,.int .i64 r2,.bool r3]] _ _
 have HB:=hidK (below4 w (.cells #[.int .i64 1,.int .i64 y,.int .i64 z] 191) (.cells #[.int .i64 l1,.int .i64 l2,.bool l3] 193) (.cells #[.int .i64 r1,.int .i64 r2,.bool r3] 193) (.cells #[.int .i64 0,.int .i64 0,.bool false] 193))
 have HF:=hidK (fours w (.int .i64 1) (.int .i64 y) (.int .i64 z) (.int .i64 l1) (.int .i64 l2) (.bool l3) (.int .i64 r1) (.int .i64 r2) (.bool r3) 191 193 (.int .i64 0) (.int .i64 0) (.bool false))
 have hsz:((((w.alloc (.cells #[.int .i64 1,.int .i64 y,.int .i64 z] 191)).alloc (.cells #[.int .i64 l1,.int .i64 l2,.bool l3] 193)).alloc (.cells #[.int .i64 r1,.int .i64 r2,.bool r3] 193)).alloc (.cells #[.int .i64 0,.int .i64 0,.bool false] 193)).heap.size=w.heap.size+4:=by simp
 go_enter Try.func91,Try.ntmps91
 go_wp2_with fail
 generalize (((w.alloc (.cells #[.int .i64 1,.int .i64 y,.int .i64 z] 191)).alloc (.cells #[.int .i64 l1,.int .i64 l2,.bool l3] 193)).alloc (.cells #[.int .i64 r1,.int .i64 r2,.bool r3] 193)).alloc (.cells #[.int .i64 0,.int .i64 0,.bool false] 193)=W at*
 refine(plead_any next l2 r1 nb vf vl W (h.below HB.out hnb)).mono ?_
 rintro e w1 ⟨hg,hn,rfl⟩
 have H1:=hidK (HF.out.1.block (hg.block _ (by omega) (by intro e;injection e;omega)))
 have H2:=hidK (HF.out.2.1.block (hg.block _ (by omega) (by intro e;injection e;omega)))
 have H3:=hidK (HF.out.2.2.block (hg.block _ (by omega) (by intro e;injection e;omega)))
 have HG:=hidK (grown_trans (grown_of_below HB.out (Nat.le_refl _) (some nb)) hg)
 have HN:=hidK hn
 have hs1:w.heap.size+4≤w1.heap.size:=by have:=hg.size;omega
 clear hg hn h HB HF hsz
 have a0:=H1.out.c0
 have a1:=H1.out.c1
 have a2:=H1.out.c2
 have e0:=H2.out.c0
 have e1:=H2.out.c1
 have e2:=H2.out.c2
 go_wp2_with fail
 refine(pjoined_any l1 l2 r1 r2 l3 r3 _).mono ?_
 rintro e w2 ⟨hb2,rfl⟩
 have H4:=hidK (H3.out.block (hb2.block _ (by omega)))
 have HG4:=hidK (grown_trans HG.out (grown_of_below hb2 (Nat.le_refl _) (some nb)))
 have HN4:=hidK (HN.out.below hb2 (by omega))
 clear hb2 a0 a1 a2 e0 e1 e2 H1 H2 H3
 have b0:=H4.out.c0
 have b1:=H4.out.c1
 have b2:=H4.out.c2
 have z0:=H4.out.z 0
 have z1:=H4.out.z 1
 have z2:=H4.out.z 2
 have HE:Hid ((wholeP 1 y (l1,l2,l3) (r1,r2,r3) next)=(joinedP (l1,l2,l3) (r1,r2,r3),nleadP next l2 r1)):=rfl
 generalize joinedP (l1,l2,l3) (r1,r2,r3)=J at*
 obtain⟨j1,j2,j3⟩:=J
 unfold partV
 go_wp2_with fail
 refine ret_cell1 Try.results91 (w.heap.size+1+1+1) 0 _ _ rfl (H4.out.stored _ _ _).range Try.underlying193 rfl Try.partSize rfl ?_
 rw[HE.out]
 exact⟨grown_three HG4.out (by omega) _ _ _,HN4.out.three (by omega) _ _ _,rfl⟩
end Go.Proofs.Ytgjgjgihceijnaa

namespace Go.Stn
def tokL:List Int→Int→Nat→Nat
 | [],_,_=>0
 | a::r,pl,k=>if andI pl a=0 then tokL r pl (k+1)else k+1
def tokP (l:List Int)(pl:Int):Nat:=tokL l pl 0
theorem tokL_step {l:List Int}{a:Int}{k:Nat}(h:l[k]? =some a)(pl:Int)(m:Nat):tokL (l.drop k) pl m=if andI pl a=0 then tokL (l.drop (k+1)) pl (m+1)else m+1:=by
 have e:l.drop k=a::l.drop (k+1):=by
  obtain⟨hk,he⟩:=List.getElem?_eq_some_iff.1 h
  rw[List.drop_eq_getElem_cons hk,he]
 rw[e,tokL]
end Go.Stn
namespace Go.Proofs.Ytgjgjgihceijnaa
open Go.RowKit Go.Stn
set_option maxRecDepth 100000 in
theorem ptoken_any (l:List Int)(v:Value)(pl:Int)(nb:Nat)(vf:Value)(next:Nat→Int)(w:World)(hl:l.length≤1000000)(h:NetAt w nb vf v next)(hr:Row1 w v l):
  Calls Try.prog 120 #[.pointer (some ⟨nb,0,none⟩),.int .i64 pl] w fun e w'=>w'=w∧e= .returned (.int .i64 (tokP l pl:Int)):=by
 have c1:=h.c1
 clear h
 rcases hr.sh with⟨rfl,rfl⟩ | ⟨g,cap,rfl,h1,h2,hcells⟩
 ·go_enter Try.func120,Try.ntmps120
  go_wp2_with fail
  go_loop [12] (fun i=>i= .int .i64 0) (fun _=>0)
  case atStart=>rfl
  case round=>
   subst hrel
   go_wp2
   go_ret
   exact⟨rfl,rfl⟩
 ·have HC:=hidK hcells
  clear hcells hr
  go_enter Try.func120,Try.ntmps120
  go_wp2_with fail
  go_loop [12] (fun i=>∃k:Nat,k≤l.length∧i= .int .i64 (k:Int)∧tokL (l.drop k) pl k=tokP l pl) (fun i=>l.length - (intOf i).toNat)
  case atStart=>exact⟨0,Nat.zero_le _,rfl,by simp[tokP]⟩
  case round=>
   obtain⟨k,hk,rfl,hall⟩:=hrel
   have HA:=hidK hall
   clear hall
   by_cases hlt:k<l.length
   ·obtain⟨a,hu⟩:∃u,l[k]? =some u:=⟨_,List.getElem?_eq_getElem hlt⟩
    have k0:=HC.out k _ hu
    have HS:=hidK (tokL_step hu pl k)
    by_cases he:andI pl a=0
    ·have HN:Hid (tokL (l.drop (k+1)) pl (k+1)=tokP l pl):=by unfold Hid;rw[←HA.out,HS.out,if_pos he]
     have hb:(bits .and .i64 pl a !=0)=false:=by rw[show bits .and .i64 pl a=0 from he];rfl
     clear hu he
     go_wp2
     go_round
     case rel=>exact⟨k+1,by omega,by simp,HN.out⟩
     case measure=>simp[intOf];omega
    ·have HE:Hid (tokP l pl=k+1):=by unfold Hid;rw[←HA.out,HS.out,if_neg he]
     have hb:(bits .and .i64 pl a !=0)=true:=bne_iff_ne.2 he
     clear hu he
     go_wp2
     go_ret
     exact⟨rfl,by rw[HE.out];rfl⟩
   ·have e:k=l.length:=by omega
    have HE:Hid (tokP l pl=0):=by unfold Hid;rw[←HA.out,e,List.drop_length];rfl
    clear HA
    subst e
    go_wp2
    go_ret
    exact⟨rfl,by rw[HE.out];rfl⟩
end Go.Proofs.Ytgjgjgihceijnaa

namespace Go.Stn
open Go.RowKit
def enC (E:List (Nat×Value)):List Value:=E.flatMap fun e=>[Value.int .i64 (e.1:Int),e.2]
theorem enC_snoc (E:List (Nat×Value))(e:Nat×Value):enC (E++ [e])=enC E++ [Value.int .i64 (e.1:Int),e.2]:=by simp[enC]
def netA (vf vl:Value)(next:Nat→Int):Array Value:= #[vf,vl,.int .i64 (next 0),.int .i64 (next 1),.int .i64 (next 2),.int .i64 (next 3),.int .i64 (next 4),.int .i64 (next 5),.int .i64 (next 6),.int .i64 (next 7),.int .i64 (next 8),.int .i64 (next 9)]
theorem Row1.below {w w':World}{v:Value}{l:List Int}{B:Nat}(h:Row1 w v l)(hB:Below B w w')(hb:∀k,v.ownBlock=some k→k<B):Row1 w' v l:=by
 refine⟨?_⟩
 rcases h.sh with h1 | ⟨g,cap,rfl,h2,h3,h4⟩
 ·exact .inl h1
 ·exact .inr ⟨g,cap,rfl,h2,h3,fun k x hk=>(hB.cell (p:=⟨g,k,none⟩) (hb g rfl)).trans (h4 k x hk)⟩
end Go.Stn
namespace Go.Proofs.Ytgjgjgihceijnaa
open Go.RowKit Go.Stn
theorem NetAt.box (w:World)(vf vl:Value)(next:Nat→Int)(ty:TypeId)(B:Nat)(hB:B=w.heap.size):NetAt (w.alloc (.cells (netA vf vl next) ty)) B vf vl next:=by
 have hc:∀i v,(netA vf vl next)[i]? =some v→(w.alloc (.cells (netA vf vl next) ty)).cell? ⟨B,i,none⟩=some v:=fun i v h=>(World.cell?_alloc_at _ _ B i hB).trans h
 refine⟨hc 0 _ rfl,hc 1 _ rfl,fun k hk=> ?_,fun i=>World.frozen?_alloc_at _ _ B i hB⟩
 have:k=0∨k=1∨k=2∨k=3∨k=4∨k=5∨k=6∨k=7∨k=8∨k=9:=by omega
 rcases this with rfl | rfl | rfl | rfl | rfl | rfl | rfl | rfl | rfl | rfl<;> exact hc _ _ rfl
structure WK (w:World)(wb:Nat)(num:Nat→Int)(S:List Int)(E:List (Nat×Value))(vs vst:Value):Prop where
 c0:w.cell? ⟨wb,0,none⟩=some vs
 nm:∀x,x<1024→w.cell? ⟨wb,1+x,none⟩=some (.int .i64 (num x))
 c2:w.cell? ⟨wb,1025,none⟩=some vst
 fz:∀i,w.frozen? ⟨wb,i,none⟩=false
 rs:w.ownsRow (wb+1) 136 1 vs S.length (intC S)
 rt:w.ownsRow (wb+1) 153 2 vst E.length (enC E)
 ap:∀k,vs.ownBlock=some k→vst.ownBlock=some k→False
 hb:wb<w.heap.size
structure FW (w w':World)(wb:Nat)(vs vst vs' vst':Value):Prop where
 os:w'.os=w.os
 tape:w'.tape=w.tape
 output:w'.output=w.output
 size:w.heap.size≤w'.heap.size
 block:∀k,k<w.heap.size→k≠wb→vs.ownBlock≠some k→vst.ownBlock≠some k→w'.heap[k]? =w.heap[k]?
 s1:∀k,k<w.heap.size→vs'.ownBlock=some k→vs.ownBlock=some k
 s2:∀k,k<w.heap.size→vst'.ownBlock=some k→vst.ownBlock=some k
theorem FW.trans {a b c:World}{wb:Nat}{v1 t1 v2 t2 v3 t3:Value}(h:FW a b wb v1 t1 v2 t2)(k:FW b c wb v2 t2 v3 t3):FW a c wb v1 t1 v3 t3:=
 ⟨k.os.trans h.os,k.tape.trans h.tape,k.output.trans h.output,Nat.le_trans h.size k.size,
  fun i hi h1 h2 h3=>(k.block i (Nat.lt_of_lt_of_le hi h.size) h1 (fun e=>h2 (h.s1 i hi e)) (fun e=>h3 (h.s2 i hi e))).trans (h.block i hi h1 h2 h3),
  fun i hi e=>h.s1 i hi (k.s1 i (Nat.lt_of_lt_of_le hi h.size) e),fun i hi e=>h.s2 i hi (k.s2 i (Nat.lt_of_lt_of_le hi h.size) e)⟩
theorem FW.below {a b:World}{wb:Nat}{v1 t1 v2 t2:Value}{num:Nat→Int}{S:List Int}{E:List (Nat×Value)}(h:FW a b wb v1 t1 v2 t2)(hw:WK a wb num S E v1 t1):Below wb a b:=
 ⟨h.os,h.tape,h.output,h.size,fun k hk=>h.block k (by have:=hw.hb;omega) (by omega) (fun e=>by have:=(hw.rs.lt k e).1;omega) (fun e=>by have:=(hw.rt.lt k e).1;omega)⟩
theorem FW.of_below {a b:World}{wb:Nat}{v t:Value}(h:Below a.heap.size a b):FW a b wb v t v t:=⟨h.os,h.tape,h.output,h.size,fun k hk _ _ _=>h.block k hk,fun _ _ e=>e,fun _ _ e=>e⟩
variable {w w':World} {wb:Nat} {num:Nat→Int} {S:List Int} {E:List (Nat×Value)} {vs vst:Value}
theorem WK.below (h:WK w wb num S E vs vst)(hB:Below w.heap.size w w'):WK w' wb num S E vs vst:=by
 have cl:∀i,w'.cell? ⟨wb,i,none⟩=w.cell? ⟨wb,i,none⟩:=fun i=>hB.cell (p:=⟨wb,i,none⟩) h.hb
 exact⟨(cl 0).trans h.c0,fun x hx=>(cl _).trans (h.nm x hx),(cl _).trans h.c2,fun i=>(hB.frozen (p:=⟨wb,i,none⟩) h.hb).trans (h.fz i),row_stay h.rs hB,row_stay h.rt hB,h.ap,Nat.lt_of_lt_of_le h.hb hB.size⟩
theorem WK.drewN (h:WK w wb num S E vs vst)(q:Nat):WK (w.drewN q) wb num S E vs vst:=⟨h.c0,h.nm,h.c2,h.fz,h.rs,h.rt,h.ap,h.hb⟩
theorem WK.setN (h:WK w wb num S E vs vst)(x:Nat)(hx:x<1024)(y:Int):WK (w.setCell ⟨wb,1+x,none⟩ (.int .i64 y)) wb (fun j=>if j=x then y else num j) S E vs vst:=by
 have o:∀j u,j≠1+x→w.cell? ⟨wb,j,none⟩=some u→(w.setCell ⟨wb,1+x,none⟩ (.int .i64 y)).cell? ⟨wb,j,none⟩=some u:=fun j u hj hu=>by
  rw[World.cell?_setCell_other (h:=by intro e;injection e;omega)];exact hu
 refine⟨o 0 _ (by omega) h.c0,fun j hj=> ?_,o _ _ (by omega) h.c2,fun i=>by rw[World.frozen?_setCell];exact h.fz i,ownsRow_setCell_below h.rs (Nat.lt_succ_self _) _,ownsRow_setCell_below h.rt (Nat.lt_succ_self _) _,h.ap,by have:=h.hb;simp[World.setCell];omega⟩
 by_cases e:j=x
 ·subst e;rw[if_pos rfl];exact World.cell?_setCell_same _ _ _ (h.nm j hj)
 ·rw[if_neg e];exact o _ _ (by omega) (h.nm j hj)
theorem FW.set (w:World)(wb i:Nat)(v:Value)(vs vst:Value):FW w (w.setCell ⟨wb,i,none⟩ v) wb vs vst vs vst:=
 ⟨rfl,rfl,rfl,by simp[World.setCell],fun k _ h1 _ _=>Below.heap_setCell _ _ _ _ h1,fun _ _ e=>e,fun _ _ e=>e⟩
theorem WK.moreS {w4:World}(h:WK w wb num S E vs vst){o:Obj}{x:Int}{g cap:Nat}
  (hown:w4.ownsRow (wb+1) 136 1 (.slice (some ⟨g,0,none⟩) (S.length+1) cap) (S.length+1) (intC S++ [.int .i64 x]))
  (hgrow:(w.alloc o).grownBy w4 vs.ownBlock) (hat:vs.ownBlock=some g∨g=w.heap.size+1):
  WK (w4.setCell ⟨wb,0,none⟩ (.slice (some ⟨g,0,none⟩) (S.length+1) cap)) wb num (S++ [x]) E (.slice (some ⟨g,0,none⟩) (S.length+1) cap) vst∧
  FW w (w4.setCell ⟨wb,0,none⟩ (.slice (some ⟨g,0,none⟩) (S.length+1) cap)) wb vs vst (.slice (some ⟨g,0,none⟩) (S.length+1) cap) vst:=by
 have b0:=h.hb
 have hsz:=hgrow.size
 simp at hsz
 have blk:∀k,k<w.heap.size→vs.ownBlock≠some k→w4.heap[k]? =w.heap[k]? :=fun k hk hv=>(hgrow.block k (by simp;omega) (fun e=>hv e.symm)).trans (Below.heap_alloc w o k hk)
 have nwb:vs.ownBlock≠some wb:=fun e=>by have:=(h.rs.lt wb e).1;omega
 have cc:∀i,w4.cell? ⟨wb,i,none⟩=w.cell? ⟨wb,i,none⟩:=fun i=>World.cell?_of_block (w:=w) (a:=⟨wb,i,none⟩) (blk wb b0 nwb)
 have cf:∀i,w4.frozen? ⟨wb,i,none⟩=w.frozen? ⟨wb,i,none⟩:=fun i=>World.frozen?_of_block (w:=w) (a:=⟨wb,i,none⟩) (blk wb b0 nwb)
 have oc:∀j u,j≠0→w.cell? ⟨wb,j,none⟩=some u→(w4.setCell ⟨wb,0,none⟩ (.slice (some ⟨g,0,none⟩) (S.length+1) cap)).cell? ⟨wb,j,none⟩=some u:=fun j u hj hu=>by
  rw[World.cell?_setCell_other (h:=by intro e;injection e;omega),cc];exact hu
 have own:∀k,(Value.slice (some ⟨g,0,none⟩) (S.length+1) cap).ownBlock=some k→g=k:=fun k hk=>by simpa[Value.ownBlock]using hk
 refine⟨⟨World.cell?_setCell_same (u:=vs) _ _ _ ((cc 0).trans h.c0),fun y hy=>oc _ _ (by omega) (h.nm y hy),oc _ _ (by omega) h.c2,fun i=>by rw[World.frozen?_setCell,cf];exact h.fz i, ?_, ?_,fun k hk1 hk2=> ?_,by simp[World.setCell];omega⟩,
  hgrow.os,hgrow.tape,hgrow.output,by simp[World.setCell];omega,fun k hk h1 h2 _=>(Below.heap_setCell _ _ _ _ h1).trans (blk k hk h2),fun k hk e=> ?_,fun _ _ e=>e⟩
 ·rw[intC_snoc,List.length_append];exact ownsRow_setCell_below hown (Nat.lt_succ_self _) _
 ·exact ownsRow_setCell_below (row_top h.rt (fun k hk=>blk k (h.rt.lt k hk).2 (fun e=>h.ap k e hk))) (Nat.lt_succ_self _) _
 ·have e:=own k hk1
  subst e
  rcases hat with h1 | h1
  ·exact h.ap g h1 hk2
  ·have:=(h.rt.lt g hk2).2;omega
 ·have e':=own k e
  subst e'
  rcases hat with h1 | h1
  ·exact h1
  ·omega
theorem WK.moreE {w4:World}(h:WK w wb num S E vs vst){o:Obj}{x:Nat}{g cap:Nat}
  (hown:w4.ownsRow (wb+1) 153 2 (.slice (some ⟨g,0,none⟩) (E.length+1) cap) (E.length+1) (enC E++ [.int .i64 (x:Int),.slice none 0 0]))
  (hgrow:(w.alloc o).grownBy w4 vst.ownBlock) (hat:vst.ownBlock=some g∨g=w.heap.size+1):
  WK (w4.setCell ⟨wb,1025,none⟩ (.slice (some ⟨g,0,none⟩) (E.length+1) cap)) wb num S (E++ [(x,.slice none 0 0)]) vs (.slice (some ⟨g,0,none⟩) (E.length+1) cap)∧
  FW w (w4.setCell ⟨wb,1025,none⟩ (.slice (some ⟨g,0,none⟩) (E.length+1) cap)) wb vs vst vs (.slice (some ⟨g,0,none⟩) (E.length+1) cap):=by
 have b0:=h.hb
 have hsz:=hgrow.size
 simp at hsz
 have blk:∀k,k<w.heap.size→vst.ownBlock≠some k→w4.heap[k]? =w.heap[k]? :=fun k hk hv=>(hgrow.block k (by simp;omega) (fun e=>hv e.symm)).trans (Below.heap_alloc w o k hk)
 have nwb:vst.ownBlock≠some wb:=fun e=>by have:=(h.rt.lt wb e).1;omega
 have cc:∀i,w4.cell? ⟨wb,i,none⟩=w.cell? ⟨wb,i,none⟩:=fun i=>World.cell?_of_block (w:=w) (a:=⟨wb,i,none⟩) (blk wb b0 nwb)
 have cf:∀i,w4.frozen? ⟨wb,i,none⟩=w.frozen? ⟨wb,i,none⟩:=fun i=>World.frozen?_of_block (w:=w) (a:=⟨wb,i,none⟩) (blk wb b0 nwb)
 have oc:∀j u,j≠1025→w.cell? ⟨wb,j,none⟩=some u→(w4.setCell ⟨wb,1025,none⟩ (.slice (some ⟨g,0,none⟩) (E.length+1) cap)).cell? ⟨wb,j,none⟩=some u:=fun j u hj hu=>by
  rw[World.cell?_setCell_other (h:=by intro e;injection e;omega),cc];exact hu
 have own:∀k,(Value.slice (some ⟨g,0,none⟩) (E.length+1) cap).ownBlock=some k→g=k:=fun k hk=>by simpa[Value.ownBlock]using hk
 refine⟨⟨oc _ _ (by omega) h.c0,fun y hy=>oc _ _ (by omega) (h.nm y hy),World.cell?_setCell_same (u:=vst) _ _ _ ((cc 1025).trans h.c2),fun i=>by rw[World.frozen?_setCell,cf];exact h.fz i, ?_, ?_,fun k hk1 hk2=> ?_,by simp[World.setCell];omega⟩,
  hgrow.os,hgrow.tape,hgrow.output,by simp[World.setCell];omega,fun k hk h1 _ h3=>(Below.heap_setCell _ _ _ _ h1).trans (blk k hk h3),fun _ _ e=>e,fun k hk e=> ?_⟩
 ·exact ownsRow_setCell_below (row_top h.rs (fun k hk=>blk k (h.rs.lt k hk).2 (fun e=>h.ap k hk e))) (Nat.lt_succ_self _) _
 ·rw[enC_snoc,List.length_append];exact ownsRow_setCell_below hown (Nat.lt_succ_self _) _
 ·have e:=own k hk2
  subst e
  rcases hat with h1 | h1
  ·exact h.ap g hk1 h1
  ·have:=(h.rs.lt g hk1).2;omega
 ·have e':=own k e
  subst e'
  rcases hat with h1 | h1
  ·exact h1
  ·omega
end Go.Proofs.Ytgjgjgihceijnaa

namespace Go.Proofs.Ytgjgjgihceijnaa
open Go.RowKit Go.Stn
theorem Try.infoSet:(Try.prog.info? 136).map (fun i=>(i.zero,i.size,i.bytes))=some (some (.int .i64 0),1,8):=by kernel_rfl
def AddOut (w:World)(wb:Nat)(num:Nat→Int)(S:List Int)(E:List (Nat×Value))(vs vst:Value)(w':World):Prop:=∃vs' vst',WK w' wb num S E vs' vst'∧FW w w' wb vs vst vs' vst'
set_option maxRecDepth 100000 in
set_option maxHeartbeats 1000000 in
theorem sadd_any (wb:Nat)(num:Nat→Int)(S:List Int)(E:List (Nat×Value))(vs vst vf vl:Value)(next:Nat→Int)(lasts:List Int)(x:Int)(w:World)(hS:S.length≤2000)(hE:E.length≤2000)(hl:lasts.length≤1000000)
  (h:WK w wb num S E vs vst) (hr:Row1 w vl lasts) (hv:∀k,vl.ownBlock=some k→k<wb):
  Calls Try.prog 92 #[.pointer (some ⟨wb,0,none⟩),.agg (netA vf vl next),.int .i64 x] w fun e w'=>e= .returned (.tuple #[])∧AddOut w wb num (S++ [x]) (E++ [(tokP lasts x,.slice none 0 0)]) vs vst w':=by
 have hB0:Below w.heap.size w (w.alloc (.cells (netA vf vl next) 141)):=(Below.refl _ _).alloc (Nat.le_refl _) _
 have HN0:=hidZ (NetAt.box w vf vl next 141 w.heap.size rfl)
 have HW0:=hidZ (h.below hB0)
 have HF0:Hid (FW w (w.alloc (.cells (netA vf vl next) 141)) wb vs vst vs vst):=FW.of_below hB0
 have HR0:=hidZ (hr.below hB0 (fun k hk=>by have:=hv k hk;have:=h.hb;omega))
 clear h hr hB0
 go_enter Try.func92,Try.ntmps92
 go_wp2_with (first | (refine wpList_boxTo rfl 141 (.tmp 1) rfl _ rfl w.heap.size rfl (netA vf vl next) rfl ?_) | fail)
 generalize w.alloc (.cells (netA vf vl next) 141)=W at*
 refine(ptoken_any lasts vl x w.heap.size vf next W hl HN0.out HR0.out).mono ?_
 rintro e w1 ⟨rfl,rfl⟩
 obtain⟨tk,htk⟩:∃tk,tokP lasts x=tk:=⟨_,rfl⟩
 rw[htk]
 replace htk:=hidZ htk
 obtain⟨va,vcap,hvs⟩:=rowSlice HW0.out.rs
 subst hvs
 obtain⟨ta,tcap,hvt⟩:=rowSlice HW0.out.rt
 subst hvt
 have c0:=HW0.out.c0
 have f0:=HW0.out.fz 0
 have hbw:=HW0.out.hb
 have hne:some wb≠(Value.slice va S.length vcap).ownBlock:=fun e=>by have:=(HW0.out.rs.lt wb e.symm).1;omega
 go_upto_region 3 with(first | (at_builtin;refine wpList_app1 w1 rfl (.tmp 13) (.tmp 15) 87 rfl (wb+1) 136 (.int .i64 0) 1 8 Try.underlying87 Try.infoSet rfl (by decide) (by decide) (.slice va S.length vcap) S.length (intC S) [.int .i64 x] _ rfl HW0.out.rs _ rfl rfl rfl (by simp[Value.oneCell']) (by omega) (by omega) ?_;intro g4 cap4 w4 hown4 hgrow4 hat4 hlt4;have m3:=((grow_cell hgrow4 (k:=wb) hbw hne).1 0).trans c0;have n3:=((grow_cell hgrow4 (k:=wb) hbw hne).2 0).trans f0;have HM:=hidZ (HW0.out.moreS (x:=x) hown4 hgrow4 hat4);clear c0 f0) | fail)
 have HW4:=hidZ HM.out.1
 have HF4:=hidZ (HF0.out.trans HM.out.2)
 generalize w4.setCell ⟨wb,0,none⟩ (.slice (some ⟨g4,0,none⟩) (S.length+1) cap4)=w5 at*
 clear HM hown4 hgrow4 hat4 hlt4 m3 n3 hne HW0 HN0 HR0 HF0 hbw
 have c2:=HW4.out.c2
 have f2:=HW4.out.fz 1025
 have hbw:=HW4.out.hb
 have hne:some wb≠(Value.slice ta E.length tcap).ownBlock:=fun e=>by have:=(HW4.out.rt.lt wb e.symm).1;omega
 go_wp2_with (first | (at_builtin;refine wpList_app1 w5 rfl (.tmp 23) (.tmp 26) 143 rfl (wb+1) 153 (.agg #[.int .i64 0,.slice none 0 0]) 2 32 Try.underlying143 Try.infoState rfl (by decide) (by decide) (.slice ta E.length tcap) E.length (enC E) [.int .i64 (tk:Int),.slice none 0 0] _ rfl HW4.out.rt _ rfl rfl rfl (by simp[Value.oneCell']) (by omega) (by omega) ?_;intro g6 cap6 w6 hown6 hgrow6 hat6 hlt6;have m6:=((grow_cell hgrow6 (k:=wb) hbw hne).1 1025).trans c2;have n6:=((grow_cell hgrow6 (k:=wb) hbw hne).2 1025).trans f2;have HM6:=hidZ (HW4.out.moreE (x:=tk) hown6 hgrow6 hat6);clear c2 f2) | fail)
 go_end0
 refine⟨rfl,_,_, ?_,HF4.out.trans HM6.out.2⟩
 rw[htk.out];exact HM6.out.1
end Go.Proofs.Ytgjgjgihceijnaa

