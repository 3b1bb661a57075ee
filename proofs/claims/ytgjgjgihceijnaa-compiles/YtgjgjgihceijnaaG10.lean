/- Texts put together: StTo, CuTabs, CuCut, StSpr. -/
import Derived.Test.YtgjgjgihceijnaaG09
import Derived.Test.YtgjgjgihceijnaaG03
import Derived.Laws.Tables
import Derived.Great.BuildSlice
import Derived.Great.Ranges
import Derived.Deep.RegionLaw
import Derived.Deep.OwnRows
import Derived.Deep.DrawnRows
namespace Go.Stn
def numOk (num:Nat→Int)(S:List Int):Prop:=∀x:Nat,x<1024→num x=if(x:Int)∈S∧x≠0 then((findP S (x:Int):Nat):Int)else 0
structure setsOk (S:List Int):Prop where
 zero:S[0]? =some 0
 nd:S.Nodup
 rg:∀x∈S,0≤x∧x<1024
def toP (S:List Int)(x:Int):Int×List Int:=
 if x≤0∨1024≤x then(-1,S)else if x∈S then((findP S x:Nat),S)else((S.length:Nat),S++ [x])
theorem findP_lt {S:List Int}{x:Int}(h:x∈S):findP S x<S.length:=by
 induction S with
 | nil=>cases h
 | cons a r ih=>
  rw[findP]
  split
  ·simp
  ·rename_i hne
   rcases List.mem_cons.1 h with e | e
   ·exact absurd e.symm hne
   ·have:=ih e;simp;omega
theorem findP_none {S:List Int}{x:Int}(h:¬x∈S):findP S x=S.length:=by
 induction S with
 | nil=>rfl
 | cons a r ih=>
  rw[findP,if_neg (fun e=>h (by rw[e];exact List.mem_cons_self)),ih (fun e=>h (List.mem_cons_of_mem _ e))];rfl
theorem findP_get {S:List Int}{x:Int}(h:x∈S):S[findP S x]? =some x:=by
 induction S with
 | nil=>cases h
 | cons a r ih=>
  rw[findP]
  split
  ·rename_i e;rw[e];rfl
  ·rename_i hne
   rcases List.mem_cons.1 h with e | e
   ·exact absurd e.symm hne
   ·rw[List.getElem?_cons_succ];exact ih e
theorem findP_app {S T:List Int}{x:Int}(h:x∈S):findP (S++T) x=findP S x:=by
 induction S with
 | nil=>cases h
 | cons a r ih=>
  rw[List.cons_append,findP,findP]
  split
  ·rfl
  ·rename_i hne
   rcases List.mem_cons.1 h with e | e
   ·exact absurd e.symm hne
   ·rw[ih e]
theorem findP_end {S:List Int}{x:Int}(h:¬x∈S):findP (S++ [x]) x=S.length:=by
 induction S with
 | nil=>simp[findP]
 | cons a r ih=>
  rw[List.cons_append,findP,if_neg (fun e=>h (by rw[e];exact List.mem_cons_self)),ih (fun e=>h (List.mem_cons_of_mem _ e))];rfl
theorem find_pos {S:List Int}(hs:setsOk S){x:Int}(h:x∈S)(h0:x≠0):0<findP S x:=by
 refine Nat.pos_of_ne_zero (fun e=> ?_)
 have:=findP_get h
 rw[e,hs.zero]at this
 injection this with this
 exact h0 this.symm
theorem num_zero {num:Nat→Int}{S:List Int}(hs:setsOk S)(hn:numOk num S){x:Nat}(hx:x<1024)(h0:x≠0):num x=0↔¬(x:Int)∈S:=by
 rw[hn x hx]
 by_cases h:(x:Int)∈S
 ·rw[if_pos ⟨h,h0⟩]
  have:=find_pos hs h (by omega)
  constructor
  ·intro e;omega
  ·intro e;exact absurd h e
 ·rw[if_neg (fun q=>h q.1)];simp[h]
theorem numOk_more {num:Nat→Int}{S:List Int}(hn:numOk num S){x:Nat}(hx0:x≠0)(h:¬(x:Int)∈S):numOk (fun j=>if j=x then(S.length:Int)else num j) (S++ [(x:Int)]):=by
 intro y hy
 by_cases e:y=x
 ·subst e
  simp only[if_pos]
  rw[if_pos ⟨by simp,hx0⟩,findP_end h]
 ·simp only[if_neg e]
  rw[hn y hy]
  by_cases hm:(y:Int)∈S
  ·by_cases h0:y=0
   ·rw[if_neg (fun q=>q.2 h0),if_neg (fun q=>q.2 h0)]
   ·rw[if_pos ⟨hm,h0⟩,if_pos ⟨by simp[hm],h0⟩,findP_app hm]
  ·rw[if_neg (fun q=>hm q.1),if_neg (fun q=>by
    rcases List.mem_append.1 q.1 with h1 | h1
    ·exact hm h1
    ·simp at h1;omega)]
theorem setsOk_more {S:List Int}(hs:setsOk S){x:Int}(h:¬x∈S)(h1:0≤x)(h2:x<1024):setsOk (S++ [x]):=by
 refine⟨?_, ?_,fun y hy=> ?_⟩
 ·have:=hs.zero
  have hl:0<S.length:=(List.getElem?_eq_some_iff.1 this).1
  rw[List.getElem?_append_left hl];exact this
 ·rw[List.nodup_append]
  refine⟨hs.nd,by simp,fun a ha b hb e=> ?_⟩
  rw[List.mem_singleton]at hb
  subst hb;subst e;exact h ha
 ·rcases List.mem_append.1 hy with h3 | h3
  ·exact hs.rg y h3
  ·rw[List.mem_singleton]at h3;subst h3;exact⟨h1,h2⟩
theorem sets_len {S:List Int}(hs:setsOk S):S.length≤1024:=by
 refine pigeon 1024 S.length (fun i=>(S.getD i 0).toNat) (fun i hi=> ?_) (fun i j hi hj he=> ?_)
 ·have:=hs.rg (S[i]) (List.getElem_mem hi)
  rw[List.getD_eq_getElem?_getD,List.getElem?_eq_getElem hi]
  simp only[Option.getD_some]
  omega
 ·have h1:=hs.rg (S[i]) (List.getElem_mem hi)
  have h2:=hs.rg (S[j]) (List.getElem_mem hj)
  rw[List.getD_eq_getElem?_getD,List.getD_eq_getElem?_getD,List.getElem?_eq_getElem hi,List.getElem?_eq_getElem hj]at he
  simp only[Option.getD_some]at he
  have hp:=List.pairwise_iff_getElem.1 hs.nd
  rcases Nat.lt_trichotomy i j with hlt | heq | hgt
  ·exact absurd (by omega) (hp i j hi hj hlt)
  ·exact heq
  ·exact absurd (by omega) (hp j i hj hi hgt)
end Go.Stn
namespace Go.Proofs.Ytgjgjgihceijnaa
open Go.RowKit Go.Stn
theorem Try.netSize:(Try.prog.info? 141).map (·.size)=some 12:=by kernel_rfl
theorem fw_drew {a b:World}{wb:Nat}{v1 t1 v2 t2:Value}(h:FW a b wb v1 t1 v2 t2):FW a b.drew wb v1 t1 v2 t2:=⟨h.os,h.tape,h.output,h.size,h.block,h.s1,h.s2⟩
def toE (lasts:List Int)(S:List Int)(E:List (Nat×Value))(x:Int):List (Nat×Value):=if x≤0∨1024≤x then E else if x∈S then E else E++ [(tokP lasts x,.slice none 0 0)]
def ToOut (w:World)(wb:Nat)(lasts:List Int)(S:List Int)(E:List (Nat×Value))(vs vst:Value)(x:Int)(w':World):Prop:=
 ∃num' vs' vst',WK w' wb num' (toP S x).2 (toE lasts S E x) vs' vst'∧numOk num' (toP S x).2∧FW w w' wb vs vst vs' vst'
set_option maxRecDepth 100000 in
set_option maxHeartbeats 1000000 in
theorem sto_any (wb:Nat)(num:Nat→Int)(S:List Int)(E:List (Nat×Value))(vs vst vf vl:Value)(next:Nat→Int)(lasts:List Int)(x:Int)(w:World)(hS:setsOk S)(hN:numOk num S)(hE:E.length≤2000)(hl:lasts.length≤1000000)
  (h:WK w wb num S E vs vst) (hr:Row1 w vl lasts) (hv:∀k,vl.ownBlock=some k→k<wb):
  Calls Try.prog 94 #[.pointer (some ⟨wb,0,none⟩),.agg (netA vf vl next),.int .i64 x] w fun e w'=>e= .returned (.int .i64 (toP S x).1)∧ToOut w wb lasts S E vs vst x w':=by
 have hB0:Below w.heap.size w (w.alloc (.cells (netA vf vl next) 141)):=(Below.refl _ _).alloc (Nat.le_refl _) _
 have HRG:Hid ((w.alloc (.cells (netA vf vl next) 141)).rangeAt w.heap.size 0 (netA vf vl next).toList):=rangeAt_new w _ _
 have HW0:=hidZ (h.below hB0)
 have HF0:Hid (FW w (w.alloc (.cells (netA vf vl next) 141)) wb vs vst vs vst):=FW.of_below hB0
 have HR0:=hidZ (hr.below hB0 (fun k hk=>by have:=hv k hk;have:=h.hb;omega))
 have hSl:=sets_len hS
 have hwz:wb<w.heap.size:=h.hb
 clear h hr hB0
 by_cases hx:x≤0∨1024≤x
 ·have HE:Hid (toP S x=(-1,S)∧toE lasts S E x=E):=⟨by unfold toP;rw[if_pos hx],by unfold toE;rw[if_pos hx]⟩
  rcases(show x≤0∨(0<x∧1024≤x) by omega)with h1 | ⟨h0,h1⟩
  ·have hd1:decide (x≤0)=true:=by simp;omega
   go_enter Try.func94,Try.ntmps94
   go_wp2_with (first | (refine wpList_boxTo rfl 141 (.tmp 1) rfl _ rfl w.heap.size rfl (netA vf vl next) rfl ?_) | fail)
   go_ret
   rw[HE.out.1]
   exact⟨rfl,num,vs,vst,by rw[HE.out.1,HE.out.2];exact HW0.out,by rw[HE.out.1];exact hN,HF0.out⟩
  ·have hd1:decide (x≤0)=false:=by simp;omega
   have hd2:decide ((1024:Int)≤x)=true:=by simp;omega
   go_enter Try.func94,Try.ntmps94
   go_wp2_with (first | (refine wpList_boxTo rfl 141 (.tmp 1) rfl _ rfl w.heap.size rfl (netA vf vl next) rfl ?_) | fail)
   go_ret
   rw[HE.out.1]
   exact⟨rfl,num,vs,vst,by rw[HE.out.1,HE.out.2];exact HW0.out,by rw[HE.out.1];exact hN,HF0.out⟩
 ·obtain⟨k,rfl⟩:∃k:Nat,x=(k:Int):=⟨x.toNat,by omega⟩
  have hk1:k<1024:=by omega
  have hk0:k≠0:=by omega
  have hd1:decide ((k:Int)≤0)=false:=by simp;omega
  have hd2:decide ((1024:Int)≤(k:Int))=false:=by simp;omega
  have hkI:(0:Int)≤(k:Int)∧(k:Int)<1024:=by omega
  have nk:=HW0.out.nm k hk1
  by_cases hm:(k:Int)∈S
  ·have HE:Hid (toP S (k:Int)=(((findP S (k:Int):Nat):Int),S)∧toE lasts S E (k:Int)=E):=⟨by unfold toP;rw[if_neg hx,if_pos hm],by unfold toE;rw[if_neg hx,if_pos hm]⟩
   have hnk:num k=((findP S (k:Int):Nat):Int):=by rw[hN k hk1,if_pos ⟨hm,hk0⟩]
   have hne:((num k:Int)==0)=false:=by rw[beq_eq_false_iff_ne];exact fun e=>(num_zero hS hN hk1 hk0).1 e hm
   rw[←hnk]at HE
   have HN:=hidZ hN
   generalize num k=nv at*
   clear hx hm hnk hS hN
   go_enter Try.func94,Try.ntmps94
   go_wp2_with (first | (refine wpList_boxTo rfl 141 (.tmp 1) rfl _ rfl w.heap.size rfl (netA vf vl next) rfl ?_) | fail)
   go_ret
   rw[HE.out.1]
   exact⟨rfl,num,vs,vst,by rw[HE.out.1,HE.out.2];exact HW0.out,by rw[HE.out.1];exact HN.out,HF0.out⟩
  ·have HE:Hid (toP S (k:Int)=(((S.length:Nat):Int),S++ [(k:Int)])∧toE lasts S E (k:Int)=E++ [(tokP lasts (k:Int),.slice none 0 0)]):=⟨by unfold toP;rw[if_neg hx,if_neg hm],by unfold toE;rw[if_neg hx,if_neg hm]⟩
   have hnk:num k=0:=(num_zero hS hN hk1 hk0).2 hm
   have HNM:=hidZ (numOk_more hN hk0 hm)
   rw[hnk]at nk
   have c0:=HW0.out.c0
   obtain⟨va,vcap,hvs⟩:=rowSlice HW0.out.rs
   subst hvs
   have fk:=HW0.out.fz (1+k)
   clear hx hm hnk hS hN
   go_enter Try.func94,Try.ntmps94
   go_wp2_with (first | (refine wpList_boxTo rfl 141 (.tmp 1) rfl _ rfl w.heap.size rfl (netA vf vl next) rfl ?_) | fail)
   generalize w.alloc (.cells (netA vf vl next) 141)=W at*
   go_region
   all_goals
    have HW1:=hidZ ((HW0.out.setN k hk1 (S.length:Int)).drewN 1)
    have HF1:Hid (FW w (W.setCell ⟨wb,1+k,none⟩ (.int .i64 (S.length:Int))).drew wb (.slice va S.length vcap) vst (.slice va S.length vcap) vst):=HF0.out.trans (fw_drew (FW.set W wb (1+k) _ _ _))
    have hb1:Below wb W (W.setCell ⟨wb,1+k,none⟩ (.int .i64 (S.length:Int))).drew:=⟨rfl,rfl,rfl,by simp[World.setCell],fun j hj=>Below.heap_setCell _ _ _ _ (by simp only;omega)⟩
    have HR1:=hidZ (HR0.out.below hb1 hv)
    have HG1:Hid ((W.setCell ⟨wb,1+k,none⟩ (.int .i64 (S.length:Int))).drew.rangeAt w.heap.size 0 (netA vf vl next).toList):=rangeAt_block HRG.out (Below.heap_setCell _ _ _ _ (by simp only;omega))
    clear HW0 HF0 HR0 HRG nk fk c0 hb1
    have HWT:Hid (WK (W.setCell ⟨wb,1+k,none⟩ (.int .i64 (S.length:Int))).drew wb (fun j=>if j=k then(S.length:Int)else num j) S E (.slice va S.length vcap) vst):=HW1
    clear HW1
    generalize (W.setCell ⟨wb,1+k,none⟩ (.int .i64 (S.length:Int))).drew=W1 at*
    go_wp2_with (first | (refine wpList_load_mid rfl 141 (.tmp 4) rfl w.heap.size 0 rfl (netA vf vl next).toList _ HG1.out Try.underlying141 rfl Try.netSize ?_) | fail)
    refine(sadd_any wb _ S E _ vst vf vl next lasts (k:Int) W1 (by omega) hE hl HWT.out HR1.out hv).mono ?_
    rintro e w2 ⟨rfl,vs2,vst2,hw2,hf2⟩
    have HW2:=hidZ hw2
    have HF2:=hidZ (HF1.out.trans hf2)
    have nk2:=hw2.nm k hk1
    rw[if_pos rfl]at nk2
    clear hw2 hf2
    go_wp2
    go_ret
    rw[HE.out.1]
    exact⟨rfl,_,vs2,vst2,by rw[HE.out.1,HE.out.2];exact HW2.out,by rw[HE.out.1];exact HNM.out,HF2.out⟩
end Go.Proofs.Ytgjgjgihceijnaa

namespace Go.Proofs.Ytgjgjgihceijnaa
open Go.RowKit Go.Stn
variable {w w':World} {cb:Nat} {s inp:ByteArray} {bb vg vcap:Nat} {yb:Nat→Nat} {zb:Nat→Nat→Nat} {vh:Value} {hbk:Nat→Nat} {c0 m:Nat}
theorem made_get (n k:Nat)(h:k<n):(madeCells #[Value.bool false] n)[k]? =some (.bool false):=by
 unfold madeCells
 rw[Array.getElem?_map,Array.getElem?_range,if_pos h]
 simp[Nat.mod_one]
end Go.Proofs.Ytgjgjgihceijnaa

namespace Go.Stn
open Go.RowKit
end Go.Stn
namespace Go.Proofs.Ytgjgjgihceijnaa
open Go.RowKit Go.Stn
theorem Try.infoBool:(Try.prog.info? 4).map (fun i=>(i.zero,i.size,i.bytes))=some (some (.bool false),1,1):=by kernel_rfl
def lenV:Value→Nat
 | .int _ z=>z.toNat
 | _=>0
def okLen (v:Value):Prop:=∃z:Nat,v= .int .i64 (z:Int)∧z≤30000
theorem Try.wpMakeBools {d:Option Tmp}{x:Operand}{ty:TypeId}{p:String}{af:Array Edge}{gd:Option (Nat×Bool)}{a:Act}{X:World}{K:Act→World→Prop}{Q:Exit→Act→World→Prop}
  (h:okLen (a.eval x)):
  Oper.wp Try.prog {dst:=d,op:= .makeSlice 94 x x,type:=ty,pos:=p,after:=af,guard:=gd} a X K Q=K (a.put d (.slice (some ⟨X.heap.size,0,none⟩) (lenV (a.eval x)) (lenV (a.eval x)))) (X.alloc (.cells (madeCells #[.bool false] (lenV (a.eval x))) 4)):=by
 obtain⟨z,hz,hl⟩:=h
 have hr:=run_make_row' (P:=Try.prog) 94 4 (.bool false) 1 Try.underlying94 Try.infoBool rfl .i64 .i64 z (by omega) (by omega) X
 unfold Oper.wp execOp
 simp only[hz,Sem.run_bind,hr,Result.andThen_ok,lenV,Int.toNat_natCast]
 rfl
theorem frozen_setCells:∀(vs:List Value) (o:Nat) (w:World) (b:Nat) (a:Addr),(w.setCells b o vs).frozen? a=w.frozen? a:=by
 intro vs
 induction vs with
 | nil=>intro o w b a;rfl
 | cons v r ih=>intro o w b a;exact(ih (o+1) _ b a).trans (World.frozen?_setCell _ _ _ _)
attribute [local go_sem ↓] Go.wp_at_zero Go.wp_at_succ Try.wpMakeBools
end Go.Proofs.Ytgjgjgihceijnaa

namespace Go.Stn
open Go.RowKit
def rowP (ahead:Int):List Int→List Int→List Int→List Int×List Int
 | [],acc,S=>(acc,S)
 | a::r,acc,S=>rowP ahead r (acc++ [(toP S (andI ahead a)).1]) (toP S (andI ahead a)).2
def aheadP (next:Nat→Int)(begin:Int)(S:List Int)(s:Nat):Int:=if s=0 then begin else behP next (S.getD s 0)
def spreadL (next:Nat→Int)(begin:Int)(G:List Int):Nat→Nat→List Int→List (List Int)→List Int×List (List Int)
 | 0,_,S,R=>(S,R)
 | f+1,s,S,R=>if s<S.length then spreadL next begin G f (s+1) (rowP (aheadP next begin S s) G [] S).2 (R++ [(rowP (aheadP next begin S s) G [] S).1])else(S,R)
def spreadP (next:Nat→Int)(begin:Int)(G:List Int):List Int×List (List Int):=spreadL next begin G 1025 0 [0] []
theorem toP_ok {S:List Int}(h:setsOk S)(x:Int):setsOk (toP S x).2∧S.length≤(toP S x).2.length∧(∀i,i<S.length→(toP S x).2.getD i 0=S.getD i 0)∧((toP S x).1= -1∨(0≤(toP S x).1∧(toP S x).1<(toP S x).2.length)):=by
 unfold toP
 split
 ·exact⟨h,Nat.le_refl _,fun _ _=>rfl,.inl rfl⟩
 ·rename_i hx
  split
  ·rename_i hm
   have:=findP_lt hm
   exact⟨h,Nat.le_refl _,fun _ _=>rfl,.inr ⟨by simp only;omega,by simp only;omega⟩⟩
  ·rename_i hm
   refine⟨setsOk_more h hm (by omega) (by omega),by simp,fun i hi=> ?_,.inr ⟨by simp only;omega,by simp;omega⟩⟩
   simp only
   rw[List.getD_eq_getElem?_getD,List.getD_eq_getElem?_getD,List.getElem?_append_left hi]
theorem rowP_ok {ahead:Int}:∀(G acc S:List Int),setsOk S→(∀y∈acc,y= -1∨(0≤y∧y<S.length))→
  setsOk (rowP ahead G acc S).2∧S.length≤(rowP ahead G acc S).2.length∧(∀i,i<S.length→(rowP ahead G acc S).2.getD i 0=S.getD i 0)∧(rowP ahead G acc S).1.length=acc.length+G.length∧
   ∀y∈(rowP ahead G acc S).1,y= -1∨(0≤y∧y<(rowP ahead G acc S).2.length):=by
 intro G
 induction G with
 | nil=>intro acc S h ha;exact⟨h,Nat.le_refl _,fun _ _=>rfl,rfl,ha⟩
 | cons a r ih=>
  intro acc S h ha
  obtain⟨h1,h2,h3,h4⟩:=toP_ok h (andI ahead a)
  rw[rowP]
  obtain⟨k1,k2,k3,k4,k5⟩:=ih (acc++ [(toP S (andI ahead a)).1]) (toP S (andI ahead a)).2 h1 (fun y hy=>by
   rcases List.mem_append.1 hy with q | q
   ·rcases ha y q with q1 | q1
    ·exact .inl q1
    ·exact .inr ⟨q1.1,by omega⟩
   ·rw[List.mem_singleton]at q;rw[q];exact h4)
  exact⟨k1,Nat.le_trans h2 k2,fun i hi=>(k3 i (by omega)).trans (h3 i hi),by rw[k4];simp;omega,k5⟩
theorem rowP_drop {ahead:Int}{G acc S:List Int}{j:Nat}{a:Int}(h:G[j]? =some a):rowP ahead (G.drop j) acc S=rowP ahead (G.drop (j+1)) (acc++ [(toP S (andI ahead a)).1]) (toP S (andI ahead a)).2:=by
 have e:G.drop j=a::G.drop (j+1):=by
  obtain⟨hk,he⟩:=List.getElem?_eq_some_iff.1 h
  rw[List.drop_eq_getElem_cons hk,he]
 rw[e,rowP]
def enE (lasts:List Int)(S:List Int)(s:Nat)(zb:Nat→Nat)(K:Nat):List (Nat×Value):=
 (List.range S.length).map fun i=>(tokP lasts (S.getD i 0),if i<s then Value.slice (some ⟨zb i,0,none⟩) K K else Value.slice none 0 0)
theorem enE_len (lasts S:List Int)(s:Nat)(zb:Nat→Nat)(K:Nat):(enE lasts S s zb K).length=S.length:=by simp[enE]
theorem enE_set {lasts S:List Int}{s K C:Nat}{zb:Nat→Nat}(hs:s<S.length):enE lasts S (s+1) (fun i=>if i=s then C else zb i) K=(enE lasts S s zb K).set s (tokP lasts (S.getD s 0),.slice (some ⟨C,0,none⟩) K K):=by
 refine List.ext_getElem? (fun i=> ?_)
 by_cases e:i=s
 ·subst e
  rw[List.getElem?_set_self (by rw[enE_len];exact hs)]
  unfold enE
  rw[List.getElem?_map,List.getElem?_range hs]
  simp
 ·rw[List.getElem?_set_ne (fun h=>e h.symm)]
  unfold enE
  rw[List.getElem?_map,List.getElem?_map]
  cases hr:(List.range S.length)[i]? with
  | none=>rfl
  | some j=>
   have hj:j=i:=by
    obtain⟨h1,h2⟩:=List.getElem?_eq_some_iff.1 hr
    simp at h2;exact h2.symm
   subst hj
   simp only[Option.map_some]
   by_cases h3:j<s
   ·rw[if_pos h3,if_pos (by omega),if_neg e]
   ·rw[if_neg h3,if_neg (by omega)]
theorem enC_set:∀(E:List (Nat×Value)) (s:Nat) (t:Nat) (u v:Value),E[s]? =some (t,u)→(enC E).set (s*2+1) v=enC (E.set s (t,v)):=by
 intro E
 induction E with
 | nil=>intro s t u v h;simp at h
 | cons e r ih=>
  intro s t u v h
  have hc:enC (e::r)=Value.int .i64 (e.1:Int)::e.2::enC r:=by simp[enC]
  cases s with
  | zero=>
   have he:e=(t,u):=by simpa using h
   subst he
   rw[hc];simp[enC]
  | succ j=>
   rw[hc,show(j+1)*2+1=(j*2+1)+1+1 by omega,List.set_cons_succ,List.set_cons_succ,ih j t u v (by simpa using h)]
   simp[enC]
theorem enC_get:∀(E:List (Nat×Value)) (s:Nat) (t:Nat) (u:Value),E[s]? =some (t,u)→(enC E)[s*2+1]? =some u∧(enC E)[s*2]? =some (.int .i64 (t:Int)):=by
 intro E
 induction E with
 | nil=>intro s t u h;simp at h
 | cons e r ih=>
  intro s t u h
  have hc:enC (e::r)=Value.int .i64 (e.1:Int)::e.2::enC r:=by simp[enC]
  cases s with
  | zero=>
   have he:e=(t,u):=by simpa using h
   subst he
   rw[hc];simp
  | succ j=>
   rw[hc,show(j+1)*2+1=(j*2+1)+1+1 by omega,show(j+1)*2=j*2+1+1 by omega]
   simpa using ih j t u (by simpa using h)
theorem row_setOwn {w:World}{base e size g n cap:Nat}{xs:List Value}(h:w.ownsRow base e size (.slice (some ⟨g,0,none⟩) n cap) n xs)(i:Nat)(u:Value):(w.setCell ⟨g,i,none⟩ u).ownsRow base e size (.slice (some ⟨g,0,none⟩) n cap) n (xs.set i u):=by
 refine⟨by rw[List.length_set];exact h.1, ?_⟩
 rcases h.2 with⟨hn,_⟩ | ⟨g',cap',cur,he,hbg,hg,hnc,hcm,hcs,htk⟩
 ·cases hn
 ·cases he
  refine .inr ⟨g,cap,cur.setIfInBounds i u,rfl,hbg, ?_,hnc,hcm,by rw[Array.size_setIfInBounds];exact hcs, ?_⟩
  ·unfold World.setCell
   simp only[Array.getElem?_modify,hg]
   simp
  ·rw[Array.toList_setIfInBounds,List.take_set,htk]
end Go.Stn
namespace Go.Proofs.Ytgjgjgihceijnaa
open Go.RowKit Go.Stn
theorem toE_enE {lasts S:List Int}{s K:Nat}{zb:Nat→Nat}(hs:s≤S.length)(x:Int):toE lasts S (enE lasts S s zb K) x=enE lasts (toP S x).2 s zb K:=by
 unfold toE toP
 split
 ·rfl
 ·split
  ·rfl
  ·unfold enE
   simp only[List.length_append,List.length_singleton]
   rw[List.range_succ,List.map_append,List.map_singleton]
   congr 1
   ·refine List.map_congr_left (fun i hi=> ?_)
    have:=List.mem_range.1 hi
    rw[List.getD_eq_getElem?_getD,List.getD_eq_getElem?_getD,List.getElem?_append_left this]
   ·rw[if_neg (by omega),List.getD_eq_getElem?_getD,List.getElem?_append_right (Nat.le_refl _)];simp
variable {w w':World} {wb:Nat} {num:Nat→Int} {S:List Int} {E:List (Nat×Value)} {vs:Value}
theorem WK.setNext {tg cap:Nat}(h:WK w wb num S E vs (.slice (some ⟨tg,0,none⟩) E.length cap)){s t:Nat}{u:Value}(hs:E[s]? =some (t,u))(v:Value):
  WK (w.setCell ⟨tg,s*2+1,none⟩ v) wb num S (E.set s (t,v)) vs (.slice (some ⟨tg,0,none⟩) E.length cap):=by
 have hlt:=(h.rt.lt tg rfl).1
 have o:∀j a,w.cell? ⟨wb,j,none⟩=some a→(w.setCell ⟨tg,s*2+1,none⟩ v).cell? ⟨wb,j,none⟩=some a:=fun j a ha=>by
  rw[World.cell?_setCell_other (h:=by intro e;injection e;omega)];exact ha
 refine⟨o _ _ h.c0,fun x hx=>o _ _ (h.nm x hx),o _ _ h.c2,fun i=>by rw[World.frozen?_setCell];exact h.fz i, ?_, ?_,h.ap,by have:=h.hb;simp[World.setCell];omega⟩
 ·refine row_top h.rs (fun k hk=>Below.heap_setCell _ _ _ _ (fun e=>h.ap k hk ?_))
  simp only at e;rw[e];rfl
 ·rw[List.length_set,←enC_set E s t u v hs];exact row_setOwn h.rt _ _
theorem Try.walkZeroA:Try.zeroCells198=(Value.slice none 0 0::(List.replicate 1024 (Value.int .i64 0)++ [Value.slice none 0 0])).toArray:=by kernel_rfl
theorem Try.walkSize:(Try.prog.info? 198).map (·.size)=some 1026:=by kernel_rfl
theorem Try.walkZeroSize:Try.zeroCells198.size=1026:=by rw[Try.walkZeroA,List.size_toArray,List.length_cons,List.length_append,List.length_replicate];rfl
theorem Try.walkZeroOne:Try.zeroCells198.all (·.oneCell')=true:=by
 rw[Try.walkZeroA]
 refine all_oneCell_toArray (fun v hv=> ?_)
 rcases List.mem_cons.1 hv with rfl | h1
 ·rfl
 ·rcases List.mem_append.1 h1 with h2 | h2
  ·rw[(List.mem_replicate.1 h2).2];rfl
  ·rw[List.mem_singleton]at h2;rw[h2];rfl
theorem WK.start (w:World)(wb:Nat)(hB:wb=w.heap.size):WK ((w.alloc (.cells Try.zeroCells198 198)).setCells wb 0 Try.zeroCells198.toList) wb (fun _=>0) [] [] (.slice none 0 0) (.slice none 0 0):=by
 subst hB
 have ht:=there_newA w Try.zeroCells198 198 w.heap.size 1026 Try.walkZeroSize rfl
 have hr:=World.rangeAt_setCells_same (w.alloc (.cells Try.zeroCells198 198)) w.heap.size 0 Try.zeroCells198.toList (by rw[Array.length_toList,Try.walkZeroSize];exact ht)
 have hz:=(below_setCells Try.zeroCells198.toList 0 (w.alloc (.cells Try.zeroCells198 198)) w.heap.size (Below.refl 0 _) (Nat.zero_le _)).size
 simp at hz
 have hl:Try.zeroCells198.toList=Value.slice none 0 0::(List.replicate 1024 (Value.int .i64 0)++ [Value.slice none 0 0]):=by rw[Try.walkZeroA]
 rw[hl]at hr ⊢
 have hc:∀k v,(Value.slice none 0 0::(List.replicate 1024 (Value.int .i64 0)++ [Value.slice none 0 0]))[k]? =some v→((w.alloc (.cells Try.zeroCells198 198)).setCells w.heap.size 0 (Value.slice none 0 0::(List.replicate 1024 (Value.int .i64 0)++ [Value.slice none 0 0]))).cell? ⟨w.heap.size,k,none⟩=some v:=fun k v hk=>by
  have:=hr k v hk;rw[Nat.zero_add]at this;exact this
 refine⟨hc 0 _ rfl,fun x hx=>hc _ _ ?_,hc 1025 _ ?_,fun i=> ?_,World.ownsRow_nil _ _ _ _,World.ownsRow_nil _ _ _ _,(fun k hk _=>by cases hk), ?_⟩
 ·rw[Nat.add_comm,List.getElem?_cons_succ,List.getElem?_append_left (by rw[List.length_replicate];exact hx),List.getElem?_replicate,if_pos hx]
 ·rw[List.getElem?_cons_succ,List.getElem?_append_right (by rw[List.length_replicate];omega),List.length_replicate];rfl
 ·rw[frozen_setCells,World.frozen?_alloc_new]
 ·rw[hl]at hz;omega
end Go.Proofs.Ytgjgjgihceijnaa

