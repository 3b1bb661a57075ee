import Derived.Test.YtgjgjgihceijnaaGreatG13
import Derived.Test.YtgjgjgihceijnaaGreatG08
import Derived.Test.YtgjgjgihceijnaaGreatG07
import Derived.Deep.RegionLaw
open Go.World renaming cell?_setCell_other->aL,frozen?_setCell->aR,cell?_of_block->aT,setCell->bK,cell?_setCell_same->bM,frozen?_of_block->bO
open Nat renaming lt_succ_self->aO,le_refl->bC,lt_of_lt_of_le->cF
open List renaming getElem?_eq_getElem->bD,getD_eq_getElem?_getD->bS,getElem?_eq_some_iff->bT,getElem_mem->cO,mem_cons_of_mem->cT,mem_cons->eL,length_append->eM,mem_cons_self->eO,mem_singleton->eR,cons_append->eS,mem_append->eX
open Go.RowKit.Below renaming heap_setCell->bN,heap_alloc->cN,refl->eN
open Go.Value renaming slice->cL,ownBlock->cP,oneCell'->cR,int->gL
open Option renaming getD_some->eT
set_option maxRecDepth 100000
set_option maxHeartbeats 8000000
namespace Go.Stn
def wF:List Int->Int->Nat->Nat
 | [],_,_=>0
 | a::r,pl,k=>if gZ pl a=0 then wF r pl (k+1)else k+1
def rR (l:List Int)(pl:Int):Nat:=wF l pl 0
theorem Lp {l:List Int}{a:Int}{k:Nat}(h:l[k]? =some a)(pl:Int)(m:Nat):wF (l.drop k) pl m=if gZ pl a=0 then wF (l.drop (k+1)) pl (m+1)else m+1:=by
 have e:l.drop k=a::l.drop (k+1):=by
  obtain⟨hk,he⟩:=bT.1 h;rw[List.drop_eq_getElem_cons hk,he]
 rw[e,wF]
end Go.Stn
namespace Go.Proofs.YtgjgjgihceijnaaGreat
open Go.RowKit Go.Stn
theorem Hn (l:List Int)(v:Value)(pl:Int)(nb:Nat)(vf:Value)(next:Nat->Int)(w:World)(hl:l.length<=1000000)(h:dH w nb vf v next)(hr:F7 w v l):
  Calls Tryz.prog 100 #[.pointer (some ⟨nb,0,none⟩),.int .i64 pl] w fun e w'=>w'=w/\e= .returned (.int .i64 (rR l pl:Int)):=by
 have c1:=h.c1;clear h;rcases hr.sh with⟨rfl,rfl⟩ | ⟨g,cap,rfl,h1,h2,hcells⟩
 ·go_enter Tryz.func100,Tryz.ntmps100;go_wp2_with fail
  go_loop [12] (fun i=>i= .int .i64 0) (fun _=>0)
  case atStart=>rfl
  case round=>
   subst hrel;go_wp2;go_ret;exact⟨rfl,rfl⟩
 ·have HC:=aE hcells;clear hcells hr;go_enter Tryz.func100,Tryz.ntmps100;go_wp2_with fail
  go_loop [12] (fun i=>∃k:Nat,k<=l.length/\i= .int .i64 (k:Int)/\wF (l.drop k) pl k=rR l pl) (fun i=>l.length - (intOf i).toNat)
  case atStart=>exact⟨0,Nat.zero_le _,rfl,by simp[rR]⟩
  case round=>
   obtain⟨k,hk,rfl,hall⟩:=hrel;have HA:=aE hall;clear hall;by_cases hlt:k<l.length
   ·obtain⟨a,hu⟩:∃u,l[k]? =some u:=⟨_,bD hlt⟩
    have k0:=HC.out k _ hu;have HS:=aE (Lp hu pl k);by_cases he:gZ pl a=0
    ·have HN:Hid (wF (l.drop (k+1)) pl (k+1)=rR l pl):=by unfold Hid;rw[←HA.out,HS.out,if_pos he]
     have hb:(bits .and .i64 pl a !=0)=false:=by rw[show bits .and .i64 pl a=0 from he];rfl
     clear hu he;go_wp2;go_round
     case rel=>exact⟨k+1,by omega,by simp,HN.out⟩
     case measure=>simp[intOf];omega
    ·have HE:Hid (rR l pl=k+1):=by unfold Hid;rw[←HA.out,HS.out,if_neg he]
     have hb:(bits .and .i64 pl a !=0)=true:=bne_iff_ne.2 he;clear hu he;go_wp2;go_ret;exact⟨rfl,by rw[HE.out];rfl⟩
   ·have e:k=l.length:=by omega
    have HE:Hid (rR l pl=0):=by unfold Hid;rw[←HA.out,e,List.drop_length];rfl
    clear HA;subst e;go_wp2;go_ret;exact⟨rfl,by rw[HE.out];rfl⟩
end Go.Proofs.YtgjgjgihceijnaaGreat
namespace Go.Stn
open Go.RowKit
def enC (E:List (Nat×Value)):List Value:=E.flatMap fun e=>[gL .i64 (e.1:Int),e.2]
theorem Ot (E:List (Nat×Value))(e:Nat×Value):enC (E++ [e])=enC E++ [gL .i64 (e.1:Int),e.2]:=by simp[enC]
def fY (vf vl:Value)(next:Nat->Int):Array Value:= #[vf,vl,.int .i64 (next 0),.int .i64 (next 1),.int .i64 (next 2),.int .i64 (next 3),.int .i64 (next 4),.int .i64 (next 5),.int .i64 (next 6),.int .i64 (next 7),.int .i64 (next 8),.int .i64 (next 9)]
theorem F7.below {w w':World}{v:Value}{l:List Int}{B:Nat}(h:F7 w v l)(hB:Below B w w')(hb:∀k,v.ownBlock=some k->k<B):F7 w' v l:=by
 refine⟨?_⟩;rcases h.sh with h1 | ⟨g,cap,rfl,h2,h3,h4⟩
 ·exact .inl h1
 ·exact .inr ⟨g,cap,rfl,h2,h3,fun k x hk=>(hB.cell (p:=⟨g,k,none⟩) (hb g rfl)).trans (h4 k x hk)⟩
end Go.Stn
namespace Go.Proofs.YtgjgjgihceijnaaGreat
open Go.RowKit Go.Stn
theorem dH.box (w:World)(vf vl:Value)(next:Nat->Int)(ty:TypeId)(B:Nat)(hB:B=w.heap.size):dH (w.alloc (.cells (fY vf vl next) ty)) B vf vl next:=by
 have hc:∀i v,(fY vf vl next)[i]? =some v->(w.alloc (.cells (fY vf vl next) ty)).cell? ⟨B,i,none⟩=some v:=fun i v h=>(World.cell?_alloc_at _ _ B i hB).trans h
 refine⟨hc 0 _ rfl,hc 1 _ rfl,fun k hk=> ?_,fun i=>World.frozen?_alloc_at _ _ B i hB⟩;have:k=0\/k=1\/k=2\/k=3\/k=4\/k=5\/k=6\/k=7\/k=8\/k=9:=by omega
 rcases this with rfl | rfl | rfl | rfl | rfl | rfl | rfl | rfl | rfl | rfl<;> exact hc _ _ rfl
structure WK (w:World)(wb:Nat)(num:Nat->Int)(S:List Int)(E:List (Nat×Value))(vs vst:Value):Prop where
 c0:w.cell? ⟨wb,0,none⟩=some vs
 nm:∀x,x<1024->w.cell? ⟨wb,1+x,none⟩=some (.int .i64 (num x))
 c2:w.cell? ⟨wb,1025,none⟩=some vst
 fz:∀i,w.frozen? ⟨wb,i,none⟩=false
 rs:w.ownsRow (wb+1) 103 1 vs S.length (jP S)
 rt:w.ownsRow (wb+1) 121 2 vst E.length (enC E)
 ap:∀k,vs.ownBlock=some k->vst.ownBlock=some k->False
 hb:wb<w.heap.size
structure FW (w w':World)(wb:Nat)(vs vst vs' vst':Value):Prop where
 os:w'.os=w.os
 tape:w'.tape=w.tape
 output:w'.output=w.output
 size:w.heap.size<=w'.heap.size
 block:∀k,k<w.heap.size->k≠wb->vs.ownBlock≠some k->vst.ownBlock≠some k->w'.heap[k]? =w.heap[k]?
 s1:∀k,k<w.heap.size->vs'.ownBlock=some k->vs.ownBlock=some k
 s2:∀k,k<w.heap.size->vst'.ownBlock=some k->vst.ownBlock=some k
theorem FW.trans {a b c:World}{wb:Nat}{v1 t1 v2 t2 v3 t3:Value}(h:FW a b wb v1 t1 v2 t2)(k:FW b c wb v2 t2 v3 t3):FW a c wb v1 t1 v3 t3:=
 ⟨k.os.trans h.os,k.tape.trans h.tape,k.output.trans h.output,Nat.le_trans h.size k.size,
  fun i hi h1 h2 h3=>(k.block i (cF hi h.size) h1 (fun e=>h2 (h.s1 i hi e)) (fun e=>h3 (h.s2 i hi e))).trans (h.block i hi h1 h2 h3),
  fun i hi e=>h.s1 i hi (k.s1 i (cF hi h.size) e),fun i hi e=>h.s2 i hi (k.s2 i (cF hi h.size) e)⟩
theorem FW.below {a b:World}{wb:Nat}{v1 t1 v2 t2:Value}{num:Nat->Int}{S:List Int}{E:List (Nat×Value)}(h:FW a b wb v1 t1 v2 t2)(hw:WK a wb num S E v1 t1):Below wb a b:=
 ⟨h.os,h.tape,h.output,h.size,fun k hk=>h.block k (by have:=hw.hb;omega) (by omega) (fun e=>by have:=(hw.rs.lt k e).1;omega) (fun e=>by have:=(hw.rt.lt k e).1;omega)⟩
theorem FW.of_below {a b:World}{wb:Nat}{v t:Value}(h:Below a.heap.size a b):FW a b wb v t v t:=⟨h.os,h.tape,h.output,h.size,fun k hk _ _ _=>h.block k hk,fun _ _ e=>e,fun _ _ e=>e⟩
variable {w w':World} {wb:Nat} {num:Nat->Int} {S:List Int} {E:List (Nat×Value)} {vs vst:Value}
theorem WK.below (h:WK w wb num S E vs vst)(hB:Below w.heap.size w w'):WK w' wb num S E vs vst:=by
 have cl:∀i,w'.cell? ⟨wb,i,none⟩=w.cell? ⟨wb,i,none⟩:=fun i=>hB.cell (p:=⟨wb,i,none⟩) h.hb
 exact⟨(cl 0).trans h.c0,fun x hx=>(cl _).trans (h.nm x hx),(cl _).trans h.c2,fun i=>(hB.frozen (p:=⟨wb,i,none⟩) h.hb).trans (h.fz i),pI h.rs hB,pI h.rt hB,h.ap,cF h.hb hB.size⟩
theorem WK.drewN (h:WK w wb num S E vs vst)(q:Nat):WK (w.drewN q) wb num S E vs vst:=⟨h.c0,h.nm,h.c2,h.fz,h.rs,h.rt,h.ap,h.hb⟩
theorem WK.setN (h:WK w wb num S E vs vst)(x:Nat)(hx:x<1024)(y:Int):WK (w.setCell ⟨wb,1+x,none⟩ (.int .i64 y)) wb (fun j=>if j=x then y else num j) S E vs vst:=by
 have o:∀j u,j≠1+x->w.cell? ⟨wb,j,none⟩=some u->(w.setCell ⟨wb,1+x,none⟩ (.int .i64 y)).cell? ⟨wb,j,none⟩=some u:=fun j u hj hu=>by
  rw[aL (h:=by intro e;injection e;omega)];exact hu
 refine⟨o 0 _ (by omega) h.c0,fun j hj=> ?_,o _ _ (by omega) h.c2,fun i=>by rw[aR];exact h.fz i,ownsRow_setCell_below h.rs (aO _) _,ownsRow_setCell_below h.rt (aO _) _,h.ap,by have:=h.hb;simp[bK];omega⟩;by_cases e:j=x
 ·subst e;rw[if_pos rfl];exact bM _ _ _ (h.nm j hj)
 ·rw[if_neg e];exact o _ _ (by omega) (h.nm j hj)
theorem FW.set (w:World)(wb i:Nat)(v:Value)(vs vst:Value):FW w (w.setCell ⟨wb,i,none⟩ v) wb vs vst vs vst:=
 ⟨rfl,rfl,rfl,by simp[bK],fun k _ h1 _ _=>bN _ _ _ _ h1,fun _ _ e=>e,fun _ _ e=>e⟩
theorem WK.moreS {w4:World}(h:WK w wb num S E vs vst){o:Obj}{x:Int}{g cap:Nat}
  (hown:w4.ownsRow (wb+1) 103 1 (.slice (some ⟨g,0,none⟩) (S.length+1) cap) (S.length+1) (jP S++ [.int .i64 x]))
  (hgrow:(w.alloc o).grownBy w4 vs.ownBlock) (hat:vs.ownBlock=some g\/g=w.heap.size+1):
  WK (w4.setCell ⟨wb,0,none⟩ (.slice (some ⟨g,0,none⟩) (S.length+1) cap)) wb num (S++ [x]) E (.slice (some ⟨g,0,none⟩) (S.length+1) cap) vst/\
  FW w (w4.setCell ⟨wb,0,none⟩ (.slice (some ⟨g,0,none⟩) (S.length+1) cap)) wb vs vst (.slice (some ⟨g,0,none⟩) (S.length+1) cap) vst:=by
 have b0:=h.hb;have hsz:=hgrow.size;simp at hsz;have blk:∀k,k<w.heap.size->vs.ownBlock≠some k->w4.heap[k]? =w.heap[k]? :=fun k hk hv=>(hgrow.block k (by simp;omega) (fun e=>hv e.symm)).trans (cN w o k hk)
 have nwb:vs.ownBlock≠some wb:=fun e=>by have:=(h.rs.lt wb e).1;omega
 have cc:∀i,w4.cell? ⟨wb,i,none⟩=w.cell? ⟨wb,i,none⟩:=fun i=>aT (w:=w) (a:=⟨wb,i,none⟩) (blk wb b0 nwb)
 have cf:∀i,w4.frozen? ⟨wb,i,none⟩=w.frozen? ⟨wb,i,none⟩:=fun i=>bO (w:=w) (a:=⟨wb,i,none⟩) (blk wb b0 nwb)
 have oc:∀j u,j≠0->w.cell? ⟨wb,j,none⟩=some u->(w4.setCell ⟨wb,0,none⟩ (.slice (some ⟨g,0,none⟩) (S.length+1) cap)).cell? ⟨wb,j,none⟩=some u:=fun j u hj hu=>by
  rw[aL (h:=by intro e;injection e;omega),cc];exact hu
 have own:∀k,(cL (some ⟨g,0,none⟩) (S.length+1) cap).ownBlock=some k->g=k:=fun k hk=>by simpa[cP]using hk
 refine⟨⟨bM (u:=vs) _ _ _ ((cc 0).trans h.c0),fun y hy=>oc _ _ (by omega) (h.nm y hy),oc _ _ (by omega) h.c2,fun i=>by rw[aR,cf];exact h.fz i, ?_, ?_,fun k hk1 hk2=> ?_,by simp[bK];omega⟩,
  hgrow.os,hgrow.tape,hgrow.output,by simp[bK];omega,fun k hk h1 h2 _=>(bN _ _ _ _ h1).trans (blk k hk h2),fun k hk e=> ?_,fun _ _ e=>e⟩
 ·rw[nB,eM];exact ownsRow_setCell_below hown (aO _) _
 ·exact ownsRow_setCell_below (cV h.rt (fun k hk=>blk k (h.rt.lt k hk).2 (fun e=>h.ap k e hk))) (aO _) _
 ·have e:=own k hk1;subst e;rcases hat with h1 | h1
  ·exact h.ap g h1 hk2
  ·have:=(h.rt.lt g hk2).2;omega
 ·have e':=own k e;subst e';rcases hat with h1 | h1
  ·exact h1
  ·omega
theorem WK.moreE {w4:World}(h:WK w wb num S E vs vst){o:Obj}{x:Nat}{g cap:Nat}
  (hown:w4.ownsRow (wb+1) 121 2 (.slice (some ⟨g,0,none⟩) (E.length+1) cap) (E.length+1) (enC E++ [.int .i64 (x:Int),.slice none 0 0]))
  (hgrow:(w.alloc o).grownBy w4 vst.ownBlock) (hat:vst.ownBlock=some g\/g=w.heap.size+1):
  WK (w4.setCell ⟨wb,1025,none⟩ (.slice (some ⟨g,0,none⟩) (E.length+1) cap)) wb num S (E++ [(x,.slice none 0 0)]) vs (.slice (some ⟨g,0,none⟩) (E.length+1) cap)/\
  FW w (w4.setCell ⟨wb,1025,none⟩ (.slice (some ⟨g,0,none⟩) (E.length+1) cap)) wb vs vst vs (.slice (some ⟨g,0,none⟩) (E.length+1) cap):=by
 have b0:=h.hb;have hsz:=hgrow.size;simp at hsz;have blk:∀k,k<w.heap.size->vst.ownBlock≠some k->w4.heap[k]? =w.heap[k]? :=fun k hk hv=>(hgrow.block k (by simp;omega) (fun e=>hv e.symm)).trans (cN w o k hk)
 have nwb:vst.ownBlock≠some wb:=fun e=>by have:=(h.rt.lt wb e).1;omega
 have cc:∀i,w4.cell? ⟨wb,i,none⟩=w.cell? ⟨wb,i,none⟩:=fun i=>aT (w:=w) (a:=⟨wb,i,none⟩) (blk wb b0 nwb)
 have cf:∀i,w4.frozen? ⟨wb,i,none⟩=w.frozen? ⟨wb,i,none⟩:=fun i=>bO (w:=w) (a:=⟨wb,i,none⟩) (blk wb b0 nwb)
 have oc:∀j u,j≠1025->w.cell? ⟨wb,j,none⟩=some u->(w4.setCell ⟨wb,1025,none⟩ (.slice (some ⟨g,0,none⟩) (E.length+1) cap)).cell? ⟨wb,j,none⟩=some u:=fun j u hj hu=>by
  rw[aL (h:=by intro e;injection e;omega),cc];exact hu
 have own:∀k,(cL (some ⟨g,0,none⟩) (E.length+1) cap).ownBlock=some k->g=k:=fun k hk=>by simpa[cP]using hk
 refine⟨⟨oc _ _ (by omega) h.c0,fun y hy=>oc _ _ (by omega) (h.nm y hy),bM (u:=vst) _ _ _ ((cc 1025).trans h.c2),fun i=>by rw[aR,cf];exact h.fz i, ?_, ?_,fun k hk1 hk2=> ?_,by simp[bK];omega⟩,
  hgrow.os,hgrow.tape,hgrow.output,by simp[bK];omega,fun k hk h1 _ h3=>(bN _ _ _ _ h1).trans (blk k hk h3),fun _ _ e=>e,fun k hk e=> ?_⟩
 ·exact ownsRow_setCell_below (cV h.rs (fun k hk=>blk k (h.rs.lt k hk).2 (fun e=>h.ap k hk e))) (aO _) _
 ·rw[Ot,eM];exact ownsRow_setCell_below hown (aO _) _
 ·have e:=own k hk2;subst e;rcases hat with h1 | h1
  ·exact h.ap g hk1 h1
  ·have:=(h.rs.lt g hk1).2;omega
 ·have e':=own k e;subst e';rcases hat with h1 | h1
  ·exact h1
  ·omega
end Go.Proofs.YtgjgjgihceijnaaGreat
namespace Go.Proofs.YtgjgjgihceijnaaGreat
open Go.RowKit Go.Stn
theorem Tryz.infoSet:(Tryz.prog.info? 103).map (fun i=>(i.zero,i.size,i.bytes))=some (some (.int .i64 0),1,8):=by kernel_rfl
def Wj (w:World)(wb:Nat)(num:Nat->Int)(S:List Int)(E:List (Nat×Value))(vs vst:Value)(w':World):Prop:=∃vs' vst',WK w' wb num S E vs' vst'/\FW w w' wb vs vst vs' vst'
theorem Dx (wb:Nat)(num:Nat->Int)(S:List Int)(E:List (Nat×Value))(vs vst vf vl:Value)(next:Nat->Int)(lasts:List Int)(x:Int)(w:World)(hS:S.length<=2000)(hE:E.length<=2000)(hl:lasts.length<=1000000)
  (h:WK w wb num S E vs vst) (hr:F7 w vl lasts) (hv:∀k,vl.ownBlock=some k->k<wb):
  Calls Tryz.prog 69 #[.pointer (some ⟨wb,0,none⟩),.agg (fY vf vl next),.int .i64 x] w fun e w'=>e= .returned (.tuple #[])/\Wj w wb num (S++ [x]) (E++ [(rR lasts x,.slice none 0 0)]) vs vst w':=by
 have hB0:Below w.heap.size w (w.alloc (.cells (fY vf vl next) 108)):=(eN _ _).alloc (bC _) _;have HN0:=aA (dH.box w vf vl next 108 w.heap.size rfl);have HW0:=aA (h.below hB0);have HF0:Hid (FW w (w.alloc (.cells (fY vf vl next) 108)) wb vs vst vs vst):=FW.of_below hB0;have HR0:=aA (hr.below hB0 (fun k hk=>by have:=hv k hk;have:=h.hb;omega));clear h hr hB0;go_enter Tryz.func69,Tryz.ntmps69;go_wp2_with (first | (refine wpList_boxTo rfl 108 (.tmp 1) rfl _ rfl w.heap.size rfl (fY vf vl next) rfl ?_) | fail);generalize w.alloc (.cells (fY vf vl next) 108)=W at*;refine(Hn lasts vl x w.heap.size vf next W hl HN0.out HR0.out).mono ?_;rintro e w1 ⟨rfl,rfl⟩;obtain⟨tk,htk⟩:∃tk,rR lasts x=tk:=⟨_,rfl⟩
 rw[htk];replace htk:=aA htk;obtain⟨va,vcap,hvs⟩:=aK HW0.out.rs;subst hvs;obtain⟨ta,tcap,hvt⟩:=aK HW0.out.rt;subst hvt;have c0:=HW0.out.c0;have f0:=HW0.out.fz 0;have hbw:=HW0.out.hb;have hne:some wb≠(cL va S.length vcap).ownBlock:=fun e=>by have:=(HW0.out.rs.lt wb e.symm).1;omega
 go_upto_region 3 with(first | (at_builtin;refine aF w1 rfl (.tmp 13) (.tmp 15) 48 rfl (wb+1) 103 (.int .i64 0) 1 8 Tryz.underlying48 Tryz.infoSet rfl (by decide) (by decide) (.slice va S.length vcap) S.length (jP S) [.int .i64 x] _ rfl HW0.out.rs _ rfl rfl rfl (by simp[cR]) (by omega) (by omega) ?_;intro g4 cap4 w4 hown4 hgrow4 hat4 hlt4;have m3:=((bG hgrow4 (k:=wb) hbw hne).1 0).trans c0;have n3:=((bG hgrow4 (k:=wb) hbw hne).2 0).trans f0;have HM:=aA (HW0.out.moreS (x:=x) hown4 hgrow4 hat4);clear c0 f0) | fail)
 have HW4:=aA HM.out.1;have HF4:=aA (HF0.out.trans HM.out.2);generalize w4.setCell ⟨wb,0,none⟩ (.slice (some ⟨g4,0,none⟩) (S.length+1) cap4)=w5 at*;clear HM hown4 hgrow4 hat4 hlt4 m3 n3 hne HW0 HN0 HR0 HF0 hbw;have c2:=HW4.out.c2;have f2:=HW4.out.fz 1025;have hbw:=HW4.out.hb;have hne:some wb≠(cL ta E.length tcap).ownBlock:=fun e=>by have:=(HW4.out.rt.lt wb e.symm).1;omega
 go_wp2_with (first | (at_builtin;refine aF w5 rfl (.tmp 23) (.tmp 26) 110 rfl (wb+1) 121 (.agg #[.int .i64 0,.slice none 0 0]) 2 32 Tryz.underlying110 Tryz.infoState rfl (by decide) (by decide) (.slice ta E.length tcap) E.length (enC E) [.int .i64 (tk:Int),.slice none 0 0] _ rfl HW4.out.rt _ rfl rfl rfl (by simp[cR]) (by omega) (by omega) ?_;intro g6 cap6 w6 hown6 hgrow6 hat6 hlt6;have m6:=((bG hgrow6 (k:=wb) hbw hne).1 1025).trans c2;have n6:=((bG hgrow6 (k:=wb) hbw hne).2 1025).trans f2;have HM6:=aA (HW4.out.moreE (x:=tk) hown6 hgrow6 hat6);clear c2 f2) | fail)
 go_end0
 refine⟨rfl,_,_, ?_,HF4.out.trans HM6.out.2⟩;rw[htk.out];exact HM6.out.1
end Go.Proofs.YtgjgjgihceijnaaGreat
namespace Go.Stn
def C1 (num:Nat->Int)(S:List Int):Prop:=∀x:Nat,x<1024->num x=if(x:Int)∈S/\x≠0 then((cY S (x:Int):Nat):Int)else 0
structure kA (S:List Int):Prop where
 zero:S[0]? =some 0
 nd:S.Nodup
 rg:∀x∈S,0<=x/\x<1024
def toP (S:List Int)(x:Int):Int×List Int:=
 if x<=0\/1024<=x then(-1,S)else if x∈S then((cY S x:Nat),S)else((S.length:Nat),S++ [x])
theorem J0 {S:List Int}{x:Int}(h:x∈S):cY S x<S.length:=by
 induction S with
 | nil=>cases h
 | cons a r ih=>
  rw[cY];split
  ·simp
  ·rename_i hne;rcases eL.1 h with e | e
   ·exact absurd e.symm hne
   ·have:=ih e;simp;omega
theorem L9 {S:List Int}{x:Int}(h:¬x∈S):cY S x=S.length:=by
 induction S with
 | nil=>rfl
 | cons a r ih=>
  rw[cY,if_neg (fun e=>h (by rw[e];exact eO)),ih (fun e=>h (cT _ e))];rfl
theorem zF {S:List Int}{x:Int}(h:x∈S):S[cY S x]? =some x:=by
 induction S with
 | nil=>cases h
 | cons a r ih=>
  rw[cY];split
  ·rename_i e;rw[e];rfl
  ·rename_i hne;rcases eL.1 h with e | e
   ·exact absurd e.symm hne
   ·rw[List.getElem?_cons_succ];exact ih e
theorem Mj {S T:List Int}{x:Int}(h:x∈S):cY (S++T) x=cY S x:=by
 induction S with
 | nil=>cases h
 | cons a r ih=>
  rw[eS,cY,cY];split
  ·rfl
  ·rename_i hne;rcases eL.1 h with e | e
   ·exact absurd e.symm hne
   ·rw[ih e]
theorem Kn {S:List Int}{x:Int}(h:¬x∈S):cY (S++ [x]) x=S.length:=by
 induction S with
 | nil=>simp[cY]
 | cons a r ih=>
  rw[eS,cY,if_neg (fun e=>h (by rw[e];exact eO)),ih (fun e=>h (cT _ e))];rfl
theorem Oc {S:List Int}(hs:kA S){x:Int}(h:x∈S)(h0:x≠0):0<cY S x:=by
 refine Nat.pos_of_ne_zero (fun e=> ?_);have:=zF h;rw[e,hs.zero]at this;injection this with this;exact h0 this.symm
theorem Cz {num:Nat->Int}{S:List Int}(hs:kA S)(hn:C1 num S){x:Nat}(hx:x<1024)(h0:x≠0):num x=0↔¬(x:Int)∈S:=by
 rw[hn x hx];by_cases h:(x:Int)∈S
 ·rw[if_pos ⟨h,h0⟩];have:=Oc hs h (by omega);constructor
  ·intro e;omega
  ·intro e;exact absurd h e
 ·rw[if_neg (fun q=>h q.1)];simp[h]
theorem Fa {num:Nat->Int}{S:List Int}(hn:C1 num S){x:Nat}(hx0:x≠0)(h:¬(x:Int)∈S):C1 (fun j=>if j=x then(S.length:Int)else num j) (S++ [(x:Int)]):=by
 intro y hy;by_cases e:y=x
 ·subst e;simp only[if_pos];rw[if_pos ⟨by simp,hx0⟩,Kn h]
 ·simp only[if_neg e];rw[hn y hy];by_cases hm:(y:Int)∈S
  ·by_cases h0:y=0
   ·rw[if_neg (fun q=>q.2 h0),if_neg (fun q=>q.2 h0)]
   ·rw[if_pos ⟨hm,h0⟩,if_pos ⟨by simp[hm],h0⟩,Mj hm]
  ·rw[if_neg (fun q=>hm q.1),if_neg (fun q=>by
    rcases eX.1 q.1 with h1 | h1
    ·exact hm h1
    ·simp at h1;omega)]
theorem Ef {S:List Int}(hs:kA S){x:Int}(h:¬x∈S)(h1:0<=x)(h2:x<1024):kA (S++ [x]):=by
 refine⟨?_, ?_,fun y hy=> ?_⟩
 ·have:=hs.zero;have hl:0<S.length:=(bT.1 this).1;rw[List.getElem?_append_left hl];exact this
 ·rw[List.nodup_append];refine⟨hs.nd,by simp,fun a ha b hb e=> ?_⟩;rw[eR]at hb;subst hb;subst e;exact h ha
 ·rcases eX.1 hy with h3 | h3
  ·exact hs.rg y h3
  ·rw[eR]at h3;subst h3;exact⟨h1,h2⟩
theorem rJ {S:List Int}(hs:kA S):S.length<=1024:=by
 refine Ib 1024 S.length (fun i=>(S.getD i 0).toNat) (fun i hi=> ?_) (fun i j hi hj he=> ?_)
 ·have:=hs.rg (S[i]) (cO hi);rw[bS,bD hi];simp only[eT];omega
 ·have h1:=hs.rg (S[i]) (cO hi);have h2:=hs.rg (S[j]) (cO hj);rw[bS,bS,bD hi,bD hj]at he;simp only[eT]at he;have hp:=List.pairwise_iff_getElem.1 hs.nd;rcases Nat.lt_trichotomy i j with hlt | heq | hgt
  ·exact absurd (by omega) (hp i j hi hj hlt)
  ·exact heq
  ·exact absurd (by omega) (hp j i hj hi hgt)
end Go.Stn
namespace Go.Proofs.YtgjgjgihceijnaaGreat
open Go.RowKit Go.Stn
theorem Tryz.netSize:(Tryz.prog.info? 108).map (·.size)=some 12:=by kernel_rfl
theorem Ta {a b:World}{wb:Nat}{v1 t1 v2 t2:Value}(h:FW a b wb v1 t1 v2 t2):FW a b.drew wb v1 t1 v2 t2:=⟨h.os,h.tape,h.output,h.size,h.block,h.s1,h.s2⟩
def toE (lasts:List Int)(S:List Int)(E:List (Nat×Value))(x:Int):List (Nat×Value):=if x<=0\/1024<=x then E else if x∈S then E else E++ [(rR lasts x,.slice none 0 0)]
def Vn (w:World)(wb:Nat)(lasts:List Int)(S:List Int)(E:List (Nat×Value))(vs vst:Value)(x:Int)(w':World):Prop:=
 ∃num' vs' vst',WK w' wb num' (toP S x).2 (toE lasts S E x) vs' vst'/\C1 num' (toP S x).2/\FW w w' wb vs vst vs' vst'
theorem Sz (wb:Nat)(num:Nat->Int)(S:List Int)(E:List (Nat×Value))(vs vst vf vl:Value)(next:Nat->Int)(lasts:List Int)(x:Int)(w:World)(hS:kA S)(hN:C1 num S)(hE:E.length<=2000)(hl:lasts.length<=1000000)
  (h:WK w wb num S E vs vst) (hr:F7 w vl lasts) (hv:∀k,vl.ownBlock=some k->k<wb):
  Calls Tryz.prog 71 #[.pointer (some ⟨wb,0,none⟩),.agg (fY vf vl next),.int .i64 x] w fun e w'=>e= .returned (.int .i64 (toP S x).1)/\Vn w wb lasts S E vs vst x w':=by
 have hB0:Below w.heap.size w (w.alloc (.cells (fY vf vl next) 108)):=(eN _ _).alloc (bC _) _;have HRG:Hid ((w.alloc (.cells (fY vf vl next) 108)).rangeAt w.heap.size 0 (fY vf vl next).toList):=gI w _ _;have HW0:=aA (h.below hB0);have HF0:Hid (FW w (w.alloc (.cells (fY vf vl next) 108)) wb vs vst vs vst):=FW.of_below hB0;have HR0:=aA (hr.below hB0 (fun k hk=>by have:=hv k hk;have:=h.hb;omega));have hSl:=rJ hS;have hwz:wb<w.heap.size:=h.hb;clear h hr hB0;by_cases hx:x<=0\/1024<=x
 ·have HE:Hid (toP S x=(-1,S)/\toE lasts S E x=E):=⟨by unfold toP;rw[if_pos hx],by unfold toE;rw[if_pos hx]⟩
  rcases(show x<=0\/(0<x/\1024<=x) by omega)with h1 | ⟨h0,h1⟩
  ·have hd1:decide (x<=0)=true:=by simp;omega
   go_enter Tryz.func71,Tryz.ntmps71;go_wp2_with (first | (refine wpList_boxTo rfl 108 (.tmp 1) rfl _ rfl w.heap.size rfl (fY vf vl next) rfl ?_) | fail);go_ret;rw[HE.out.1];exact⟨rfl,num,vs,vst,by rw[HE.out.1,HE.out.2];exact HW0.out,by rw[HE.out.1];exact hN,HF0.out⟩
  ·have hd1:decide (x<=0)=false:=by simp;omega
   have hd2:decide ((1024:Int)<=x)=true:=by simp;omega
   go_enter Tryz.func71,Tryz.ntmps71;go_wp2_with (first | (refine wpList_boxTo rfl 108 (.tmp 1) rfl _ rfl w.heap.size rfl (fY vf vl next) rfl ?_) | fail);go_ret;rw[HE.out.1];exact⟨rfl,num,vs,vst,by rw[HE.out.1,HE.out.2];exact HW0.out,by rw[HE.out.1];exact hN,HF0.out⟩
 ·obtain⟨k,rfl⟩:∃k:Nat,x=(k:Int):=⟨x.toNat,by omega⟩
  have hk1:k<1024:=by omega
  have hk0:k≠0:=by omega
  have hd1:decide ((k:Int)<=0)=false:=by simp;omega
  have hd2:decide ((1024:Int)<=(k:Int))=false:=by simp;omega
  have hkI:(0:Int)<=(k:Int)/\(k:Int)<1024:=by omega
  have nk:=HW0.out.nm k hk1;by_cases hm:(k:Int)∈S
  ·have HE:Hid (toP S (k:Int)=(((cY S (k:Int):Nat):Int),S)/\toE lasts S E (k:Int)=E):=⟨by unfold toP;rw[if_neg hx,if_pos hm],by unfold toE;rw[if_neg hx,if_pos hm]⟩
   have hnk:num k=((cY S (k:Int):Nat):Int):=by rw[hN k hk1,if_pos ⟨hm,hk0⟩]
   have hne:((num k:Int)==0)=false:=by rw[beq_eq_false_iff_ne];exact fun e=>(Cz hS hN hk1 hk0).1 e hm
   rw[←hnk]at HE;have HN:=aA hN;generalize num k=nv at*;clear hx hm hnk hS hN;go_enter Tryz.func71,Tryz.ntmps71;go_wp2_with (first | (refine wpList_boxTo rfl 108 (.tmp 1) rfl _ rfl w.heap.size rfl (fY vf vl next) rfl ?_) | fail);go_ret;rw[HE.out.1];exact⟨rfl,num,vs,vst,by rw[HE.out.1,HE.out.2];exact HW0.out,by rw[HE.out.1];exact HN.out,HF0.out⟩
  ·have HE:Hid (toP S (k:Int)=(((S.length:Nat):Int),S++ [(k:Int)])/\toE lasts S E (k:Int)=E++ [(rR lasts (k:Int),.slice none 0 0)]):=⟨by unfold toP;rw[if_neg hx,if_neg hm],by unfold toE;rw[if_neg hx,if_neg hm]⟩
   have hnk:num k=0:=(Cz hS hN hk1 hk0).2 hm;have HNM:=aA (Fa hN hk0 hm);rw[hnk]at nk;have c0:=HW0.out.c0;obtain⟨va,vcap,hvs⟩:=aK HW0.out.rs;subst hvs;have fk:=HW0.out.fz (1+k);clear hx hm hnk hS hN;go_enter Tryz.func71,Tryz.ntmps71;go_wp2_with (first | (refine wpList_boxTo rfl 108 (.tmp 1) rfl _ rfl w.heap.size rfl (fY vf vl next) rfl ?_) | fail);generalize w.alloc (.cells (fY vf vl next) 108)=W at*
   go_region
   all_goals
    have HW1:=aA ((HW0.out.setN k hk1 (S.length:Int)).drewN 1);have HF1:Hid (FW w (W.setCell ⟨wb,1+k,none⟩ (.int .i64 (S.length:Int))).drew wb (.slice va S.length vcap) vst (.slice va S.length vcap) vst):=HF0.out.trans (Ta (FW.set W wb (1+k) _ _ _));have hb1:Below wb W (W.setCell ⟨wb,1+k,none⟩ (.int .i64 (S.length:Int))).drew:=⟨rfl,rfl,rfl,by simp[bK],fun j hj=>bN _ _ _ _ (by simp only;omega)⟩
    have HR1:=aA (HR0.out.below hb1 hv);have HG1:Hid ((W.setCell ⟨wb,1+k,none⟩ (.int .i64 (S.length:Int))).drew.rangeAt w.heap.size 0 (fY vf vl next).toList):=aC HRG.out (bN _ _ _ _ (by simp only;omega));clear HW0 HF0 HR0 HRG nk fk c0 hb1;have HWT:Hid (WK (W.setCell ⟨wb,1+k,none⟩ (.int .i64 (S.length:Int))).drew wb (fun j=>if j=k then(S.length:Int)else num j) S E (.slice va S.length vcap) vst):=HW1;clear HW1;generalize (W.setCell ⟨wb,1+k,none⟩ (.int .i64 (S.length:Int))).drew=W1 at*;go_wp2_with (first | (refine wpList_load_mid rfl 108 (.tmp 4) rfl w.heap.size 0 rfl (fY vf vl next).toList _ HG1.out Tryz.underlying108 rfl Tryz.netSize ?_) | fail);refine(Dx wb _ S E _ vst vf vl next lasts (k:Int) W1 (by omega) hE hl HWT.out HR1.out hv).mono ?_;rintro e w2 ⟨rfl,vs2,vst2,hw2,hf2⟩;have HW2:=aA hw2;have HF2:=aA (HF1.out.trans hf2);have nk2:=hw2.nm k hk1;rw[if_pos rfl]at nk2;clear hw2 hf2;go_wp2;go_ret;rw[HE.out.1];exact⟨rfl,_,vs2,vst2,by rw[HE.out.1,HE.out.2];exact HW2.out,by rw[HE.out.1];exact HNM.out,HF2.out⟩
end Go.Proofs.YtgjgjgihceijnaaGreat
namespace Go.Proofs.YtgjgjgihceijnaaGreat
open Go.RowKit Go.Stn
theorem Tryz.infoToken:(Tryz.prog.info? 79).map (fun i=>(i.zero,i.size,i.bytes))=some (some (.agg #[.int .i64 0,.int .i64 0,.int .i64 0]),3,24):=by kernel_rfl
variable {w w':World} {cb top:Nat} {s inp:ByteArray} {bb vg vcap:Nat} {yb:Nat->Nat} {zb:Nat->Nat->Nat} {vt:Value} {hg hcap:Nat} {hbk:Nat->Nat} {HT:Nat->Nat->Bool} {c p n:Nat} {T:List (Int×Int×Int)}
theorem CW.told {W w4:World}(h:CW W cb W.heap.size s inp bb vg vcap yb zb vt hg hcap hbk HT c p n T){o:Obj}{x:Int×Int×Int}{g cap:Nat}
  (hown:w4.ownsRow (cb+1) 79 3 (.slice (some ⟨g,0,none⟩) (T.length+1) cap) (T.length+1) (dZ T++ [.int .i64 x.1,.int .i64 x.2.1,.int .i64 x.2.2]))
  (hgrow:(W.alloc o).grownBy w4 vt.ownBlock) (hat:vt.ownBlock=some g\/g=W.heap.size+1) (hgl:g<w4.heap.size):
  CW (w4.setCell ⟨cb,262,none⟩ (.slice (some ⟨g,0,none⟩) (T.length+1) cap)) cb w4.heap.size s inp bb vg vcap yb zb (.slice (some ⟨g,0,none⟩) (T.length+1) cap) hg hcap hbk HT c p n (T++ [x]):=by
 have b0:=h.b0;have b1:=h.b1;have hsz:=hgrow.size;simp at hsz;have blk:∀k,k<W.heap.size->vt.ownBlock≠some k->w4.heap[k]? =W.heap[k]? :=fun k hk hv=>(hgrow.block k (by simp;omega) (fun e=>hv e.symm)).trans (cN W o k hk)
 have ncb:vt.ownBlock≠some cb:=fun e=>by have:=(h.rt.lt cb e).1;omega
 have nlo:∀k,k<cb->vt.ownBlock≠some k:=fun k hk e=>by have:=(h.rt.lt k e).1;omega
 have nhg:vt.ownBlock≠some hg:=fun e=>(h.bv hg e).2.1 rfl
 have nhb:∀j,j<iM s->vt.ownBlock≠some (hbk j):=fun j hj e=>(h.bv _ e).2.2 j hj rfl
 have bel:Below cb W w4:=⟨hgrow.os,hgrow.tape,hgrow.output,by omega,fun k hk=>blk k (by omega) (nlo k hk)⟩
 have cc:∀i,w4.cell? ⟨cb,i,none⟩=W.cell? ⟨cb,i,none⟩:=fun i=>aT (w:=W) (a:=⟨cb,i,none⟩) (blk cb b0 ncb)
 have cf:∀i,w4.frozen? ⟨cb,i,none⟩=W.frozen? ⟨cb,i,none⟩:=fun i=>bO (w:=W) (a:=⟨cb,i,none⟩) (blk cb b0 ncb)
 have ch:∀i,w4.cell? ⟨hg,i,none⟩=W.cell? ⟨hg,i,none⟩:=fun i=>aT (w:=W) (a:=⟨hg,i,none⟩) (blk hg b1.2 nhg)
 have ct:∀j i,j<iM s->w4.cell? ⟨hbk j,i,none⟩=W.cell? ⟨hbk j,i,none⟩:=fun j i hj=>aT (w:=W) (a:=⟨hbk j,i,none⟩) (blk _ (h.b2 j hj).2.1 (nhb j hj))
 have ctf:∀j i,j<iM s->w4.frozen? ⟨hbk j,i,none⟩=W.frozen? ⟨hbk j,i,none⟩:=fun j i hj=>bO (w:=W) (a:=⟨hbk j,i,none⟩) (blk _ (h.b2 j hj).2.1 (nhb j hj))
 have hlen:∀j u,(jU (.slice (some ⟨bb,0,none⟩) (iR s) (iR s)) (bL s) (.slice (some ⟨vg,0,none⟩) (iM s) vcap))[j]? =some u->j<258:=fun j u hu=>by
  have:=(bT.1 hu).1;rw[lX _ _ _ (by unfold bL;rw[jJ];rfl)]at this;exact this
 have oc:∀j u,j≠262->W.cell? ⟨cb,j,none⟩=some u->(w4.setCell ⟨cb,262,none⟩ (.slice (some ⟨g,0,none⟩) (T.length+1) cap)).cell? ⟨cb,j,none⟩=some u:=fun j u hj hu=>by
  rw[aL (h:=by intro e;injection e;omega),cc];exact hu
 refine⟨(h.mem.below bel (bC _)).below (mL (bC _)) (bC _),fun j u hu=>oc _ _ (by have:=hlen j u hu;omega) (h.im j u hu),oc _ _ (by omega) h.k1,oc _ _ (by omega) h.k2,oc _ _ (by omega) h.k3,oc _ _ (by omega) h.k4,
  bM (u:=vt) _ _ _ ((cc 262).trans h.k5),oc _ _ (by omega) h.k6,fun i=>by rw[aR,cf];exact h.fz i, ?_,fun j hj=> ?_,fun j k hj hk=>⟨?_, ?_⟩,by omega,⟨b1.1,by omega⟩,fun j hj=> ?_,h.bi,fun k hk=> ?_,by simp[bK]⟩
 ·rw[show(T++ [x]).length=T.length+1 by simp,show dZ (T++ [x])=dZ T++ [.int .i64 x.1,.int .i64 x.2.1,.int .i64 x.2.2] by simp[dZ]];exact ownsRow_setCell_below hown (aO _) _
 ·rw[aL (h:=by intro e;injection e;omega),ch];exact h.hl j hj
 ·rw[aL (h:=by intro e;injection e;have:=h.b2 j hj;omega),ct j k hj];exact(h.tb j k hj hk).1
 ·rw[aR,ctf j k hj];exact(h.tb j k hj hk).2
 ·have:=h.b2 j hj;exact⟨this.1,by omega,this.2.2⟩
 ·have e:g=k:=by simpa[cP]using hk
  subst e;rcases hat with h1 | h1
  ·have:=h.bv g h1;exact⟨by omega,this.2⟩
  ·exact⟨by omega,by omega,fun j hj=>by have:=h.b2 j hj;omega⟩
theorem CW.drew (h:CW w cb top s inp bb vg vcap yb zb vt hg hcap hbk HT c p n T):CW w.drew cb top s inp bb vg vcap yb zb vt hg hcap hbk HT c p n T:=h.drewN 1
theorem yZ (s inp:ByteArray)(cb bb vg vcap:Nat)(yb:Nat->Nat)(zb:Nat->Nat->Nat)(vt:Value)(hg hcap:Nat)(hbk:Nat->Nat)(HT:Nat->Nat->Bool)(c p n:Nat)(T:List (Int×Int×Int))(r q:Int)(w:World)
  (hT:T.length<=100000) (h:CW w cb w.heap.size s inp bb vg vcap yb zb vt hg hcap hbk HT c p n T):
  Calls Tryz.prog 53 #[.pointer (some ⟨cb,0,none⟩),.int .i64 r,.int .i64 q] w fun e w'=>e= .returned (.tuple #[])/\Below cb w w'/\
   ∃vt',CW w' cb w'.heap.size s inp bb vg vcap yb zb vt' hg hcap hbk HT c p n (T++ [(r,(p:Int),q)]):=by
 have HC:=aA h;have k3:=h.k3;have k5:=h.k5;have f5:=h.fz 262;obtain⟨va,vc',hv⟩:=aK h.rt;subst hv;have hb0:=h.b0;clear h;go_enter Tryz.func53,Tryz.ntmps53;go_wp2_with fail;have hcne:some cb≠(cL va T.length vc').ownBlock:=fun e=>by have:=(HC.out.rt.lt cb e.symm).1;omega
 go_region_law ((refine lT w.drew rfl (.tmp 10) (.tmp 18) 29 rfl (cb+1) 79 (.agg #[.int .i64 0,.int .i64 0,.int .i64 0]) 3 24 Tryz.underlying29 Tryz.infoToken rfl (by decide) (by decide) _ T.length (dZ T) [.int .i64 r,.int .i64 (p:Int),.int .i64 q] _ (by simp[Act.eval]) HC.out.rt _ rfl (by simp[Act.eval]) rfl (by simp[cR]) (by omega) (by show cb+1<=w.heap.size;omega) ?_;intro g4 cap4 w4 hown4 hgrow4 hat4 hlt4;have m3:=((bG hgrow4 (k:=cb) (by show cb<w.heap.size;omega) hcne).1 262).trans k5;have n3:=((bG hgrow4 (k:=cb) (by show cb<w.heap.size;omega) hcne).2 262).trans f5;have HM:=aA (HC.out.drew.told (x:=(r,(p:Int),q)) hown4 hgrow4 hat4 hlt4);have HBG:Hid (Below cb w w4):=(iA (o:= .cells #[.int .i64 r,.int .i64 (p:Int),.int .i64 q] 79) (_root_.Go.below_drewN (eN cb w) 1) (by show cb<=w.heap.size;omega) HC.out.rt (Nat.le_succ _) hgrow4)))
 all_goals
  go_wp2
  go_end0
  exact⟨rfl,HBG.out.setCell (p:=⟨cb,262,none⟩) (bC _) _,_,HM.out.raise⟩
end Go.Proofs.YtgjgjgihceijnaaGreat
namespace Go.Proofs.YtgjgjgihceijnaaGreat
open Go.RowKit Go.Stn
theorem Mq (s inp:ByteArray)(cb bb vg vcap:Nat)(yb:Nat->Nat)(zb:Nat->Nat->Nat)(vt:Value)(hg hcap:Nat)(hbk:Nat->Nat)(HT:Nat->Nat->Bool)(c p n:Nat)(T:List (Int×Int×Int))(r q:Nat)(w:World)
  (hi:fV s=true) (hr:r<iR s) (hT:T.length<=100000) (h:CW w cb w.heap.size s inp bb vg vcap yb zb vt hg hcap hbk HT c p n T):
  Calls Tryz.prog 54 #[.pointer (some ⟨cb,0,none⟩),.int .i64 r,.int .i64 q] w fun e w'=>e= .returned (.tuple #[])/\Below cb w w'/\
   ∃vt',CW w' cb w'.heap.size s inp bb vg vcap yb zb vt' hg hcap hbk HT (if 1<fE s r then fE s r - 2 else c) q n (if fE s r=1 then T else T++ [((r:Int),(p:Int),(q:Int))]):=by
 have HC:=aA h;have k0:=h.im 0 _ (Gz _ _ _);have m0:=h.mem.be r hr;have hle:=uI hi hr;have hM:=(nJ hi).2.2.2.1;obtain⟨R,ER⟩:∃R,iR s=R:=⟨_,rfl⟩
 rw[ER]at k0 hr;obtain⟨b,EB⟩:∃b,fE s r=b:=⟨_,rfl⟩
 rw[EB]at m0 hle ⊢;have hbl:b<=5:=by omega
 have hrI:(0:Int)<=(r:Int)/\(r:Int)<(R:Int):=by omega
 have hb0:=h.b0;replace ER:=aA ER;replace EB:=aA EB;clear h hi hle hM;rcases(show b=1\/b=0\/2<=b by omega)with hb | hb | hb
 ·have hd1:((b:Int) !=1)=false:=by rw[hb];rfl
  have hd2:decide ((2:Int)<=(b:Int))=false:=by simp;omega
  rw[if_neg (show¬1<b by omega),if_pos hb];clear hb;have q3:=HC.out.k3;have f3:=HC.out.fz 260;go_enter Tryz.func54,Tryz.ntmps54;go_wp2
  go_end0
  exact⟨rfl,(eN _ _).setCell (p:=⟨cb,260,none⟩) (bC _) _,vt,(HC.out.setP q).raise⟩
 ·have hd1:((b:Int) !=1)=true:=by rw[hb];rfl
  have hd2:decide ((2:Int)<=(b:Int))=false:=by simp;omega
  rw[if_neg (show¬1<b by omega),if_neg (show¬b=1 by omega)];clear hb;go_enter Tryz.func54,Tryz.ntmps54;go_wp2_with fail;refine(yZ s inp cb bb vg vcap yb zb vt hg hcap hbk HT c p n T (r:Int) (q:Int) _ hT HC.out).mono ?_;rintro e w1 ⟨rfl,hb1,vt1,hc1⟩;have HC1:=aA hc1;have HB1:=aA hb1;have q3:=hc1.k3;have f3:=hc1.fz 260;clear hc1 hb1 k0 m0;go_wp2
  go_end0
  exact⟨rfl,HB1.out.setCell (p:=⟨cb,260,none⟩) (bC _) _,vt1,(HC1.out.setP q).raise⟩
 ·have hd1:((b:Int) !=1)=true:=by rw[bne_iff_ne];omega
  have hd2:decide ((2:Int)<=(b:Int))=true:=by simp;omega
  rw[if_pos (show 1<b by omega),if_neg (show¬b=1 by omega)];obtain⟨c',hc'⟩:∃c':Nat,b - 2=c':=⟨_,rfl⟩
  have hbc:(b:Int) - 2=(c':Int):=by omega
  rw[hc'];clear hc';go_enter Tryz.func54,Tryz.ntmps54;go_wp2_with fail;refine(yZ s inp cb bb vg vcap yb zb vt hg hcap hbk HT c p n T (r:Int) (q:Int) _ hT HC.out).mono ?_;rintro e w1 ⟨rfl,hb1,vt1,hc1⟩;have HC1:=aA hc1;have HB1:=aA hb1;have q2:=hc1.k2;have f2:=hc1.fz 259;have q3:=(hc1.setC c').k3;have f3:=(hc1.setC c').fz 260;clear hc1 hb1 k0 m0;go_wp2
  go_end0
  exact⟨rfl,(HB1.out.setCell (p:=⟨cb,259,none⟩) (bC _) _).setCell (p:=⟨cb,260,none⟩) (bC _) _,vt1,((HC1.out.setC c').setP q).raise⟩
end Go.Proofs.YtgjgjgihceijnaaGreat
