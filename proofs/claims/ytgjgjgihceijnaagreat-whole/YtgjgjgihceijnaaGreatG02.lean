import Derived.Test.YtgjgjgihceijnaaGreatG01
import Derived.Deep.QuietTactic
import Derived.BigQuiet
open Go.Value renaming ownBlock->aL,slice->cF
open Go.World renaming cell?_setCell_other->aO,cell?_setCell_same->aR,setCell->aT,frozen?_setCell->bC,drewN_drewN->bN
open List renaming length_singleton->bD,length_append->bK
open Go.RowKit.Below renaming heap_setCell->bM,heap_alloc->bO,refl->cL
open Nat renaming lt_of_lt_of_le->bS,le_trans->cN,le_refl->cO
open Bool renaming and_eq_true->bT
set_option maxRecDepth 100000
set_option maxHeartbeats 8000000
namespace Go.Stn
def kR (u v:Value):Prop:=∀k,u.ownBlock=some k->v.ownBlock=some k->False
theorem kR.symm {u v:Value}(h:kR u v):kR v u:=fun k a b=>h k b a
def gU (x:(Nat->Bool)×Int×Int):List Value:= [.bool (x.1 0),.bool (x.1 1),.bool (x.1 2),.bool (x.1 3),.int .i64 x.2.1,.int .i64 x.2.2]
def tA (l:List ((Nat->Bool)×Int×Int)):List Value:=l.flatMap gU
def zS (l:List (Nat->Bool)):List Value:=l.flatMap aV
def qD (l:List (Int×Int×Int)):List Value:=l.flatMap fun x=>[.int .i64 x.1,.int .i64 x.2.1,.int .i64 x.2.2]
end Go.Stn
namespace Go.Proofs.YtgjgjgihceijnaaGreat
open Go.RowKit Go.Stn
theorem aE {p:Prop}(h:p):Hid p:=h
structure Rd (w:World)(rb base top:Nat)(t:ByteArray)(st:PSt)(vr vn vp:Value):Prop where
 c0:w.cell? ⟨rb,0,none⟩=some (.string t)
 c1:w.cell? ⟨rb,1,none⟩=some (.int .i64 st.at_)
 c2:w.cell? ⟨rb,2,none⟩=some vr
 c3:w.cell? ⟨rb,3,none⟩=some vn
 c4:w.cell? ⟨rb,4,none⟩=some vp
 fz:∀i,w.frozen? ⟨rb,i,none⟩=false
 rr:w.ownsRow base 119 6 vr st.rules.length (tA st.rules)
 rn:w.ownsRow base 162 3 vn st.nodes.length (qD st.nodes)
 rp:w.ownsRow base 158 256 vp st.places.length (zS st.places)
 hb:rb<base
 hbt:base<=top
 hz:top<=w.heap.size
 lr:∀k,vr.ownBlock=some k->k<top
 ln:∀k,vn.ownBlock=some k->k<top
 lp:∀k,vp.ownBlock=some k->k<top
 a1:kR vr vn
 a2:kR vr vp
 a3:kR vn vp
variable {w w':World} {rb base top:Nat} {t:ByteArray} {st:PSt} {vr vn vp:Value}
theorem zK {w w':World}{base top:Nat}{e:TypeId}{size:Nat}{v:Value}{m:Nat}{xs:List Value}(hr:w.ownsRow base e size v m xs)(hB:Below top w w')(hl:∀k,v.ownBlock=some k->k<top):w'.ownsRow base e size v m xs:=by
 refine⟨hr.1, ?_⟩;rcases hr.2 with hn | ⟨g,cap,cur,rfl,hbg,hg,rest⟩
 ·exact .inl hn
 ·exact .inr ⟨g,cap,cur,rfl,hbg,(hB.block g (hl g rfl)).trans hg,rest⟩
theorem Rd.below (h:Rd w rb base top t st vr vn vp)(hB:Below top w w'):Rd w' rb base top t st vr vn vp:=by
 have hb:=h.hb;have hbt:=h.hbt;have hc:rb<top:=by omega
 have cl:∀i,w'.cell? ⟨rb,i,none⟩=w.cell? ⟨rb,i,none⟩:=fun i=>hB.cell (p:=⟨rb,i,none⟩) hc
 exact⟨(cl 0).trans h.c0,(cl 1).trans h.c1,(cl 2).trans h.c2,(cl 3).trans h.c3,(cl 4).trans h.c4,fun i=>(hB.frozen (p:=⟨rb,i,none⟩) hc).trans (h.fz i),
  zK h.rr hB h.lr,zK h.rn hB h.ln,zK h.rp hB h.lp,h.hb,h.hbt,cN h.hz hB.size,h.lr,h.ln,h.lp,h.a1,h.a2,h.a3⟩
theorem Rd.drewN (h:Rd w rb base top t st vr vn vp)(q:Nat):Rd (w.drewN q) rb base top t st vr vn vp:=
 ⟨h.c0,h.c1,h.c2,h.c3,h.c4,h.fz,h.rr,h.rn,h.rp,h.hb,h.hbt,h.hz,h.lr,h.ln,h.lp,h.a1,h.a2,h.a3⟩
theorem Rd.drew (h:Rd w rb base top t st vr vn vp):Rd w.drew rb base top t st vr vn vp:=
 ⟨h.c0,h.c1,h.c2,h.c3,h.c4,h.fz,h.rr,h.rn,h.rp,h.hb,h.hbt,h.hz,h.lr,h.ln,h.lp,h.a1,h.a2,h.a3⟩
theorem Rd.raise (h:Rd w rb base top t st vr vn vp):Rd w rb base w.heap.size t st vr vn vp:=by
 have hz:=h.hz;have hbt:=h.hbt;exact⟨h.c0,h.c1,h.c2,h.c3,h.c4,h.fz,h.rr,h.rn,h.rp,h.hb,by omega,cO _,fun k hk=>by have:=h.lr k hk;omega,fun k hk=>by have:=h.ln k hk;omega,fun k hk=>by have:=h.lp k hk;omega,h.a1,h.a2,h.a3⟩
theorem Rd.retop {w0:World}{top0:Nat}{st0:PSt}(h0:Rd w0 rb base top0 t st0 vr vn vp)(h:Rd w rb base top t st vr vn vp)(hz:top0<=w.heap.size):Rd w rb base top0 t st vr vn vp:=
 ⟨h.c0,h.c1,h.c2,h.c3,h.c4,h.fz,h.rr,h.rn,h.rp,h.hb,h0.hbt,hz,h0.lr,h0.ln,h0.lp,h.a1,h.a2,h.a3⟩
theorem Rd.adv (h:Rd w rb base top t st vr vn vp):Rd (w.setCell ⟨rb,1,none⟩ (.int .i64 ((st.at_:Int)+1))) rb base top t (adv st) vr vn vp:=by
 have o:∀j u,j≠1->w.cell? ⟨rb,j,none⟩=some u->(w.setCell ⟨rb,1,none⟩ (.int .i64 ((st.at_:Int)+1))).cell? ⟨rb,j,none⟩=some u:=fun j u hj hu=>by
  rw[aO (h:=by intro e;injection e;omega)];exact hu
 refine⟨o 0 _ (by omega) h.c0,aR _ _ _ h.c1,o 2 _ (by omega) h.c2,o 3 _ (by omega) h.c3,o 4 _ (by omega) h.c4,
  fun i=>by rw[bC];exact h.fz i,ownsRow_setCell_below h.rr h.hb _,ownsRow_setCell_below h.rn h.hb _,ownsRow_setCell_below h.rp h.hb _,h.hb,h.hbt, ?_,h.lr,h.ln,h.lp,h.a1,h.a2,h.a3⟩
 have:=h.hz;simp[aT];omega
def Tu (rb:Nat)(vr vn vp:Value)(k:Nat):Prop:=k=rb\/vr.ownBlock=some k\/vn.ownBlock=some k\/vp.ownBlock=some k
structure Fr (w w':World)(rb:Nat)(vr vn vp vr' vn' vp':Value):Prop where
 os:w'.os=w.os
 tape:w'.tape=w.tape
 output:w'.output=w.output
 size:w.heap.size<=w'.heap.size
 block:∀k,k<w.heap.size->¬Tu rb vr vn vp k->w'.heap[k]? =w.heap[k]?
 stay:∀k,k<w.heap.size->¬Tu rb vr vn vp k->¬Tu rb vr' vn' vp' k
theorem Fr.trans {a b c:World}{rb:Nat}{vr vn vp vr1 vn1 vp1 vr2 vn2 vp2:Value}(h:Fr a b rb vr vn vp vr1 vn1 vp1)(k:Fr b c rb vr1 vn1 vp1 vr2 vn2 vp2):Fr a c rb vr vn vp vr2 vn2 vp2:=
 ⟨k.os.trans h.os,k.tape.trans h.tape,k.output.trans h.output,cN h.size k.size,fun i hi hm=>(k.block i (bS hi h.size) (h.stay i hi hm)).trans (h.block i hi hm),
  fun i hi hm=>k.stay i (bS hi h.size) (h.stay i hi hm)⟩
theorem Fr.of_grown {a b:World}{rb:Nat}{vr vn vp:Value}(h:a.grownBy b (some rb)):Fr a b rb vr vn vp vr vn vp:=
 ⟨h.os,h.tape,h.output,h.size,fun k hk hm=>h.block k hk (fun e=>hm (.inl (Option.some.inj e))),fun _ _ hm=>hm⟩
theorem Fr.of_drew {a b:World}{rb:Nat}{vr vn vp vr' vn' vp':Value}(h:Fr a.drew b rb vr vn vp vr' vn' vp'):Fr a b rb vr vn vp vr' vn' vp':=⟨h.os,h.tape,h.output,h.size,h.block,h.stay⟩
def R5 (w:World)(rb base:Nat)(t:ByteArray)(vr vn vp:Value)(st:PSt)(w':World):Prop:=∃vr' vn' vp',Rd w' rb base w'.heap.size t st vr' vn' vp'/\Fr w w' rb vr vn vp vr' vn' vp'
theorem Rd.moreN {W w4:World}{rb base top:Nat}{t:ByteArray}{st:PSt}{vr vn vp:Value}(h:Rd W rb base top t st vr vn vp){o:Obj}{x:Int×Int×Int}{g cap:Nat}
  (hown:w4.ownsRow base 162 3 (.slice (some ⟨g,0,none⟩) (st.nodes.length+1) cap) (st.nodes.length+1) (qD st.nodes++ [.int .i64 x.1,.int .i64 x.2.1,.int .i64 x.2.2]))
  (hgrow:(W.alloc o).grownBy w4 vn.ownBlock) (hat:vn.ownBlock=some g\/g=W.heap.size+1) (hgl:g<w4.heap.size):
  Rd (w4.setCell ⟨rb,3,none⟩ (.slice (some ⟨g,0,none⟩) (st.nodes.length+1) cap)) rb base w4.heap.size t {st with nodes:=st.nodes++ [x]} vr (.slice (some ⟨g,0,none⟩) (st.nodes.length+1) cap) vp/\
  Fr W (w4.setCell ⟨rb,3,none⟩ (.slice (some ⟨g,0,none⟩) (st.nodes.length+1) cap)) rb vr vn vp vr (.slice (some ⟨g,0,none⟩) (st.nodes.length+1) cap) vp:=by
 have hb:=h.hb;have hbt:=h.hbt;have hz:=h.hz;have hsz:=hgrow.size;simp at hsz;have h':Rd (W.alloc o) rb base top t st vr vn vp:=h.below ((cL _ _).alloc h.hz o);have hne:some rb≠vn.ownBlock:=fun e=>by have:=(h.rn.lt rb e.symm).1;omega
 obtain⟨gc,gf⟩:=bG hgrow (k:=rb) (by omega) hne;have oth:∀j u,j≠3->W.cell? ⟨rb,j,none⟩=some u->(w4.setCell ⟨rb,3,none⟩ (.slice (some ⟨g,0,none⟩) (st.nodes.length+1) cap)).cell? ⟨rb,j,none⟩=some u:=fun j u hj hu=>by
  rw[aO (h:=by intro e;injection e;omega),gc];exact hu
 have slf:∀u,W.cell? ⟨rb,3,none⟩=some u->(w4.setCell ⟨rb,3,none⟩ (.slice (some ⟨g,0,none⟩) (st.nodes.length+1) cap)).cell? ⟨rb,3,none⟩=some (.slice (some ⟨g,0,none⟩) (st.nodes.length+1) cap):=fun u hu=>
  aR (u:=u) _ _ _ ((gc 3).trans hu)
 have kp:∀(v:Value) (m sz:Nat) (xs:List Value) (e:TypeId),(W.alloc o).ownsRow base e sz v m xs->kR vn v->(w4.setCell ⟨rb,3,none⟩ (.slice (some ⟨g,0,none⟩) (st.nodes.length+1) cap)).ownsRow base e sz v m xs:=fun v m sz xs e hr ha=>by
  refine ownsRow_setCell_below (hr.kept hgrow ?_) h.hb _
  cases hv:v.ownBlock with
  | none=>exact .inl rfl
  | some k=>right;intro e;exact ha k e.symm hv
 have nw:∀v:Value,(∀k,v.ownBlock=some k->k<top)->kR vn v->kR (.slice (some ⟨g,0,none⟩) (st.nodes.length+1) cap) v:=fun v hl ha k e1 e2=>by
  have e:g=k:=by simpa[aL]using e1
  subst e;rcases hat with h1 | h1
  ·exact ha g h1 e2
  ·have:=hl g e2;omega
 have rn2:(w4.setCell ⟨rb,3,none⟩ (.slice (some ⟨g,0,none⟩) (st.nodes.length+1) cap)).ownsRow base 162 3 (.slice (some ⟨g,0,none⟩) (st.nodes.length+1) cap) (st.nodes++ [x]).length (qD (st.nodes++ [x])):=by
  have e:qD (st.nodes++ [x])=qD st.nodes++ [.int .i64 x.1,.int .i64 x.2.1,.int .i64 x.2.2]:=by simp[qD]
  rw[e,bK,bD];exact ownsRow_setCell_below hown h.hb _
 have tp:∀v:Value,(∀k,v.ownBlock=some k->k<top)->∀k,v.ownBlock=some k->k<w4.heap.size:=fun v hl k hk=>by have:=hl k hk;omega
 have tg:∀k,(cF (some ⟨g,0,none⟩) (st.nodes.length+1) cap).ownBlock=some k->k<w4.heap.size:=fun k hk=>by
  have e:g=k:=by simpa[aL]using hk
  omega
 refine⟨⟨oth 0 _ (by omega) h.c0,oth 1 _ (by omega) h.c1,oth 2 _ (by omega) h.c2,slf _ h.c3,oth 4 _ (by omega) h.c4,fun i=>by rw[bC,gf];exact h.fz i,kp _ _ _ _ _ h'.rr h.a1.symm,rn2,kp _ _ _ _ _ h'.rp h.a3,h.hb,by omega,by simp[aT],tp _ h.lr,tg,tp _ h.lp,(nw _ h.lr h.a1.symm).symm,h.a2,nw _ h.lp h.a3⟩, ?_⟩;refine⟨hgrow.os,hgrow.tape,hgrow.output,by simp[aT];omega,fun k hk hm=> ?_,fun k hk hm=> ?_⟩
 ·rw[bM _ _ _ _ (by intro e;exact hm (.inl e)),hgrow.block k (by simp;omega) (by intro e;exact hm (.inr (.inr (.inl e.symm))))];exact bO W o k hk
 ·rintro(e | e | e | e)
  ·exact hm (.inl e)
  ·exact hm (.inr (.inl e))
  ·have e:g=k:=by simpa[aL]using e
   subst e;rcases hat with h1 | h1
   ·exact hm (.inr (.inr (.inl h1)))
   ·omega
  ·exact hm (.inr (.inr (.inr e)))
theorem Rd.moreP {W w4:World}{rb base top:Nat}{t:ByteArray}{st:PSt}{vr vn vp:Value}(h:Rd W rb base top t st vr vn vp){o:Obj}{x:Nat->Bool}{g cap:Nat}
  (hown:w4.ownsRow base 158 256 (.slice (some ⟨g,0,none⟩) (st.places.length+1) cap) (st.places.length+1) (zS st.places++aV x))
  (hgrow:(W.alloc o).grownBy w4 vp.ownBlock) (hat:vp.ownBlock=some g\/g=W.heap.size+1) (hgl:g<w4.heap.size):
  Rd (w4.setCell ⟨rb,4,none⟩ (.slice (some ⟨g,0,none⟩) (st.places.length+1) cap)) rb base w4.heap.size t {st with places:=st.places++ [x]} vr vn (.slice (some ⟨g,0,none⟩) (st.places.length+1) cap)/\
  Fr W (w4.setCell ⟨rb,4,none⟩ (.slice (some ⟨g,0,none⟩) (st.places.length+1) cap)) rb vr vn vp vr vn (.slice (some ⟨g,0,none⟩) (st.places.length+1) cap):=by
 have hb:=h.hb;have hbt:=h.hbt;have hz:=h.hz;have hsz:=hgrow.size;simp at hsz;have h':Rd (W.alloc o) rb base top t st vr vn vp:=h.below ((cL _ _).alloc h.hz o);have hne:some rb≠vp.ownBlock:=fun e=>by have:=(h.rp.lt rb e.symm).1;omega
 obtain⟨gc,gf⟩:=bG hgrow (k:=rb) (by omega) hne;have oth:∀j u,j≠4->W.cell? ⟨rb,j,none⟩=some u->(w4.setCell ⟨rb,4,none⟩ (.slice (some ⟨g,0,none⟩) (st.places.length+1) cap)).cell? ⟨rb,j,none⟩=some u:=fun j u hj hu=>by
  rw[aO (h:=by intro e;injection e;omega),gc];exact hu
 have slf:∀u,W.cell? ⟨rb,4,none⟩=some u->(w4.setCell ⟨rb,4,none⟩ (.slice (some ⟨g,0,none⟩) (st.places.length+1) cap)).cell? ⟨rb,4,none⟩=some (.slice (some ⟨g,0,none⟩) (st.places.length+1) cap):=fun u hu=>
  aR (u:=u) _ _ _ ((gc 4).trans hu)
 have kp:∀(v:Value) (m sz:Nat) (xs:List Value) (e:TypeId),(W.alloc o).ownsRow base e sz v m xs->kR vp v->(w4.setCell ⟨rb,4,none⟩ (.slice (some ⟨g,0,none⟩) (st.places.length+1) cap)).ownsRow base e sz v m xs:=fun v m sz xs e hr ha=>by
  refine ownsRow_setCell_below (hr.kept hgrow ?_) h.hb _
  cases hv:v.ownBlock with
  | none=>exact .inl rfl
  | some k=>right;intro e;exact ha k e.symm hv
 have nw:∀v:Value,(∀k,v.ownBlock=some k->k<top)->kR vp v->kR (.slice (some ⟨g,0,none⟩) (st.places.length+1) cap) v:=fun v hl ha k e1 e2=>by
  have e:g=k:=by simpa[aL]using e1
  subst e;rcases hat with h1 | h1
  ·exact ha g h1 e2
  ·have:=hl g e2;omega
 have rn2:(w4.setCell ⟨rb,4,none⟩ (.slice (some ⟨g,0,none⟩) (st.places.length+1) cap)).ownsRow base 158 256 (.slice (some ⟨g,0,none⟩) (st.places.length+1) cap) (st.places++ [x]).length (zS (st.places++ [x])):=by
  have e:zS (st.places++ [x])=zS st.places++aV x:=by simp[zS]
  rw[e,bK,bD];exact ownsRow_setCell_below hown h.hb _
 have tp:∀v:Value,(∀k,v.ownBlock=some k->k<top)->∀k,v.ownBlock=some k->k<w4.heap.size:=fun v hl k hk=>by have:=hl k hk;omega
 have tg:∀k,(cF (some ⟨g,0,none⟩) (st.places.length+1) cap).ownBlock=some k->k<w4.heap.size:=fun k hk=>by
  have e:g=k:=by simpa[aL]using hk
  omega
 refine⟨⟨oth 0 _ (by omega) h.c0,oth 1 _ (by omega) h.c1,oth 2 _ (by omega) h.c2,oth 3 _ (by omega) h.c3,slf _ h.c4,fun i=>by rw[bC,gf];exact h.fz i,kp _ _ _ _ _ h'.rr h.a2.symm,kp _ _ _ _ _ h'.rn h.a3.symm,rn2,h.hb,by omega,by simp[aT],tp _ h.lr,tp _ h.ln,tg,h.a1,(nw _ h.lr h.a2.symm).symm,(nw _ h.ln h.a3.symm).symm⟩, ?_⟩;refine⟨hgrow.os,hgrow.tape,hgrow.output,by simp[aT];omega,fun k hk hm=> ?_,fun k hk hm=> ?_⟩
 ·rw[bM _ _ _ _ (by intro e;exact hm (.inl e)),hgrow.block k (by simp;omega) (by intro e;exact hm (.inr (.inr (.inr e.symm))))];exact bO W o k hk
 ·rintro(e | e | e | e)
  ·exact hm (.inl e)
  ·exact hm (.inr (.inl e))
  ·exact hm (.inr (.inr (.inl e)))
  ·have e:g=k:=by simpa[aL]using e
   subst e;rcases hat with h1 | h1
   ·exact hm (.inr (.inr (.inr h1)))
   ·omega
theorem Rd.moreR {W w4:World}{rb base top:Nat}{t:ByteArray}{st:PSt}{vr vn vp:Value}(h:Rd W rb base top t st vr vn vp){o:Obj}{x:(Nat->Bool)×Int×Int}{g cap:Nat}
  (hown:w4.ownsRow base 119 6 (.slice (some ⟨g,0,none⟩) (st.rules.length+1) cap) (st.rules.length+1) (tA st.rules++gU x))
  (hgrow:(W.alloc o).grownBy w4 vr.ownBlock) (hat:vr.ownBlock=some g\/g=W.heap.size+1) (hgl:g<w4.heap.size):
  Rd (w4.setCell ⟨rb,2,none⟩ (.slice (some ⟨g,0,none⟩) (st.rules.length+1) cap)) rb base w4.heap.size t {st with rules:=st.rules++ [x]} (.slice (some ⟨g,0,none⟩) (st.rules.length+1) cap) vn vp/\
  Fr W (w4.setCell ⟨rb,2,none⟩ (.slice (some ⟨g,0,none⟩) (st.rules.length+1) cap)) rb vr vn vp (.slice (some ⟨g,0,none⟩) (st.rules.length+1) cap) vn vp:=by
 have hb:=h.hb;have hbt:=h.hbt;have hz:=h.hz;have hsz:=hgrow.size;simp at hsz;have h':Rd (W.alloc o) rb base top t st vr vn vp:=h.below ((cL _ _).alloc h.hz o);have hne:some rb≠vr.ownBlock:=fun e=>by have:=(h.rr.lt rb e.symm).1;omega
 obtain⟨gc,gf⟩:=bG hgrow (k:=rb) (by omega) hne;have oth:∀j u,j≠2->W.cell? ⟨rb,j,none⟩=some u->(w4.setCell ⟨rb,2,none⟩ (.slice (some ⟨g,0,none⟩) (st.rules.length+1) cap)).cell? ⟨rb,j,none⟩=some u:=fun j u hj hu=>by
  rw[aO (h:=by intro e;injection e;omega),gc];exact hu
 have slf:∀u,W.cell? ⟨rb,2,none⟩=some u->(w4.setCell ⟨rb,2,none⟩ (.slice (some ⟨g,0,none⟩) (st.rules.length+1) cap)).cell? ⟨rb,2,none⟩=some (.slice (some ⟨g,0,none⟩) (st.rules.length+1) cap):=fun u hu=>
  aR (u:=u) _ _ _ ((gc 2).trans hu)
 have kp:∀(v:Value) (m sz:Nat) (xs:List Value) (e:TypeId),(W.alloc o).ownsRow base e sz v m xs->kR vr v->(w4.setCell ⟨rb,2,none⟩ (.slice (some ⟨g,0,none⟩) (st.rules.length+1) cap)).ownsRow base e sz v m xs:=fun v m sz xs e hr ha=>by
  refine ownsRow_setCell_below (hr.kept hgrow ?_) h.hb _
  cases hv:v.ownBlock with
  | none=>exact .inl rfl
  | some k=>right;intro e;exact ha k e.symm hv
 have nw:∀v:Value,(∀k,v.ownBlock=some k->k<top)->kR vr v->kR (.slice (some ⟨g,0,none⟩) (st.rules.length+1) cap) v:=fun v hl ha k e1 e2=>by
  have e:g=k:=by simpa[aL]using e1
  subst e;rcases hat with h1 | h1
  ·exact ha g h1 e2
  ·have:=hl g e2;omega
 have rn2:(w4.setCell ⟨rb,2,none⟩ (.slice (some ⟨g,0,none⟩) (st.rules.length+1) cap)).ownsRow base 119 6 (.slice (some ⟨g,0,none⟩) (st.rules.length+1) cap) (st.rules++ [x]).length (tA (st.rules++ [x])):=by
  have e:tA (st.rules++ [x])=tA st.rules++gU x:=by simp[tA]
  rw[e,bK,bD];exact ownsRow_setCell_below hown h.hb _
 have tp:∀v:Value,(∀k,v.ownBlock=some k->k<top)->∀k,v.ownBlock=some k->k<w4.heap.size:=fun v hl k hk=>by have:=hl k hk;omega
 have tg:∀k,(cF (some ⟨g,0,none⟩) (st.rules.length+1) cap).ownBlock=some k->k<w4.heap.size:=fun k hk=>by
  have e:g=k:=by simpa[aL]using hk
  omega
 refine⟨⟨oth 0 _ (by omega) h.c0,oth 1 _ (by omega) h.c1,slf _ h.c2,oth 3 _ (by omega) h.c3,oth 4 _ (by omega) h.c4,fun i=>by rw[bC,gf];exact h.fz i,rn2,kp _ _ _ _ _ h'.rn h.a1,kp _ _ _ _ _ h'.rp h.a2,h.hb,by omega,by simp[aT],tg,tp _ h.ln,tp _ h.lp,nw _ h.ln h.a1,nw _ h.lp h.a2,h.a3⟩, ?_⟩;refine⟨hgrow.os,hgrow.tape,hgrow.output,by simp[aT];omega,fun k hk hm=> ?_,fun k hk hm=> ?_⟩
 ·rw[bM _ _ _ _ (by intro e;exact hm (.inl e)),hgrow.block k (by simp;omega) (by intro e;exact hm (.inr (.inl e.symm)))];exact bO W o k hk
 ·rintro(e | e | e | e)
  ·exact hm (.inl e)
  ·have e:g=k:=by simpa[aL]using e
   subst e;rcases hat with h1 | h1
   ·exact hm (.inr (.inl h1))
   ·omega
  ·exact hm (.inr (.inr (.inl e)))
  ·exact hm (.inr (.inr (.inr e)))
end Go.Proofs.YtgjgjgihceijnaaGreat
namespace Go.Proofs.YtgjgjgihceijnaaGreat
open Go.RowKit Go.Stn
theorem nV (b:Int)(w:World):Calls Tryz.prog 134 #[.int .i64 b] w fun e w'=>e= .returned (.bool (gY b))/\w'=w:=by
 by_cases h1:33<=b
 ·by_cases h2:b<=126
  ·have e:gY b=true:=by unfold gY;simp[h1,h2]
   rw[e];clear e;go_enter Tryz.func134,Tryz.ntmps134;go_wp2;go_ret;exact⟨by simp,rfl⟩
  ·have e:gY b=false:=by unfold gY;simp[h2]
   rw[e];clear e;go_enter Tryz.func134,Tryz.ntmps134;go_wp2;go_ret;exact⟨by simp,rfl⟩
 ·have e:gY b=false:=by unfold gY;simp[h1]
  rw[e];clear e;go_enter Tryz.func134,Tryz.ntmps134;go_wp2;go_ret;exact⟨rfl,rfl⟩
theorem Iw (b:Int)(w:World):Calls Tryz.prog 143 #[.int .i64 b] w fun e w'=>e= .returned (.bool (P3 b))/\w'=w:=by
 have e:P3 b=(decide (97<=b) && decide (b<=122) || (decide (65<=b) && decide (b<=90)) || (decide (48<=b) && decide (b<=57))):=by
  unfold P3;rw[Bool.eq_iff_iff];simp;omega
 rw[e];clear e;by_cases h1:97<=b<;> by_cases h2:b<=122<;> by_cases h3:65<=b<;> by_cases h4:b<=90<;> by_cases h5:48<=b<;> by_cases h6:b<=57
 all_goals first
  | (exfalso;omega)
  | (simp only[h1,h2,h3,h4,h5,h6,decide_true,decide_false,Bool.and_false,Bool.or_false,Bool.or_true,Bool.and_true]
     go_enter Tryz.func143,Tryz.ntmps143;go_wp2;go_ret;exact⟨by simp<;> omega,rfl⟩)
theorem yH (b:Int)(sp:ByteArray)(w:World)(hs:sp.size<=100):Calls Tryz.prog 128 #[.int .i64 b,.string sp] w fun e w'=>e= .returned (.bool (dY b sp))/\w'=w:=by
 cases hv:gY b with
 | false=>
  have e:dY b sp=false:=by unfold dY;rw[hv];rfl
  rw[e];clear e;go_enter Tryz.func128,Tryz.ntmps128;go_wp2_with (go_at_call 134;refine(nV _ _).mono ?_;rintro e w ⟨rfl,rfl⟩);go_ret;exact⟨rfl,rfl⟩
 | true=>
  have e:dY b sp=decide (∀i,i<sp.size->(bt sp i:Int)≠b):=by unfold dY;rw[hv];rfl
  rw[e];clear e;go_enter Tryz.func128,Tryz.ntmps128;go_wp2_with (go_at_call 134;refine(nV _ _).mono ?_;rintro e w ⟨rfl,rfl⟩)
  go_loop [5] (fun x=>∃k:Nat,k<=sp.size/\x= .int .i64 (k:Int)/\∀i,i<k->(bt sp i:Int)≠b) (fun x=>sp.size - (intOf x).toNat)
  case atStart=>exact⟨0,Nat.zero_le _,rfl,fun i h=>absurd h (Nat.not_lt_zero _)⟩
  case round=>
   obtain⟨k,hk,rfl,hall⟩:=hrel;have HA:=aE hall;clear hall;by_cases hlt:k<sp.size
   ·have hbe:=jE sp k hlt;have hbl:=jS sp k;by_cases heq:(bt sp k:Int)=b
    ·have HN:Hid (decide (∀i,i<sp.size->(bt sp i:Int)≠b)=false):=by
      unfold Hid;rw[decide_eq_false_iff_not];intro h;exact h k hlt heq
     have hbq:((bt sp k:Int)==b)=true:=beq_iff_eq.2 heq;clear heq;go_wp2;go_ret;exact⟨by rw[HN.out];rfl,rfl⟩
    ·have hbq:((bt sp k:Int)==b)=false:=beq_eq_false_iff_ne.2 heq;have HQ:=aE heq;clear heq;go_wp2;go_round
     case rel=>
      refine⟨k+1,hlt,by go_num,fun i hi=> ?_⟩;by_cases e:i=k
      ·rw[e];exact HQ.out
      ·exact HA.out i (by omega)
     case measure=>simp[intOf];omega
   ·have HY:Hid (decide (∀i,i<sp.size->(bt sp i:Int)≠b)=true):=by
     unfold Hid;rw[decide_eq_true_eq];intro i hi;exact HA.out i (by omega)
    go_wp2;go_ret;exact⟨by rw[HY.out];rfl,rfl⟩
theorem pG (t:ByteArray)(st:PSt)(rb base top:Nat)(vr vn vp:Value)(w:World)(h:Rd w rb base top t st vr vn vp):
  Calls Tryz.prog 97 #[.pointer (some ⟨rb,0,none⟩)] w fun e w'=>e= .returned (.int .i64 (aJ t st.at_))/\∃q,w'=w.drewN q:=by
 have c0:=h.c0;have c1:=h.c1;clear h;generalize st.at_=a at*;by_cases he:t.size<=a
 ·rw[dA he];have hd:decide ((t.size:Int)<=(a:Int))=true:=by simp;omega
  go_enter Tryz.func97,Tryz.ntmps97;go_wp2;go_quiet (fail);go_wp2;go_ret;exact⟨rfl,_,rfl⟩
 ·rw[eY (by omega)];have hd:decide ((t.size:Int)<=(a:Int))=false:=by simp;omega
  have hbe:=jE t a (by omega);have hbl:=jS t a;have hI:(0:Int)<=(a:Int)/\(a:Int)<(t.size:Int):=by omega
  have hwb:IntKind.i64.wrap (bt t a:Int)=(bt t a:Int):=IntWalk.i64_in _ (by omega);go_enter Tryz.func97,Tryz.ntmps97;go_wp2;go_quiet (fail);go_wp2;go_quiet (fail);go_wp2;go_ret;exact⟨rfl,_,bN _ _ _⟩
end Go.Proofs.YtgjgjgihceijnaaGreat
namespace Go.Stn
def amB (c:Nat)(s:ByteArray):Bool:=decide (∃i,i<s.size/\bt s i=c)
def tR:ByteArray:=⟨#[65,66,67,68,69,70,71,72,73,74,75,76,77,78,79,80,81,82,83,84,85,86,87,88,89,90,97,98,99,100,101,102,103,104,105,106,107,108,109,110,111,112,113,114,115,116,117,118,119,120,121,122,48,49,50,51,52,53,54,55,56,57]⟩
end Go.Stn
namespace Go.Proofs.YtgjgjgihceijnaaGreat
open Go.RowKit Go.Stn
theorem vB (c:Nat)(s:ByteArray)(w:World)(hs:s.size<=1000000):
  Calls Tryz.prog 131 #[.int .u8 (c:Int),.string s] w fun e w'=>e= .returned (.bool (amB c s))/\∃q,w'=w.drewN q:=by
 have HB:Hid (amB c s=decide (∃i,i<s.size/\bt s i=c)):=rfl;go_enter Tryz.func131,Tryz.ntmps131;go_wp2
 go_loopw [5] (fun x wr=>∃i q:Nat,i<=s.size/\x= .int .i64 (i:Int)/\(∀k,k<i->bt s k≠c)/\wr=w.drewN q) (fun x _=>s.size - (intOf x).toNat)
 case atStart=>exact⟨0,0,by omega,rfl,fun k h=>by omega,rfl⟩
 case round=>
  obtain⟨i,q,hi,rfl,hall,rfl⟩:=hrel;replace hall:Hid (∀k,k<i->bt s k≠c):=hall;by_cases hlt:i<s.size
  ·have hb:(s[i]'hlt).toNat=bt s i:=jE s i hlt;have hiI:(0:Int)<=(i:Int)/\(i:Int)<(s.size:Int):=by omega
   by_cases e:bt s i=c
   ·have d:((((s[i]'hlt).toNat:Nat):Int)==(c:Int))=true:=by rw[hb,e];simp
    have HY:Hid (amB c s=true):=by unfold Hid;rw[HB.out,decide_eq_true_eq];exact⟨i,hlt,e⟩
    clear e hb;go_wp2;go_ret;exact⟨by rw[HY.out];simp,_,rfl⟩
   ·have d:((((s[i]'hlt).toNat:Nat):Int)==(c:Int))=false:=by rw[hb,beq_eq_false_iff_ne];omega
    have HN:Hid (∀k,k<i+1->bt s k≠c):=fun k hk=>by
     by_cases e2:k=i
     ·rw[e2];exact e
     ·exact hall.out k (by omega)
    clear e hb;go_wp2;go_roundw
    case rel=>exact⟨i+1,_,hlt,by go_num,HN.out,rfl⟩
    case measure=>simp[intOf];omega
  ·have e:i=s.size:=by omega
   subst e;have HF:Hid (amB c s=false):=by
    unfold Hid;rw[HB.out,decide_eq_false_iff_not];rintro⟨k,h1,h2⟩;exact hall.out k h1 h2
   go_wp2;go_ret;exact⟨by rw[HF.out];simp,q,rfl⟩
theorem wA (c:Nat)(w:World)(hc:c<256):
  Calls Tryz.prog 132 #[.int .u8 (c:Int)] w fun e w'=>e= .returned (.bool (gY (c:Int)))/\∃q,w'=w.drewN q:=by
 by_cases h1:33<=c
 ·have d1:decide ((33:Int)<=(c:Int))=true:=by simp;omega
  by_cases h2:c<=126
  ·have d2:decide ((c:Int)<=126)=true:=by simp;omega
   have HV:Hid (gY (c:Int)=true):=by unfold Hid gY;rw[decide_eq_true_eq];omega
   go_enter Tryz.func132,Tryz.ntmps132;go_wp2;go_ret;exact⟨by rw[HV.out];simp,0,rfl⟩
  ·have d2:decide ((c:Int)<=126)=false:=by simp;omega
   have HV:Hid (gY (c:Int)=false):=by unfold Hid gY;rw[decide_eq_false_iff_not];omega
   go_enter Tryz.func132,Tryz.ntmps132;go_wp2;go_ret;exact⟨by rw[HV.out];simp,0,rfl⟩
 ·have d1:decide ((33:Int)<=(c:Int))=false:=by simp;omega
  have HV:Hid (gY (c:Int)=false):=by unfold Hid gY;rw[decide_eq_false_iff_not];omega
  go_enter Tryz.func132,Tryz.ntmps132;go_wp2;go_ret;exact⟨by rw[HV.out];simp,0,rfl⟩
def oG (c:Nat):Nat×Bool:=if c=110 then(10,true)else if c=115 then(32,true)else(c,gY (c:Int) && !amB c tR)
theorem zT (c:Nat)(w:World)(hc:c<256):
  Calls Tryz.prog 130 #[.int .u8 (c:Int)] w fun e w'=>e= .returned (.tuple #[.int .u8 ((oG c).1:Int),.bool (oG c).2])/\∃q,w'=w.drewN q:=by
 by_cases h1:c=110
 ·have HE:Hid (oG c=(10,true)):=by unfold Hid oG;rw[if_pos h1]
  have d1:((c:Int)==110)=true:=by rw[h1];rfl
  clear h1;go_enter Tryz.func130,Tryz.ntmps130;go_wp2;go_ret2;exact⟨by rw[HE.out];simp,0,rfl⟩
 ·have d1:((c:Int)==110)=false:=by rw[beq_eq_false_iff_ne];omega
  by_cases h2:c=115
  ·have HE:Hid (oG c=(32,true)):=by unfold Hid oG;rw[if_neg h1,if_pos h2]
   have d2:((c:Int)==115)=true:=by rw[h2];rfl
   clear h1 h2;go_enter Tryz.func130,Tryz.ntmps130;go_wp2;go_ret2;exact⟨by rw[HE.out];simp,0,rfl⟩
  ·have d2:((c:Int)==115)=false:=by rw[beq_eq_false_iff_ne];omega
   have HE:Hid (oG c=(c,gY (c:Int) && !amB c tR)):=by unfold Hid oG;rw[if_neg h1,if_neg h2]
   clear h1 h2;go_enter Tryz.func130,Tryz.ntmps130;go_wp2_with fail;refine(vB c tR _ (by decide)).mono ?_;rintro e w1 ⟨rfl,q1,rfl⟩;go_wp2_with fail;refine(wA c _ hc).mono ?_;rintro e w2 ⟨rfl,q2,rfl⟩;generalize amB c tR=am at*;generalize gY (c:Int)=vi at*
   cases vi<;> cases am
   all_goals
    go_wp2;go_ret2;exact⟨by rw[HE.out];simp,_,by first | rfl | (rw[bN])⟩
end Go.Proofs.YtgjgjgihceijnaaGreat
namespace Go.Stn
def My:ByteArray:=⟨#[93,94,45]⟩
end Go.Stn
namespace Go.Proofs.YtgjgjgihceijnaaGreat
open Go.RowKit Go.Stn
def kK (s:ByteArray)(i:Nat):Nat×Nat×Bool:=
 if s.size<=i then(0,i,false)else if bt s i=92 then(if s.size<=i+1 then(0,i,false)else((oG (bt s (i+1))).1,i+2,(oG (bt s (i+1))).2))
 else(bt s i,i+1,gY (bt s i:Int) && !amB (bt s i) My)
theorem Q3 (s:ByteArray)(i:Nat)(w:World)(hs:s.size<=1000)(hi:i<=1000):
  Calls Tryz.prog 135 #[.string s,.int .i64 (i:Int)] w fun e w'=>e= .returned (.tuple #[.int .u8 ((kK s i).1:Int),.int .i64 ((kK s i).2.1:Int),.bool (kK s i).2.2])/\∃q,w'=w.drewN q:=by
 by_cases h1:s.size<=i
 ·have HE:Hid (kK s i=(0,i,false)):=by unfold Hid kK;rw[if_pos h1]
  have d1:decide ((s.size:Int)<=(i:Int))=true:=by simp;omega
  go_enter Tryz.func135,Tryz.ntmps135;go_wp2;go_ret3;exact⟨by rw[HE.out];simp,0,rfl⟩
 ·have hlt:i<s.size:=by omega
  have d1:decide ((s.size:Int)<=(i:Int))=false:=by simp;omega
  have hb:(s[i]'hlt).toNat=bt s i:=jE s i hlt;have hbl:=jS s i;have hiI:(0:Int)<=(i:Int)/\(i:Int)<(s.size:Int):=by omega
  have HR:Hid (kK s i=if bt s i=92 then(if s.size<=i+1 then(0,i,false)else((oG (bt s (i+1))).1,i+2,(oG (bt s (i+1))).2))else(bt s i,i+1,gY (bt s i:Int) && !amB (bt s i) My)):=by unfold Hid kK;rw[if_neg h1]
  generalize bt s i=x at*;by_cases h2:x=92
  ·have d2:((x:Int)==92)=true:=by rw[h2];rfl
   by_cases h3:s.size<=i+1
   ·have HE:Hid (kK s i=(0,i,false)):=by unfold Hid;rw[HR.out,if_pos h2,if_pos h3]
    have d3:decide ((s.size:Int)<=(i:Int)+1)=true:=by simp;omega
    clear h1 h2 HR;go_enter Tryz.func135,Tryz.ntmps135;go_wp2;go_ret3;exact⟨by rw[HE.out];simp,0,rfl⟩
   ·have HE:Hid (kK s i=((oG (bt s (i+1))).1,i+2,(oG (bt s (i+1))).2)):=by unfold Hid;rw[HR.out,if_pos h2,if_neg h3]
    have hlt2:i+1<s.size:=by omega
    have d3:decide ((s.size:Int)<=(i:Int)+1)=false:=by simp;omega
    have hb2:(s[i+1]'hlt2).toNat=bt s (i+1):=jE s (i+1) hlt2;have hbl2:=jS s (i+1);have hiI2:(0:Int)<=(i:Int)+1/\(i:Int)+1<(s.size:Int):=by omega
    generalize bt s (i+1)=y at*;clear h1 h2 HR;go_enter Tryz.func135,Tryz.ntmps135;go_wp2_with fail;refine(zT y _ hbl2).mono ?_;rintro e w1 ⟨rfl,q1,rfl⟩;generalize oG y=ey at*;obtain⟨e1,e2⟩:=ey;go_wp2;go_ret3;exact⟨by rw[HE.out];simp,_,rfl⟩
  ·have d2:((x:Int)==92)=false:=by rw[beq_eq_false_iff_ne];omega
   have HE:Hid (kK s i=(x,i+1,gY (x:Int) && !amB x My)):=by unfold Hid;rw[HR.out,if_neg h2]
   clear h1 h2 HR;go_enter Tryz.func135,Tryz.ntmps135;go_wp2_with fail;refine(vB x My _ (by decide)).mono ?_;rintro e w1 ⟨rfl,q1,rfl⟩;go_wp2_with fail;refine(wA x _ hbl).mono ?_;rintro e w2 ⟨rfl,q2,rfl⟩;generalize amB x My=am at*;generalize gY (x:Int)=vi at*
   cases vi<;> cases am
   all_goals
    go_wp2;go_ret3;exact⟨by rw[HE.out];simp,_,by first | rfl | (rw[bN])⟩
end Go.Proofs.YtgjgjgihceijnaaGreat
namespace Go.Proofs.YtgjgjgihceijnaaGreat
open Go.RowKit Go.Stn
def cH (c:Nat):Int:=if 65<=c/\c<69 then(c:Int) - 65 else -1
theorem pR (c:Nat)(w:World)(hc:c<256):
  Calls Tryz.prog 27 #[.int .u8 (c:Int)] w fun e w'=>e= .returned (.int .i64 (cH c))/\∃q,w'=w.drewN q:=by
 by_cases h1:65<=c
 ·obtain⟨k,rfl⟩:∃k,c=k+65:=⟨c - 65,by omega⟩
  have d1:decide ((k:Int)<0)=false:=by simp
  have hk:((k+65:Nat):Int) - 65=(k:Int):=by omega
  by_cases h2:k<4
  ·have HE:Hid (cH (k+65)=(k:Int)):=by unfold Hid cH;rw[if_pos (by omega)];omega
   have d2:decide ((4:Int)<=(k:Int))=false:=by simp;omega
   go_enter Tryz.func27,Tryz.ntmps27;go_wp2;go_ret;exact⟨by rw[HE.out];simp,0,rfl⟩
  ·have HE:Hid (cH (k+65)= -1):=by unfold Hid cH;rw[if_neg (by omega)]
   have d2:decide ((4:Int)<=(k:Int))=true:=by simp;omega
   go_enter Tryz.func27,Tryz.ntmps27;go_wp2;go_ret;exact⟨by rw[HE.out];simp,0,rfl⟩
 ·have HE:Hid (cH c= -1):=by unfold Hid cH;rw[if_neg (by omega)]
  have d1:decide ((c:Int) - 65<0)=true:=by simp;omega
  go_enter Tryz.func27,Tryz.ntmps27;go_wp2;go_ret;exact⟨by rw[HE.out];simp,0,rfl⟩
def sT (c:Nat):Nat:=if c=46 then 0 else if c=45 then 1 else c - 65+2
theorem Ml (c:Nat)(w:World)(hc:c=46\/c=45\/(65<=c/\c<69)):
  Calls Tryz.prog 49 #[.int .u8 (c:Int)] w fun e w'=>e= .returned (.int .u8 (sT c:Int))/\∃q,w'=w.drewN q:=by
 have hcs:c=46\/c=45\/c=65\/c=66\/c=67\/c=68:=by omega
 rcases hcs with rfl | rfl | rfl | rfl | rfl | rfl
 all_goals
  go_enter Tryz.func49,Tryz.ntmps49;go_wp2;go_ret;exact⟨by simp[sT],0,rfl⟩
end Go.Proofs.YtgjgjgihceijnaaGreat
namespace Go.Stn
def jF (pt:Nat->Int)(x:Int):Int:=if x= -1 then -1 else pt x.toNat
def K9 (pt:Nat->Int)(nx:Nat->Nat->Int)(s t k:Nat):Bool:=decide (∀g,g<k->jF pt (nx s g)=jF pt (nx t g))
def bP (pt:Nat->Int)(tk:Nat->Nat)(nx:Nat->Nat->Int)(K s t:Nat):Bool:=decide (pt s=pt t) && (decide (tk s=tk t) && K9 pt nx s t K)
def aX (q:Nat->Nat->Bool)(firsts:List Nat)(s:Nat):Nat->Nat
 | 0=>firsts.length
 | d+1=>if q (firsts.getD (firsts.length - (d+1)) 0) s=true then firsts.length - (d+1)else aX q firsts s d
def dL (q:Nat->Nat->Bool):Nat->Nat->List Nat->List Nat->List Nat×List Nat
 | 0,_,fin,firsts=>(fin,firsts)
 | d+1,s,fin,firsts=>
  if aX q firsts s firsts.length=firsts.length then
   if 100<firsts.length+1 then(fin,firsts++ [s])else dL q d (s+1) (fin++ [firsts.length]) (firsts++ [s])
  else dL q d (s+1) (fin++ [aX q firsts s firsts.length]) firsts
def bW (l:List Nat):Nat->Int:=fun i=>((l.getD i 0:Nat):Int)
def eD (n:Nat)(q:Nat->Nat->Bool):List Nat×List Nat:=dL q n 0 [] []
def mJ (n:Nat)(tk:Nat->Nat)(nx:Nat->Nat->Int)(K:Nat):Nat->List Nat->Nat->Option (List Nat×List Nat)
 | 0,_,_=>none
 | f+1,parts,count=>
  if 100<(eD n (bP (bW parts) tk nx K)).2.length then none
  else if(eD n (bP (bW parts) tk nx K)).2.length=count then some (eD n (bP (bW parts) tk nx K))
  else mJ n tk nx K f (eD n (bP (bW parts) tk nx K)).1 (eD n (bP (bW parts) tk nx K)).2.length
def iD (tk:Nat->Nat)(nx:Nat->Nat->Int)(K:Nat)(fin firsts:List Nat):List (Nat×List Int):=firsts.map fun s=>(tk s,(List.range K).map fun g=>jF (bW fin) (nx s g))
theorem mS (q:Nat->Nat->Bool)(firsts:List Nat)(s:Nat):∀d,aX q firsts s d<=firsts.length:=by
 intro d;induction d with
 | zero=>exact cO _
 | succ k ih=>
  rw[aX];split
  ·omega
  ·exact ih
theorem R7 (q:Nat->Nat->Bool):∀d s fin firsts,(dL q d s fin firsts).2.length<=firsts.length+d/\(dL q d s fin firsts).1.length<=fin.length+d:=by
 intro d;induction d with
 | zero=>intro s fin firsts;simp[dL]
 | succ k ih=>
  intro s fin firsts;rw[dL];split
  ·split
   ·simp
   ·have:=ih (s+1) (fin++ [firsts.length]) (firsts++ [s]);simp at this ⊢;omega
  ·have:=ih (s+1) (fin++ [aX q firsts s firsts.length]) firsts;simp at this ⊢;omega
end Go.Stn
namespace Go.Stn
def A9 (s:ByteArray)(rules many n at_:Nat):Bool:=
 decide (bt s at_<=rules) && decide (∀k,k<many->bt s (at_+(k+1))<n\/bt s (at_+(k+1))=255)
def xM (s:ByteArray)(rules many i:Nat):Bool:=
 decide (i+1<=s.size) && (decide (bt s i<=100) && (decide (bt s i≠0) && (decide (i+1+bt s i*(1+many)<=s.size) &&
  decide (∀st,st<bt s i->A9 s rules many (bt s i) (i+1+st*(1+many))=true))))
theorem pA {s:ByteArray}{rules many n at_:Nat}:A9 s rules many n at_=true↔
  bt s at_<=rules/\∀k,k<many->bt s (at_+(k+1))<n\/bt s (at_+(k+1))=255:=by
 unfold A9;simp only[bT,decide_eq_true_eq]
theorem nN {s:ByteArray}{rules many i:Nat}:xM s rules many i=true↔
  i+1<=s.size/\bt s i<=100/\bt s i≠0/\i+1+bt s i*(1+many)<=s.size/\
   ∀st,st<bt s i->A9 s rules many (bt s i) (i+1+st*(1+many))=true:=by
 unfold xM;simp only[bT,decide_eq_true_eq]
def stN (s:ByteArray)(rules many i:Nat):Nat:=if xM s rules many i=true then bt s i else 0
def vC (s:ByteArray)(rules many i:Nat):Nat:=if xM s rules many i=true then i+1+bt s i*(1+many)else i
theorem Hx {s:ByteArray}{rules many i:Nat}(h:xM s rules many i=true):
  stN s rules many i=bt s i/\vC s rules many i=i+1+bt s i*(1+many):=by
 refine⟨?_, ?_⟩
 ·simp[stN,h]
 ·simp[vC,h]
end Go.Stn
