/- Texts put together: PlLink. -/
import Derived.Test.YtgjgjgihceijnaaG12
namespace Go.Stn
open Go.RowKit
abbrev PartT:=Int×Int×Bool
def partC (p:PartT):List Value:= [.int .i64 p.1,.int .i64 p.2.1,.bool p.2.2]
def part0:PartT:=(0,0,false)
def NodesIn (w:World)(g:Nat)(nodes:List (Int×Int×Int)):Prop:=∀k x,nodes[k]? =some x→w.rangeAt g (k*3) [.int .i64 x.1,.int .i64 x.2.1,.int .i64 x.2.2]
theorem NodesIn.below {w w':World}{g B:Nat}{nodes:List (Int×Int×Int)}(h:NodesIn w g nodes)(hB:Below B w w')(hg:g<B):NodesIn w' g nodes:=fun k x hk=>rangeAt_block (h k x hk) (hB.block g hg)
def nodesOk (nodes:List (Int×Int×Int)):Prop:=∀(k:Nat) (x:Int×Int×Int),nodes[k]? =some x→0≤x.1∧x.1≤5∧(x.1=0→0≤x.2.1∧x.2.1<10)∧(x.1≠0→0≤x.2.1∧x.2.1<k∧0≤x.2.2∧x.2.2<k)
def nodeP (ps:Nat→PartT)(x:Int×Int×Int)(next:Nat→Int):PartT×(Nat→Int):=
 if x.1=0 then wholeP x.1 x.2.1 part0 part0 next else wholeP x.1 x.2.1 (ps x.2.1.toNat) (ps x.2.2.toNat) next
def linkL:List (Int×Int×Int)→Nat→(Nat→PartT)→(Nat→Int)→(Nat→PartT)×(Nat→Int)
 | [],_,ps,next=>(ps,next)
 | x::l,k,ps,next=>linkL l (k+1) (fun i=>if i=k then(nodeP ps x next).1 else ps i) (nodeP ps x next).2
theorem linkL_drop {nodes:List (Int×Int×Int)}{k:Nat}{x:Int×Int×Int}(h:nodes[k]? =some x)(ps:Nat→PartT)(next:Nat→Int):linkL (nodes.drop k) k ps next=linkL (nodes.drop (k+1)) (k+1) (fun i=>if i=k then(nodeP ps x next).1 else ps i) (nodeP ps x next).2:=by
 have e:nodes.drop k=x::nodes.drop (k+1):=by
  obtain⟨hk,he⟩:=List.getElem?_eq_some_iff.1 h
  rw[List.drop_eq_getElem_cons hk,he]
 rw[e,linkL]
def PartsIn (w:World)(pb n:Nat)(ps:Nat→PartT):Prop:=∀j,j<n→w.rangeAt pb (j*3) (partC (ps j))∧w.there pb (j*3) 3
theorem PartsIn.block {w w':World}{pb n:Nat}{ps:Nat→PartT}(h:PartsIn w pb n ps)(hb:w'.heap[pb]? =w.heap[pb]?):PartsIn w' pb n ps:=fun j hj=>⟨rangeAt_block (h j hj).1 hb,there_block (h j hj).2 hb⟩
theorem PartsIn.set {w:World}{pb n:Nat}{ps:Nat→PartT}(h:PartsIn w pb n ps){k:Nat}(hk:k<n)(p:PartT):PartsIn (w.setCells pb (k*3) (partC p)) pb n (fun i=>if i=k then p else ps i):=fun j hj=>by
 refine⟨?_,World.there_setCells (h j hj).2 _ _ _⟩
 by_cases e:j=k
 ·subst e
  simp only[if_pos]
  exact World.rangeAt_setCells_same w pb (j*3) (partC p) (h j hj).2
 ·simp only[if_neg e]
  exact World.rangeAt_setCells_apart (h j hj).1 _ _ _ (.inr (by show j*3+3≤k*3∨k*3+3≤j*3;omega))
end Go.Stn
namespace Go.Proofs.Ytgjgjgihceijnaa
open Go.RowKit Go.Stn
theorem pwhole_any (kd y z:Int)(next:Nat→Int)(l r:PartT)(nb:Nat)(vf vl:Value)(w:World)(hk:0≤kd∧kd≤5)(h0:kd=0→0≤y∧y<10)(hnb:nb<w.heap.size)(h:NetAt w nb vf vl next):
  Calls Try.prog 91 #[.pointer (some ⟨nb,0,none⟩),.agg #[.int .i64 kd,.int .i64 y,.int .i64 z],partV l,partV r] w (WholeSaid w nb vf vl (wholeP kd y l r next)):=by
 have:kd=0∨kd=1∨kd=2∨kd=3∨kd=4∨kd=5:=by omega
 rcases this with rfl | rfl | rfl | rfl | rfl | rfl
 ·obtain⟨p,rfl⟩:∃p:Nat,y=(p:Int):=⟨y.toNat,by have:=h0 rfl;omega⟩
  exact pwhole0 next p (by have:=h0 rfl;omega) z l r nb vf vl w hnb h
 ·exact pwhole1 next y z l r nb vf vl w hnb h
 ·exact pwhole2 next y z l r nb vf vl w hnb h
 ·exact pwhole3 next y z l r nb vf vl w hnb h
 ·exact pwhole4 next y z l r nb vf vl w hnb h
 ·exact pwhole5 next y z l r nb vf vl w hnb h
structure LW (w0 w:World)(n:Nat)(ps:Nat→PartT)(next:Nat→Int)(vr vn vp:Value):Prop where
 bl:Below w0.heap.size w0 w
 fl:w.rangeAt w0.heap.size 0 [vr,vn,vp]
 t1:w.there (w0.heap.size+1) 0 12
 nt:NetAt w (w0.heap.size+1+1) (.slice none 0 0) (.slice none 0 0) next
 pt:PartsIn w (w0.heap.size+1+1+1) n ps
 hz:w0.heap.size+4≤w.heap.size
variable {w0 w w':World} {n:Nat} {ps:Nat→PartT} {next next':Nat→Int} {vr vn vp:Value}
theorem LW.below (h:LW w0 w n ps next vr vn vp)(hB:Below w.heap.size w w'):LW w0 w' n ps next vr vn vp:=by
 have hz:=h.hz
 exact⟨h.bl.trans (hB.mono (by omega)),rangeAt_block h.fl (hB.block _ (by omega)),there_block h.t1 (hB.block _ (by omega)),h.nt.below hB (by omega),h.pt.block (hB.block _ (by omega)),by have:=hB.size;omega⟩
theorem LW.net (h:LW w0 w n ps next vr vn vp)(hg:w.grownBy w' (some (w0.heap.size+1+1)))(hn:NetAt w' (w0.heap.size+1+1) (.slice none 0 0) (.slice none 0 0) next'):LW w0 w' n ps next' vr vn vp:=by
 have hz:=h.hz
 have ne:∀k,k≠w0.heap.size+1+1→some k≠some (w0.heap.size+1+1):=fun k hk e=>by injection e;omega
 exact⟨⟨hg.os.trans h.bl.os,hg.tape.trans h.bl.tape,hg.output.trans h.bl.output,Nat.le_trans h.bl.size hg.size,fun k hk=>(hg.block k (by omega) (ne k (by omega))).trans (h.bl.block k hk)⟩,rangeAt_block h.fl (hg.block _ (by omega) (ne _ (by omega))),there_block h.t1 (hg.block _ (by omega) (ne _ (by omega))),hn,h.pt.block (hg.block _ (by omega) (ne _ (by omega))),by have:=hg.size;omega⟩
theorem LW.part (h:LW w0 w n ps next vr vn vp){k:Nat}(hk:k<n)(p:PartT):LW w0 (w.setCells (w0.heap.size+1+1+1) (k*3) (partC p)) n (fun i=>if i=k then p else ps i) next vr vn vp:=by
 have hz:=h.hz
 have hb:Below (w0.heap.size+1+1+1) w (w.setCells (w0.heap.size+1+1+1) (k*3) (partC p)):=below_setCells _ _ _ _ (Below.refl _ _) (Nat.le_refl _)
 exact⟨h.bl.trans (hb.mono (by omega)),rangeAt_block h.fl (hb.block _ (by omega)),there_block h.t1 (hb.block _ (by omega)),h.nt.below hb (by omega),h.pt.set hk p,by have:=hb.size;omega⟩
structure LX (w0 w:World)(n:Nat)(ps:Nat→PartT)(next:Nat→Int)(fi la:List Int)(vf vl vr vn vp:Value):Prop where
 bl:Below w0.heap.size w0 w
 fl:w.rangeAt w0.heap.size 0 [vr,vn,vp]
 t1:w.there (w0.heap.size+1) 0 12
 nt:NetAt w (w0.heap.size+1+1) vf vl next
 pt:PartsIn w (w0.heap.size+1+1+1) n ps
 rf:w.ownsRow (w0.heap.size+4) 136 1 vf fi.length (intC fi)
 rl:w.ownsRow (w0.heap.size+4) 136 1 vl la.length (intC la)
 ap:∀k,vf.ownBlock=some k→vl.ownBlock=some k→False
 hz:w0.heap.size+4≤w.heap.size
theorem LW.more (h:LW w0 w n ps next vr vn vp):LX w0 w n ps next [] [] (.slice none 0 0) (.slice none 0 0) vr vn vp:=
 ⟨h.bl,h.fl,h.t1,h.nt,h.pt,World.ownsRow_nil _ _ _ _,World.ownsRow_nil _ _ _ _,(fun k hk _=>by cases hk),h.hz⟩
variable {fi la:List Int} {vf vl:Value}
theorem LX.below (h:LX w0 w n ps next fi la vf vl vr vn vp)(hB:Below w.heap.size w w'):LX w0 w' n ps next fi la vf vl vr vn vp:=by
 have hz:=h.hz
 exact⟨h.bl.trans (hB.mono (by omega)),rangeAt_block h.fl (hB.block _ (by omega)),there_block h.t1 (hB.block _ (by omega)),h.nt.below hB (by omega),h.pt.block (hB.block _ (by omega)),row_stay h.rf hB,row_stay h.rl hB,h.ap,by have:=hB.size;omega⟩
theorem NetAt.set0 {w:World}{nb:Nat}{vf vl:Value}{next:Nat→Int}(h:NetAt w nb vf vl next)(u:Value):NetAt (w.setCell ⟨nb,0,none⟩ u) nb u vl next:=
 ⟨World.cell?_setCell_same _ _ _ h.c0,by rw[World.cell?_setCell_other (h:=by intro e;injection e;omega)];exact h.c1,fun k hk=>by rw[World.cell?_setCell_other (h:=by intro e;injection e;omega)];exact h.nx k hk,fun i=>by rw[World.frozen?_setCell];exact h.fz i⟩
theorem NetAt.set1 {w:World}{nb:Nat}{vf vl:Value}{next:Nat→Int}(h:NetAt w nb vf vl next)(u:Value):NetAt (w.setCell ⟨nb,1,none⟩ u) nb vf u next:=
 ⟨by rw[World.cell?_setCell_other (h:=by intro e;injection e;omega)];exact h.c0,World.cell?_setCell_same _ _ _ h.c1,fun k hk=>by rw[World.cell?_setCell_other (h:=by intro e;injection e;omega)];exact h.nx k hk,fun i=>by rw[World.frozen?_setCell];exact h.fz i⟩
theorem LX.moreF {w4:World}(h:LX w0 w n ps next fi la vf vl vr vn vp){o:Obj}{x:Int}{g cap:Nat}
  (hown:w4.ownsRow (w0.heap.size+4) 136 1 (.slice (some ⟨g,0,none⟩) (fi.length+1) cap) (fi.length+1) (intC fi++ [.int .i64 x])) (hgrow:(w.alloc o).grownBy w4 vf.ownBlock) (hat:vf.ownBlock=some g∨g=w.heap.size+1):
  LX w0 (w4.setCell ⟨w0.heap.size+1+1,0,none⟩ (.slice (some ⟨g,0,none⟩) (fi.length+1) cap)) n ps next (fi++ [x]) la (.slice (some ⟨g,0,none⟩) (fi.length+1) cap) vl vr vn vp∧Below (w0.heap.size+4) w w4:=by
 have hz:=h.hz
 have hsz:=hgrow.size
 simp at hsz
 have blk:∀k,k<w.heap.size→vf.ownBlock≠some k→w4.heap[k]? =w.heap[k]? :=fun k hk hv=>(hgrow.block k (by simp;omega) (fun e=>hv e.symm)).trans (Below.heap_alloc w o k hk)
 have hb:Below (w0.heap.size+4) w w4:=⟨hgrow.os,hgrow.tape,hgrow.output,by omega,fun k hk=>blk k (by omega) (fun e=>by have:=(h.rf.lt k e).1;omega)⟩
 have hbs:Below (w0.heap.size+1+1) w4 (w4.setCell ⟨w0.heap.size+1+1,0,none⟩ (.slice (some ⟨g,0,none⟩) (fi.length+1) cap)):=below_cell (Nat.le_refl _)
 have hset:∀k,k≠w0.heap.size+1+1→(w4.setCell ⟨w0.heap.size+1+1,0,none⟩ (.slice (some ⟨g,0,none⟩) (fi.length+1) cap)).heap[k]? =w4.heap[k]? :=fun k hk=>Below.heap_setCell _ _ _ _ hk
 refine⟨⟨(h.bl.trans (hb.mono (by omega))).trans (hbs.mono (by omega)),rangeAt_block (rangeAt_block h.fl (hb.block _ (by omega))) (hset _ (by omega)),there_block (there_block h.t1 (hb.block _ (by omega))) (hset _ (by omega)),(h.nt.below hb (by omega)).set0 _,(h.pt.block (hb.block _ (by omega))).block (hset _ (by omega)), ?_, ?_,fun k h1 h2=> ?_,by simp[World.setCell];omega⟩,hb⟩
 ·rw[intC_snoc,List.length_append];exact ownsRow_setCell_below hown (by show w0.heap.size+1+1<w0.heap.size+4;omega) _
 ·exact ownsRow_setCell_below (row_top h.rl (fun k hk=>blk k (h.rl.lt k hk).2 (fun e=>h.ap k e hk))) (by show w0.heap.size+1+1<w0.heap.size+4;omega) _
 ·have e:g=k:=by simpa[Value.ownBlock]using h1
  subst e
  rcases hat with q | q
  ·exact h.ap g q h2
  ·have:=(h.rl.lt g h2).2;omega
theorem LX.moreL {w4:World}(h:LX w0 w n ps next fi la vf vl vr vn vp){o:Obj}{x:Int}{g cap:Nat}
  (hown:w4.ownsRow (w0.heap.size+4) 136 1 (.slice (some ⟨g,0,none⟩) (la.length+1) cap) (la.length+1) (intC la++ [.int .i64 x])) (hgrow:(w.alloc o).grownBy w4 vl.ownBlock) (hat:vl.ownBlock=some g∨g=w.heap.size+1):
  LX w0 (w4.setCell ⟨w0.heap.size+1+1,1,none⟩ (.slice (some ⟨g,0,none⟩) (la.length+1) cap)) n ps next fi (la++ [x]) vf (.slice (some ⟨g,0,none⟩) (la.length+1) cap) vr vn vp∧Below (w0.heap.size+4) w w4:=by
 have hz:=h.hz
 have hsz:=hgrow.size
 simp at hsz
 have blk:∀k,k<w.heap.size→vl.ownBlock≠some k→w4.heap[k]? =w.heap[k]? :=fun k hk hv=>(hgrow.block k (by simp;omega) (fun e=>hv e.symm)).trans (Below.heap_alloc w o k hk)
 have hb:Below (w0.heap.size+4) w w4:=⟨hgrow.os,hgrow.tape,hgrow.output,by omega,fun k hk=>blk k (by omega) (fun e=>by have:=(h.rl.lt k e).1;omega)⟩
 have hbs:Below (w0.heap.size+1+1) w4 (w4.setCell ⟨w0.heap.size+1+1,1,none⟩ (.slice (some ⟨g,0,none⟩) (la.length+1) cap)):=below_cell (Nat.le_refl _)
 have hset:∀k,k≠w0.heap.size+1+1→(w4.setCell ⟨w0.heap.size+1+1,1,none⟩ (.slice (some ⟨g,0,none⟩) (la.length+1) cap)).heap[k]? =w4.heap[k]? :=fun k hk=>Below.heap_setCell _ _ _ _ hk
 refine⟨⟨(h.bl.trans (hb.mono (by omega))).trans (hbs.mono (by omega)),rangeAt_block (rangeAt_block h.fl (hb.block _ (by omega))) (hset _ (by omega)),there_block (there_block h.t1 (hb.block _ (by omega))) (hset _ (by omega)),(h.nt.below hb (by omega)).set1 _,(h.pt.block (hb.block _ (by omega))).block (hset _ (by omega)), ?_, ?_,fun k h1 h2=> ?_,by simp[World.setCell];omega⟩,hb⟩
 ·exact ownsRow_setCell_below (row_top h.rf (fun k hk=>blk k (h.rf.lt k hk).2 (fun e=>h.ap k hk e))) (by show w0.heap.size+1+1<w0.heap.size+4;omega) _
 ·rw[intC_snoc,List.length_append];exact ownsRow_setCell_below hown (by show w0.heap.size+1+1<w0.heap.size+4;omega) _
 ·have e:g=k:=by simpa[Value.ownBlock]using h2
  subst e
  rcases hat with q | q
  ·exact h.ap g h1 q
  ·have:=(h.rf.lt g h1).2;omega
end Go.Proofs.Ytgjgjgihceijnaa

