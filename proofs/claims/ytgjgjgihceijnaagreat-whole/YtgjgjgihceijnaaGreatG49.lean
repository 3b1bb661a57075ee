import Derived.Test.YtgjgjgihceijnaaGreatG47
open List renaming getElem?_eq_getElem->aL,getD_eq_getElem?_getD->aT
open Go.World renaming cell?_of_block->aO,frozen?_of_block->bC,cell?_setCell_other->a9,cell?_setCell_same->bK,frozen?_setCell->bM,setCell->bN,cell?_alloc_at->cF
open Go.RowKit.Below renaming heap_alloc->aR,refl->cN
open Go.Value renaming ownBlock->bS
open Nat renaming le_refl->cL,add_zero->cP,mul_one->cR
namespace Go.Proofs.YtgjgjgihceijnaaGreat
open Go.RowKit Go.Stn
structure TM (gb B:Nat)(w:World)(O:Nat->Nat)(vO vT:Value)(Of:List Int)(rows:List (Nat->Int))(cO cT:List (List Value)):Prop where
 c0:w.cell? ⟨gb,0,none⟩=some vO
 c1:w.cell? ⟨gb,1,none⟩=some vT
 fz:∀i,w.frozen? ⟨gb,i,none⟩=false
 wt:O gb=1/\gb<w.heap.size/\B<=gb
 rO:mG rX 3 1 w B (fun g=>O g=0) vO Of cO
 rT:mG pY 59 1 w B (fun g=>O g=0) vT rows cT
 tO:∀k,vO.ownBlock=some k->O k=2
 tT:∀k,vT.ownBlock=some k->O k=3
 fr:∀k,w.heap.size<=k->O k=0
section
variable {gb B:Nat} {w w':World} {O O':Nat->Nat} {vO vT:Value} {Of:List Int} {rows:List (Nat->Int)} {cO cT:List (List Value)}
theorem TM.keep (h:TM gb B w O vO vT Of rows cO cT)(hz:w.heap.size<=w'.heap.size)(hB:∀k,k<w.heap.size->O k≠5->w'.heap[k]? =w.heap[k]? /\O' k=O k)(hf:∀k,w'.heap.size<=k->O' k=0):TM gb B w' O' vO vT Of rows cO cT:=by
 obtain⟨o1,b1,b2⟩:=h.wt;obtain⟨e1,e2⟩:=hB gb b1 (by omega);have hP:∀k,O k=0->k<w.heap.size->w'.heap[k]? =w.heap[k]? /\O' k=0:=fun k h0 hk=>by
  obtain⟨a,b⟩:=hB k hk (by omega);exact⟨a,by omega⟩
 exact⟨(aO (w:=w) (a:=⟨gb,0,none⟩) e1).trans h.c0,(aO (w:=w) (a:=⟨gb,1,none⟩) e1).trans h.c1,fun i=>(bC (w:=w) (a:=⟨gb,i,none⟩) e1).trans (h.fz i),⟨by omega,by omega,b2⟩,
  h.rO.keep rX.keeps hz (fun k hk=>(hB k (h.rO.1.lt k hk).2 (by have:=h.tO k hk;omega)).1) hP,h.rT.keep pY.keeps hz (fun k hk=>(hB k (h.rT.1.lt k hk).2 (by have:=h.tT k hk;omega)).1) hP,
  fun k hk=>by have:=h.tO k hk;have:=(hB k (h.rO.1.lt k hk).2 (by omega)).2;omega,fun k hk=>by have:=h.tT k hk;have:=(hB k (h.rT.1.lt k hk).2 (by omega)).2;omega,hf⟩
theorem TM.below (h:TM gb B w O vO vT Of rows cO cT)(hB:Below w.heap.size w w'):TM gb B w' O vO vT Of rows cO cT:=h.keep hB.size (fun k hk _=>⟨hB.block k hk,rfl⟩) (fun k hk=>h.fr k (Nat.le_trans hB.size hk))
theorem TM.pushO (h:TM gb B w O vO vT Of rows cO cT){w4:World}{o:Obj}{g cap n:Nat}{u:List Value}{x:Int}(hn:Of.length=n)(hu:rX w (fun g=>O g=0) u x)(hul:u.length=1)
  (hown:w4.ownsRow B 3 1 (.slice (some ⟨g,0,none⟩) (n+1) cap) (n+1) (cO.flatten++u)) (hgr:(w.alloc o).grownBy w4 vO.ownBlock) (hat:vO.ownBlock=some g\/g=w.heap.size+1):
  TM gb B (w4.setCell ⟨gb,0,none⟩ (.slice (some ⟨g,0,none⟩) (n+1) cap)) (fun k=>if k=g then 2 else O k) (.slice (some ⟨g,0,none⟩) (n+1) cap) vT (Of++ [x]) rows (cO++ [u]) cT/\
  (∀k,k<w.heap.size->O k≠1->O k≠2->(w4.setCell ⟨gb,0,none⟩ (.slice (some ⟨g,0,none⟩) (n+1) cap)).heap[k]? =w.heap[k]? /\(if k=g then 2 else O k)=O k)/\w.heap.size<=w4.heap.size/\∀w0,Below B w0 w->Below B w0 (w4.setCell ⟨gb,0,none⟩ (.slice (some ⟨g,0,none⟩) (n+1) cap)):=by
 obtain⟨o1,b1,b2⟩:=h.wt;have hsz:=hgr.size;have ez:(w.alloc o).heap.size=w.heap.size+1:=by simp
 have hlt4:=(hown.lt g rfl)
 have hz5:(w4.setCell ⟨gb,0,none⟩ (.slice (some ⟨g,0,none⟩) (n+1) cap)).heap.size=w4.heap.size:=by simp[bN]
 have hog:g<w.heap.size->O g=2:=fun hg=>by
  rcases hat with e | e
  ·exact h.tO g e
  ·omega
 have hgb:g≠gb:=fun e=>by
  have:=hog (by omega);rw[e]at this;omega
 have hkp:∀k,k<w.heap.size->O k≠1->O k≠2->(w4.setCell ⟨gb,0,none⟩ (.slice (some ⟨g,0,none⟩) (n+1) cap)).heap[k]? =w.heap[k]? /\(if k=g then 2 else O k)=O k:=fun k hk h1 h2=>by
  have hkB:k≠gb:=fun e=>h1 (by rw[e];exact o1)
  have hkg:k≠g:=fun e=>h2 (by rw[e];exact hog (by omega))
  exact⟨(cB w4 gb 0 _ hkB).trans ((hgr.block k (by omega) (fun e=>h2 (h.tO k e.symm))).trans (aR w o k hk)),if_neg hkg⟩
 have hB4:w4.heap[gb]? =w.heap[gb]? :=(hgr.block gb (by omega) (fun e=>by have:=h.tO gb e.symm;omega)).trans (aR w o gb b1);have hc:∀i,i≠0->(w4.setCell ⟨gb,0,none⟩ (.slice (some ⟨g,0,none⟩) (n+1) cap)).cell? ⟨gb,i,none⟩=w.cell? ⟨gb,i,none⟩:=fun i hi=>by
  rw[a9 (h:=by intro e';injection e';omega)];exact aO (w:=w) (a:=⟨gb,i,none⟩) hB4
 have hP:∀k,O k=0->k<w.heap.size->(w4.setCell ⟨gb,0,none⟩ (.slice (some ⟨g,0,none⟩) (n+1) cap)).heap[k]? =w.heap[k]? /\(if k=g then 2 else O k)=0:=fun k h0 hk=>by
  obtain⟨a,b⟩:=hkp k hk (by omega) (by omega);exact⟨a,by rw[b];exact h0⟩
 have hrow:=h.rO.app rX.keeps (P':=fun k=>(if k=g then 2 else O k)=0) hn hu hul hown hgr (fun k h0 hk=>⟨fun e=>by have:=h.tO k e;omega,(hP k h0 hk).2⟩);have hrow2:mG rX 3 1 (w4.setCell ⟨gb,0,none⟩ (.slice (some ⟨g,0,none⟩) (n+1) cap)) B (fun k=>(if k=g then 2 else O k)=0) (.slice (some ⟨g,0,none⟩) (n+1) cap) (Of++ [x]) (cO++ [u]):=
  hrow.keep rX.keeps (by omega) (fun k hk=>cB w4 gb 0 _ (fun e=>by
   have e2:g=k:=by simpa[bS]using hk
   exact hgb (by rw[e2];exact e))) (fun k h0 _=>⟨cB w4 gb 0 _ (fun e=>by
   rw[e,if_neg (Ne.symm hgb)]at h0;omega),h0⟩)
 refine⟨⟨bK _ _ _ ((aO (w:=w) (a:=⟨gb,0,none⟩) hB4).trans h.c0),(hc 1 (by omega)).trans h.c1,fun i=>by rw[bM];exact(bC (w:=w) (a:=⟨gb,i,none⟩) hB4).trans (h.fz i),⟨(if_neg (Ne.symm hgb)).trans o1,by omega,b2⟩,hrow2,h.rT.keep pY.keeps (by omega) (fun k hk=>(hkp k (h.rT.1.lt k hk).2 (by have:=h.tT k hk;omega) (by have:=h.tT k hk;omega)).1) hP,fun k hk=>by
  have e2:g=k:=by simpa[bS]using hk
  exact if_pos e2.symm,fun k hk=>by
  have h3:=h.tT k hk;have h4:=(hkp k (h.rT.1.lt k hk).2 (by omega) (by omega)).2;exact h4.trans h3,fun k hk=> ?_⟩,hkp,by omega,fun w0 hb0=> ?_⟩
 ·have:k≠g:=by omega
  simp only[if_neg this];exact h.fr k (by omega)
 ·have hs:=(cN B w4).setCell (p:=⟨gb,0,none⟩) b2 (.slice (some ⟨g,0,none⟩) (n+1) cap);refine⟨hs.os.trans (hgr.os.trans hb0.os),hs.tape.trans (hgr.tape.trans hb0.tape),hs.output.trans (hgr.output.trans hb0.output),by have:=hb0.size;omega,fun k hk=> ?_⟩;have h1:=hs.block k hk;have hkw:k<w.heap.size:=by omega
  exact h1.trans (((hgr.block k (by omega) (fun e=>by have:=(h.rO.1.lt k e.symm).1;omega)).trans (aR w o k hkw)).trans (hb0.block k hk))
theorem TM.pushT (h:TM gb B w O vO vT Of rows cO cT){w4:World}{o:Obj}{g cap n:Nat}{u:List Value}{x:Nat->Int}(hn:rows.length=n)(hu:pY w (fun g=>O g=0) u x)(hul:u.length=1)
  (hown:w4.ownsRow B 59 1 (.slice (some ⟨g,0,none⟩) (n+1) cap) (n+1) (cT.flatten++u)) (hgr:(w.alloc o).grownBy w4 vT.ownBlock) (hat:vT.ownBlock=some g\/g=w.heap.size+1):
  TM gb B (w4.setCell ⟨gb,1,none⟩ (.slice (some ⟨g,0,none⟩) (n+1) cap)) (fun k=>if k=g then 3 else O k) vO (.slice (some ⟨g,0,none⟩) (n+1) cap) Of (rows++ [x]) cO (cT++ [u])/\
  (∀k,k<w.heap.size->O k≠1->O k≠3->(w4.setCell ⟨gb,1,none⟩ (.slice (some ⟨g,0,none⟩) (n+1) cap)).heap[k]? =w.heap[k]? /\(if k=g then 3 else O k)=O k)/\w.heap.size<=w4.heap.size/\∀w0,Below B w0 w->Below B w0 (w4.setCell ⟨gb,1,none⟩ (.slice (some ⟨g,0,none⟩) (n+1) cap)):=by
 obtain⟨o1,b1,b2⟩:=h.wt;have hsz:=hgr.size;have ez:(w.alloc o).heap.size=w.heap.size+1:=by simp
 have hlt4:=(hown.lt g rfl)
 have hz5:(w4.setCell ⟨gb,1,none⟩ (.slice (some ⟨g,0,none⟩) (n+1) cap)).heap.size=w4.heap.size:=by simp[bN]
 have hog:g<w.heap.size->O g=3:=fun hg=>by
  rcases hat with e | e
  ·exact h.tT g e
  ·omega
 have hgb:g≠gb:=fun e=>by
  have:=hog (by omega);rw[e]at this;omega
 have hkp:∀k,k<w.heap.size->O k≠1->O k≠3->(w4.setCell ⟨gb,1,none⟩ (.slice (some ⟨g,0,none⟩) (n+1) cap)).heap[k]? =w.heap[k]? /\(if k=g then 3 else O k)=O k:=fun k hk h1 h2=>by
  have hkB:k≠gb:=fun e=>h1 (by rw[e];exact o1)
  have hkg:k≠g:=fun e=>h2 (by rw[e];exact hog (by omega))
  exact⟨(cB w4 gb 1 _ hkB).trans ((hgr.block k (by omega) (fun e=>h2 (h.tT k e.symm))).trans (aR w o k hk)),if_neg hkg⟩
 have hB4:w4.heap[gb]? =w.heap[gb]? :=(hgr.block gb (by omega) (fun e=>by have:=h.tT gb e.symm;omega)).trans (aR w o gb b1);have hc:∀i,i≠1->(w4.setCell ⟨gb,1,none⟩ (.slice (some ⟨g,0,none⟩) (n+1) cap)).cell? ⟨gb,i,none⟩=w.cell? ⟨gb,i,none⟩:=fun i hi=>by
  rw[a9 (h:=by intro e';injection e';omega)];exact aO (w:=w) (a:=⟨gb,i,none⟩) hB4
 have hP:∀k,O k=0->k<w.heap.size->(w4.setCell ⟨gb,1,none⟩ (.slice (some ⟨g,0,none⟩) (n+1) cap)).heap[k]? =w.heap[k]? /\(if k=g then 3 else O k)=0:=fun k h0 hk=>by
  obtain⟨a,b⟩:=hkp k hk (by omega) (by omega);exact⟨a,by rw[b];exact h0⟩
 have hrow:=h.rT.app pY.keeps (P':=fun k=>(if k=g then 3 else O k)=0) hn hu hul hown hgr (fun k h0 hk=>⟨fun e=>by have:=h.tT k e;omega,(hP k h0 hk).2⟩);have hrow2:mG pY 59 1 (w4.setCell ⟨gb,1,none⟩ (.slice (some ⟨g,0,none⟩) (n+1) cap)) B (fun k=>(if k=g then 3 else O k)=0) (.slice (some ⟨g,0,none⟩) (n+1) cap) (rows++ [x]) (cT++ [u]):=
  hrow.keep pY.keeps (by omega) (fun k hk=>cB w4 gb 1 _ (fun e=>by
   have e2:g=k:=by simpa[bS]using hk
   exact hgb (by rw[e2];exact e))) (fun k h0 _=>⟨cB w4 gb 1 _ (fun e=>by
   rw[e,if_neg (Ne.symm hgb)]at h0;omega),h0⟩)
 refine⟨⟨(hc 0 (by omega)).trans h.c0,bK _ _ _ ((aO (w:=w) (a:=⟨gb,1,none⟩) hB4).trans h.c1),fun i=>by rw[bM];exact(bC (w:=w) (a:=⟨gb,i,none⟩) hB4).trans (h.fz i),⟨(if_neg (Ne.symm hgb)).trans o1,by omega,b2⟩,h.rO.keep rX.keeps (by omega) (fun k hk=>(hkp k (h.rO.1.lt k hk).2 (by have:=h.tO k hk;omega) (by have:=h.tO k hk;omega)).1) hP,hrow2,fun k hk=>by
  have h3:=h.tO k hk;have h4:=(hkp k (h.rO.1.lt k hk).2 (by omega) (by omega)).2;exact h4.trans h3,fun k hk=>by
  have e2:g=k:=by simpa[bS]using hk
  exact if_pos e2.symm,fun k hk=> ?_⟩,hkp,by omega,fun w0 hb0=> ?_⟩
 ·have:k≠g:=by omega
  simp only[if_neg this];exact h.fr k (by omega)
 ·have hs:=(cN B w4).setCell (p:=⟨gb,1,none⟩) b2 (.slice (some ⟨g,0,none⟩) (n+1) cap);refine⟨hs.os.trans (hgr.os.trans hb0.os),hs.tape.trans (hgr.tape.trans hb0.tape),hs.output.trans (hgr.output.trans hb0.output),by have:=hb0.size;omega,fun k hk=> ?_⟩;have h1:=hs.block k hk;have hkw:k<w.heap.size:=by omega
  exact h1.trans (((hgr.block k (by omega) (fun e=>by have:=(h.rT.1.lt k e.symm).1;omega)).trans (aR w o k hkw)).trans (hb0.block k hk))
theorem TM.set (h:TM gb B w O vO vT Of rows cO cT){rb:Nat}(ho:O rb=5)(j:Nat)(x:Value):TM gb B (w.setCell ⟨rb,j,none⟩ x) O vO vT Of rows cO cT:=
 h.keep (by simp[bN]) (fun k _ h5=>⟨cB w rb j _ (fun e=>h5 (by rw[e];exact ho)),rfl⟩) (fun k hk=>h.fr k (by simpa[bN]using hk))
theorem TM.done (h:TM gb B w O vO vT Of rows cO cT){rb:Nat}{f:Nat->Int}(hc:CR w O B rb f 256):TM gb B w (fun k=>if k=rb then 0 else O k) vO vT Of rows cO cT/\pY w (fun g=>(if g=rb then 0 else O g)=0) [.slice (some ⟨rb,0,none⟩) 256 256] f:=by
 obtain⟨o1,b1,b2⟩:=hc.wt;exact⟨h.keep (cL _) (fun k _ h5=>⟨rfl,if_neg (fun e=>h5 (by rw[e];exact o1))⟩) (fun k hk=>by
  have:k≠rb:=by omega
  simp only[if_neg this];exact h.fr k hk),rb,rfl,if_pos rfl,b1,hc.c⟩
theorem TM.start (w:World):TM w.heap.size w.heap.size (w.alloc (.cells #[.slice none 0 0,.slice none 0 0] 68)) (fun k=>if k=w.heap.size then 1 else if k<w.heap.size then 5 else 0) (.slice none 0 0) (.slice none 0 0) [] [] [] []:=by
 have hz:(w.alloc (.cells #[.slice none 0 0,.slice none 0 0] 68)).heap.size=w.heap.size+1:=by simp
 exact⟨(cF _ _ _ 0 rfl).trans rfl,(cF _ _ _ 1 rfl).trans rfl,fun i=>World.frozen?_alloc_at _ _ _ i rfl,⟨if_pos rfl,by omega,cL _⟩,mG.start _ _ _,mG.start _ _ _,fun k e=>(by cases e),fun k e=>(by cases e),fun k hk=>by rw[if_neg (by omega),if_neg (by omega)]⟩
theorem TM.view (h:TM gb B w O vO vT Of rows cO cT){n:Nat}(hn:0<n)(h1:Of.length=n)(h2:rows.length=n):TbV w vO vT n (fun i=>Of.getD i 0) (fun i=>rows.getD i (fun _=>0)):=by
 obtain⟨gO,qO,_,eO,_,bO,_⟩:=h.rO.at (aL (i:=0) (by omega));obtain⟨gT,qT,_,eT,_,bT,_⟩:=h.rT.at (aL (i:=0) (by omega));have hT:∀i,i<n->∃g,w.cell? ⟨gT,i,none⟩=some (.slice (some ⟨g,0,none⟩) 256 256)/\g<w.heap.size/\∀b,b<256->w.cell? ⟨g,b,none⟩=some (.int .i64 (rows.getD i (fun _=>0) b)):=fun i hi=>by
  have hg:=aL (l:=rows) (i:=i) (by omega);obtain⟨g2,q2,c,e2,_,_,⟨g,hc,_,hg3,hg4⟩,_,hcell⟩:=h.rT.at hg;rw[eT]at e2;injection e2 with e3 _ _;injection e3 with e3;injection e3 with e3 _;subst e3;refine⟨g, ?_,hg3,fun b hb=> ?_⟩
  ·have:=hcell 0 _ (by rw[hc];rfl);rw[cR,cP]at this;exact this
  ·rw[hg4 b hb,aT,hg];rfl
 obtain⟨rw,hrw2⟩:=Iu hT;refine⟨gO,qO,gT,qT,rw,by rw[eO,h1],by rw[eT,h2],⟨bO,bT,fun s hs=>(hrw2 s hs).2.1⟩,fun i hi=> ?_,fun i hi=>(hrw2 i hi).1,fun i b hi hb=>(hrw2 i hi).2.2 b hb⟩;have hg:=aL (l:=Of) (i:=i) (by omega);obtain⟨g2,q2,c,e2,_,_,hc,_,hcell⟩:=h.rO.at hg;rw[eO]at e2;injection e2 with e3 _ _;injection e3 with e3;injection e3 with e3 _;subst e3;have hc:c= [.int .i64 _]:=hc;have:=hcell 0 _ (by rw[hc];rfl);rw[cR,cP]at this;rw[this];show _=some (Value.int IntKind.i64 (Of.getD i 0));rw[aT,hg]
 rfl
end
end Go.Proofs.YtgjgjgihceijnaaGreat
namespace Go.Proofs.YtgjgjgihceijnaaGreat
open Go.RowKit Go.Stn
structure KS (W wr:World)(sb n:Nat)(state:Nat->Int)(m:Nat)(y:Value)(first:List Nat):Prop where
 os:wr.os=W.os
 tape:wr.tape=W.tape
 output:wr.output=W.output
 sz:W.heap.size<=wr.heap.size
 bk:∀k,k<W.heap.size->k≠sb->wr.heap[k]? =W.heap[k]?
 c:∀p,p<m->wr.cell? ⟨sb,p,none⟩=some (.int .i64 (state p))
 a:∀p,p<n->∃x:Int,wr.cell? ⟨sb,p,none⟩=some (.int .i64 x)
 fz:∀i,wr.frozen? ⟨sb,i,none⟩=false
 ro:wr.ownsRow W.heap.size 3 1 y first.length (dP first)
 b:sb<W.heap.size
section
variable {W wr:World} {sb n m:Nat} {state:Nat->Int} {y:Value} {first:List Nat}
theorem KS.start (hb:sb<W.heap.size)(ha:∀p,p<n->∃x:Int,W.cell? ⟨sb,p,none⟩=some (.int .i64 x))(hf:∀i,W.frozen? ⟨sb,i,none⟩=false)(state:Nat->Int):KS W W sb n state 0 (.slice none 0 0) []:=
 ⟨rfl,rfl,rfl,cL _,fun _ _ _=>rfl,fun p hp=>by omega,ha,hf,World.ownsRow_nil _ _ _ 1,hb⟩
theorem KS.put (h:KS W wr sb n state m y first)(hp:m<n)(t:Int):KS W (wr.setCell ⟨sb,m,none⟩ (.int .i64 t)) sb n (G1 state m t) (m+1) y first:=by
 have hs:=(cN 0 wr).setCell (p:=⟨sb,m,none⟩) (Nat.zero_le _) (.int .i64 t);have hz:(wr.setCell ⟨sb,m,none⟩ (.int .i64 t)).heap.size=wr.heap.size:=by simp[bN]
 have hb:=h.b;have hsz:=h.sz;have hk:∀k,k≠sb->(wr.setCell ⟨sb,m,none⟩ (.int .i64 t)).heap[k]? =wr.heap[k]? :=fun k hne=>cB wr sb m _ hne
 obtain⟨x,hx⟩:=h.a m hp;have hc:∀j,j≠m->(wr.setCell ⟨sb,m,none⟩ (.int .i64 t)).cell? ⟨sb,j,none⟩=wr.cell? ⟨sb,j,none⟩:=fun j hj=>a9 _ _ _ _ (by intro e1;injection e1;omega)
 have hsm:(wr.setCell ⟨sb,m,none⟩ (.int .i64 t)).cell? ⟨sb,m,none⟩=some (.int .i64 t):=bK _ _ _ hx;refine⟨hs.os.trans h.os,hs.tape.trans h.tape,hs.output.trans h.output,by omega,fun k hk2 hne=>(hk k hne).trans (h.bk k hk2 hne),fun p hp2=> ?_,fun p hp2=> ?_,fun i=>by rw[bM];exact h.fz i,cV h.ro (fun k hk2=>hk k (by have:=(h.ro.lt k hk2).1;omega)),hb⟩
 ·by_cases e:p=m
  ·rw[e,hsm,nA]
  ·rw[hc p e,iP e];exact h.c p (by omega)
 ·by_cases e:p=m
  ·rw[e];exact⟨t,hsm⟩
  ·rw[hc p e];exact h.a p hp2
theorem KS.again {t0:Int}(h:KS W wr sb n (G1 state m t0) (m+1) y first)(hp:m<n)(t:Int):KS W (wr.setCell ⟨sb,m,none⟩ (.int .i64 t)) sb n (G1 state m t) (m+1) y first:=by
 have h0:KS W wr sb n state m y first:=⟨h.os,h.tape,h.output,h.sz,h.bk,fun p hp2=>by rw[h.c p (by omega),iP (by omega)],h.a,h.fz,h.ro,h.b⟩
 exact h0.put hp t
theorem KS.app (h:KS W wr sb n state m y first){w4:World}{o:Obj}{g cap k v:Nat}(hk:first.length=k)(hown:w4.ownsRow W.heap.size 3 1 (.slice (some ⟨g,0,none⟩) (k+1) cap) (k+1) (dP first++ [.int .i64 (v:Int)]))(hgr:(wr.alloc o).grownBy w4 y.ownBlock):KS W w4 sb n state m (.slice (some ⟨g,0,none⟩) (k+1) cap) (first++ [v]):=by
 subst hk;have hb:=h.b;have hsz:=h.sz;have hsz2:=hgr.size;have ez:(wr.alloc o).heap.size=wr.heap.size+1:=by simp
 have hkp:∀k,k<W.heap.size->w4.heap[k]? =wr.heap[k]? :=fun k hk=>(hgr.block k (by omega) (fun e=>by have:=(h.ro.lt k e.symm).1;omega)).trans (aR wr o k (by omega))
 have hsb:=hkp sb hb;refine⟨hgr.os.trans h.os,hgr.tape.trans h.tape,hgr.output.trans h.output,by omega,fun k hk hne=>(hkp k hk).trans (h.bk k hk hne),fun p hp=>(aO (w:=wr) (a:=⟨sb,p,none⟩) hsb).trans (h.c p hp),fun p hp=> ?_,fun i=>(bC (w:=wr) (a:=⟨sb,i,none⟩) hsb).trans (h.fz i),by unfold dP at*;rw[List.length_append,List.length_singleton,List.map_append];exact hown,hb⟩;obtain⟨x,hx⟩:=h.a p hp;exact⟨x,(aO (w:=wr) (a:=⟨sb,p,none⟩) hsb).trans hx⟩
end
def Vt (d:Nat->Nat->Bool)(first:List Nat)(m s:Nat)(t:Int):Prop:=(t= -1/\∀(s' f:Nat),s'<s->first[s']? =some f->d f m=true)\/∃s0 f:Nat,t=(s0:Int)/\first[s0]? =some f/\d f m=false
theorem GI.rep {N:List RN}{tops ks:List Nat}{l0:List LfT}{Ls:List (List LfT)}{Of:List Int}{To:Nat->Nat->Int}(hf:eC N tops ks){lw:List Nat}(hlw:lw.length=256)(hlo:uX N lw)(h:GI N tops l0 Ls Of To Ls.length 0):∀b,b<256->∃k,k<256/\lw[k]? =some k/\∀p,p<Ls.length->To p b=To p k:=fun b hb=>by
 have hx:=aL (l:=lw) (i:=b) (by omega);obtain⟨h1,h2,h3⟩:=hlo b _ hx;refine⟨_,by omega,h2,fun p hp=> ?_⟩;have hl:=aL hp;have ha:=h.lead p b _ ⟨hb,.inl hp⟩ hl;have hb2:=h.lead p (lw[b]'(by omega)) _ ⟨by omega,.inl hp⟩ hl;have he:=Q5 hf.cl h3 (Ls[p]'hp);unfold C8 at ha hb2;rw[he]at hb2;rcases ha with⟨a1,a2⟩ | ⟨k,l',a1,a2,a3,a4,a5⟩<;> rcases hb2 with⟨b1,b2⟩ | ⟨k',l'',b1,b2,b3,b4,b5⟩
 ·rw[a2,b2]
 ·exact absurd a1 b4
 ·exact absurd b1 a4
 ·have hkk:k=k':=by
   rcases Nat.lt_trichotomy k k' with e | e | e
   ·exact absurd (fun x=>(a5 x).trans (b5 x).symm) (h.dif k k' l' l'' a2 e a3 b3)
   ·exact e
   ·exact absurd (fun x=>(b5 x).trans (a5 x).symm) (h.dif k' k l'' l' b2 e b3 a3)
  rw[a1,b1,hkk]
theorem GI.ofs {N:List RN}{tops ks:List Nat}{l0:List LfT}{Ls:List (List LfT)}{Of:List Int}{To:Nat->Nat->Int}{p b:Nat}(hf:eC N tops ks)(h:GI N tops l0 Ls Of To p b):∀i,i<Ls.length-> -1<=Of.getD i 0/\Of.getD i 0<8:=fun i hi=>by
 by_cases e:i=0
 ·rw[e,aT,h.zo];exact⟨by decide,by decide⟩
 ·have hl:=aL hi;rw[aT,h.of i _ (by omega) hl];have:=Lw (N:=N) (l:=Ls[i]'hi) (R:=8) (fun x hx=>by
   have:=(hf.bnd ((h.ok i _ (by omega) hl).2.2 x hx).ub).2.2;have:=hf.r8;omega)
  exact this
end Go.Proofs.YtgjgjgihceijnaaGreat
