import Derived.Test.YtgjgjgihceijnaaGreatG41
import Derived.Test.YtgjgjgihceijnaaGreatG42
open Go.World renaming cell?_of_block->aL,frozen?_of_block->aR,cell?_setCell_other->bC,cell?_setCell_same->a9,frozen?_setCell->bK,setCell->bM
open Go.RowKit.Below renaming heap_alloc->aO,refl->cF
open Go.Value renaming ownBlock->aT
open List renaming getElem?_eq_some_iff->bN,length_singleton->bO,getElem?_of_mem->bT,mem_singleton->cN,length_append->cP
open Nat renaming le_refl->bS
namespace Go.Proofs.YtgjgjgihceijnaaGreat
open Go.RowKit Go.Stn
structure GM (gb B:Nat)(w:World)(O:Nat->Nat)(vL vO vT:Value)(Ls:List (List LfT))(Of:List Int)(rows:List (Nat->Int))(cL cO cT:List (List Value)):Prop where
 c0:w.cell? ⟨gb,0,none⟩=some vL
 c1:w.cell? ⟨gb,1,none⟩=some vO
 c2:w.cell? ⟨gb,2,none⟩=some vT
 fz:∀i,w.frozen? ⟨gb,i,none⟩=false
 wt:O gb=1/\gb<w.heap.size/\B<=gb
 rL:mG C5 145 1 w B (fun g=>O g=0) vL Ls cL
 rO:mG rX 3 1 w B (fun g=>O g=0) vO Of cO
 rT:mG pY 59 1 w B (fun g=>O g=0) vT rows cT
 tL:∀k,vL.ownBlock=some k->O k=2
 tO:∀k,vO.ownBlock=some k->O k=3
 tT:∀k,vT.ownBlock=some k->O k=4
 fr:∀k,w.heap.size<=k->O k=0
section
variable {gb B:Nat} {w w':World} {O O':Nat->Nat} {vL vO vT:Value} {Ls:List (List LfT)} {Of:List Int} {rows:List (Nat->Int)} {cL cO cT:List (List Value)}
theorem GM.keep (h:GM gb B w O vL vO vT Ls Of rows cL cO cT)(hz:w.heap.size<=w'.heap.size)(hB:∀k,k<w.heap.size->O k≠5->w'.heap[k]? =w.heap[k]? /\O' k=O k)(hf:∀k,w'.heap.size<=k->O' k=0):GM gb B w' O' vL vO vT Ls Of rows cL cO cT:=by
 obtain⟨o1,b1,b2⟩:=h.wt;obtain⟨e1,e2⟩:=hB gb b1 (by omega);have hP:∀k,O k=0->k<w.heap.size->w'.heap[k]? =w.heap[k]? /\O' k=0:=fun k h0 hk=>by
  obtain⟨a,b⟩:=hB k hk (by omega);exact⟨a,by omega⟩
 exact⟨(aL (w:=w) (a:=⟨gb,0,none⟩) e1).trans h.c0,(aL (w:=w) (a:=⟨gb,1,none⟩) e1).trans h.c1,(aL (w:=w) (a:=⟨gb,2,none⟩) e1).trans h.c2,fun i=>(aR (w:=w) (a:=⟨gb,i,none⟩) e1).trans (h.fz i),⟨by omega,by omega,b2⟩,
  h.rL.keep C5.keeps hz (fun k hk=>(hB k (h.rL.1.lt k hk).2 (by have:=h.tL k hk;omega)).1) hP,h.rO.keep rX.keeps hz (fun k hk=>(hB k (h.rO.1.lt k hk).2 (by have:=h.tO k hk;omega)).1) hP,h.rT.keep pY.keeps hz (fun k hk=>(hB k (h.rT.1.lt k hk).2 (by have:=h.tT k hk;omega)).1) hP,
  fun k hk=>by have:=h.tL k hk;have:=(hB k (h.rL.1.lt k hk).2 (by omega)).2;omega,fun k hk=>by have:=h.tO k hk;have:=(hB k (h.rO.1.lt k hk).2 (by omega)).2;omega,fun k hk=>by have:=h.tT k hk;have:=(hB k (h.rT.1.lt k hk).2 (by omega)).2;omega,hf⟩
theorem GM.below (h:GM gb B w O vL vO vT Ls Of rows cL cO cT)(hB:Below w.heap.size w w'):GM gb B w' O vL vO vT Ls Of rows cL cO cT:=h.keep hB.size (fun k hk _=>⟨hB.block k hk,rfl⟩) (fun k hk=>h.fr k (Nat.le_trans hB.size hk))
theorem GM.pushL (h:GM gb B w O vL vO vT Ls Of rows cL cO cT){w4:World}{o:Obj}{g cap n:Nat}{u:List Value}{x:List LfT}(hn:Ls.length=n)(hu:C5 w (fun g=>O g=0) u x)(hul:u.length=1)
  (hown:w4.ownsRow B 145 1 (.slice (some ⟨g,0,none⟩) (n+1) cap) (n+1) (cL.flatten++u)) (hgr:(w.alloc o).grownBy w4 vL.ownBlock) (hat:vL.ownBlock=some g\/g=w.heap.size+1):
  GM gb B (w4.setCell ⟨gb,0,none⟩ (.slice (some ⟨g,0,none⟩) (n+1) cap)) (fun k=>if k=g then 2 else O k) (.slice (some ⟨g,0,none⟩) (n+1) cap) vO vT (Ls++ [x]) Of rows (cL++ [u]) cO cT/\
  (∀k,k<w.heap.size->O k≠1->O k≠2->(w4.setCell ⟨gb,0,none⟩ (.slice (some ⟨g,0,none⟩) (n+1) cap)).heap[k]? =w.heap[k]? /\(if k=g then 2 else O k)=O k)/\w.heap.size<=w4.heap.size/\∀w0,Below B w0 w->Below B w0 (w4.setCell ⟨gb,0,none⟩ (.slice (some ⟨g,0,none⟩) (n+1) cap)):=by
 obtain⟨o1,b1,b2⟩:=h.wt;have hsz:=hgr.size;have ez:(w.alloc o).heap.size=w.heap.size+1:=by simp
 have hlt4:=(hown.lt g rfl)
 have hz5:(w4.setCell ⟨gb,0,none⟩ (.slice (some ⟨g,0,none⟩) (n+1) cap)).heap.size=w4.heap.size:=by simp[bM]
 have hog:g<w.heap.size->O g=2:=fun hg=>by
  rcases hat with e | e
  ·exact h.tL g e
  ·omega
 have hgb:g≠gb:=fun e=>by
  have:=hog (by omega);rw[e]at this;omega
 have hkp:∀k,k<w.heap.size->O k≠1->O k≠2->(w4.setCell ⟨gb,0,none⟩ (.slice (some ⟨g,0,none⟩) (n+1) cap)).heap[k]? =w.heap[k]? /\(if k=g then 2 else O k)=O k:=fun k hk h1 h2=>by
  have hkB:k≠gb:=fun e=>h1 (by rw[e];exact o1)
  have hkg:k≠g:=fun e=>h2 (by rw[e];exact hog (by omega))
  exact⟨(cB w4 gb 0 _ hkB).trans ((hgr.block k (by omega) (fun e=>h2 (h.tL k e.symm))).trans (aO w o k hk)),if_neg hkg⟩
 have hB4:w4.heap[gb]? =w.heap[gb]? :=(hgr.block gb (by omega) (fun e=>by have:=h.tL gb e.symm;omega)).trans (aO w o gb b1);have hc:∀i,i≠0->(w4.setCell ⟨gb,0,none⟩ (.slice (some ⟨g,0,none⟩) (n+1) cap)).cell? ⟨gb,i,none⟩=w.cell? ⟨gb,i,none⟩:=fun i hi=>by
  rw[bC (h:=by intro e';injection e';omega)];exact aL (w:=w) (a:=⟨gb,i,none⟩) hB4
 have hP:∀k,O k=0->k<w.heap.size->(w4.setCell ⟨gb,0,none⟩ (.slice (some ⟨g,0,none⟩) (n+1) cap)).heap[k]? =w.heap[k]? /\(if k=g then 2 else O k)=0:=fun k h0 hk=>by
  obtain⟨a,b⟩:=hkp k hk (by omega) (by omega);exact⟨a,by rw[b];exact h0⟩
 have hrow:=h.rL.app C5.keeps (P':=fun k=>(if k=g then 2 else O k)=0) hn hu hul hown hgr (fun k h0 hk=>⟨fun e=>by have:=h.tL k e;omega,(hP k h0 hk).2⟩);have hrow2:mG C5 145 1 (w4.setCell ⟨gb,0,none⟩ (.slice (some ⟨g,0,none⟩) (n+1) cap)) B (fun k=>(if k=g then 2 else O k)=0) (.slice (some ⟨g,0,none⟩) (n+1) cap) (Ls++ [x]) (cL++ [u]):=
  hrow.keep C5.keeps (by omega) (fun k hk=>cB w4 gb 0 _ (fun e=>by
   have e2:g=k:=by simpa[aT]using hk
   exact hgb (by rw[e2];exact e))) (fun k h0 _=>⟨cB w4 gb 0 _ (fun e=>by
   rw[e,if_neg (Ne.symm hgb)]at h0;omega),h0⟩)
 refine⟨⟨a9 _ _ _ ((aL (w:=w) (a:=⟨gb,0,none⟩) hB4).trans h.c0),(hc 1 (by omega)).trans h.c1,(hc 2 (by omega)).trans h.c2,fun i=>by rw[bK];exact(aR (w:=w) (a:=⟨gb,i,none⟩) hB4).trans (h.fz i),⟨(if_neg (Ne.symm hgb)).trans o1,by omega,b2⟩,hrow2,h.rO.keep rX.keeps (by omega) (fun k hk=>(hkp k (h.rO.1.lt k hk).2 (by have:=h.tO k hk;omega) (by have:=h.tO k hk;omega)).1) hP,h.rT.keep pY.keeps (by omega) (fun k hk=>(hkp k (h.rT.1.lt k hk).2 (by have:=h.tT k hk;omega) (by have:=h.tT k hk;omega)).1) hP,fun k hk=>by
  have e2:g=k:=by simpa[aT]using hk
  exact if_pos e2.symm,fun k hk=>by
  have h3:=h.tO k hk;have h4:=(hkp k (h.rO.1.lt k hk).2 (by omega) (by omega)).2;exact h4.trans h3,fun k hk=>by
  have h3:=h.tT k hk;have h4:=(hkp k (h.rT.1.lt k hk).2 (by omega) (by omega)).2;exact h4.trans h3,fun k hk=> ?_⟩,hkp,by omega,fun w0 hb0=> ?_⟩
 ·have:k≠g:=by omega
  simp only[if_neg this];exact h.fr k (by omega)
 ·have hs:=(cF B w4).setCell (p:=⟨gb,0,none⟩) b2 (.slice (some ⟨g,0,none⟩) (n+1) cap);refine⟨hs.os.trans (hgr.os.trans hb0.os),hs.tape.trans (hgr.tape.trans hb0.tape),hs.output.trans (hgr.output.trans hb0.output),by have:=hb0.size;omega,fun k hk=> ?_⟩;have h1:=hs.block k hk;have hkw:k<w.heap.size:=by omega
  exact h1.trans (((hgr.block k (by omega) (fun e=>by have:=(h.rL.1.lt k e.symm).1;omega)).trans (aO w o k hkw)).trans (hb0.block k hk))
theorem GM.pushO (h:GM gb B w O vL vO vT Ls Of rows cL cO cT){w4:World}{o:Obj}{g cap n:Nat}{u:List Value}{x:Int}(hn:Of.length=n)(hu:rX w (fun g=>O g=0) u x)(hul:u.length=1)
  (hown:w4.ownsRow B 3 1 (.slice (some ⟨g,0,none⟩) (n+1) cap) (n+1) (cO.flatten++u)) (hgr:(w.alloc o).grownBy w4 vO.ownBlock) (hat:vO.ownBlock=some g\/g=w.heap.size+1):
  GM gb B (w4.setCell ⟨gb,1,none⟩ (.slice (some ⟨g,0,none⟩) (n+1) cap)) (fun k=>if k=g then 3 else O k) vL (.slice (some ⟨g,0,none⟩) (n+1) cap) vT Ls (Of++ [x]) rows cL (cO++ [u]) cT/\
  (∀k,k<w.heap.size->O k≠1->O k≠3->(w4.setCell ⟨gb,1,none⟩ (.slice (some ⟨g,0,none⟩) (n+1) cap)).heap[k]? =w.heap[k]? /\(if k=g then 3 else O k)=O k)/\w.heap.size<=w4.heap.size/\∀w0,Below B w0 w->Below B w0 (w4.setCell ⟨gb,1,none⟩ (.slice (some ⟨g,0,none⟩) (n+1) cap)):=by
 obtain⟨o1,b1,b2⟩:=h.wt;have hsz:=hgr.size;have ez:(w.alloc o).heap.size=w.heap.size+1:=by simp
 have hlt4:=(hown.lt g rfl)
 have hz5:(w4.setCell ⟨gb,1,none⟩ (.slice (some ⟨g,0,none⟩) (n+1) cap)).heap.size=w4.heap.size:=by simp[bM]
 have hog:g<w.heap.size->O g=3:=fun hg=>by
  rcases hat with e | e
  ·exact h.tO g e
  ·omega
 have hgb:g≠gb:=fun e=>by
  have:=hog (by omega);rw[e]at this;omega
 have hkp:∀k,k<w.heap.size->O k≠1->O k≠3->(w4.setCell ⟨gb,1,none⟩ (.slice (some ⟨g,0,none⟩) (n+1) cap)).heap[k]? =w.heap[k]? /\(if k=g then 3 else O k)=O k:=fun k hk h1 h2=>by
  have hkB:k≠gb:=fun e=>h1 (by rw[e];exact o1)
  have hkg:k≠g:=fun e=>h2 (by rw[e];exact hog (by omega))
  exact⟨(cB w4 gb 1 _ hkB).trans ((hgr.block k (by omega) (fun e=>h2 (h.tO k e.symm))).trans (aO w o k hk)),if_neg hkg⟩
 have hB4:w4.heap[gb]? =w.heap[gb]? :=(hgr.block gb (by omega) (fun e=>by have:=h.tO gb e.symm;omega)).trans (aO w o gb b1);have hc:∀i,i≠1->(w4.setCell ⟨gb,1,none⟩ (.slice (some ⟨g,0,none⟩) (n+1) cap)).cell? ⟨gb,i,none⟩=w.cell? ⟨gb,i,none⟩:=fun i hi=>by
  rw[bC (h:=by intro e';injection e';omega)];exact aL (w:=w) (a:=⟨gb,i,none⟩) hB4
 have hP:∀k,O k=0->k<w.heap.size->(w4.setCell ⟨gb,1,none⟩ (.slice (some ⟨g,0,none⟩) (n+1) cap)).heap[k]? =w.heap[k]? /\(if k=g then 3 else O k)=0:=fun k h0 hk=>by
  obtain⟨a,b⟩:=hkp k hk (by omega) (by omega);exact⟨a,by rw[b];exact h0⟩
 have hrow:=h.rO.app rX.keeps (P':=fun k=>(if k=g then 3 else O k)=0) hn hu hul hown hgr (fun k h0 hk=>⟨fun e=>by have:=h.tO k e;omega,(hP k h0 hk).2⟩);have hrow2:mG rX 3 1 (w4.setCell ⟨gb,1,none⟩ (.slice (some ⟨g,0,none⟩) (n+1) cap)) B (fun k=>(if k=g then 3 else O k)=0) (.slice (some ⟨g,0,none⟩) (n+1) cap) (Of++ [x]) (cO++ [u]):=
  hrow.keep rX.keeps (by omega) (fun k hk=>cB w4 gb 1 _ (fun e=>by
   have e2:g=k:=by simpa[aT]using hk
   exact hgb (by rw[e2];exact e))) (fun k h0 _=>⟨cB w4 gb 1 _ (fun e=>by
   rw[e,if_neg (Ne.symm hgb)]at h0;omega),h0⟩)
 refine⟨⟨(hc 0 (by omega)).trans h.c0,a9 _ _ _ ((aL (w:=w) (a:=⟨gb,1,none⟩) hB4).trans h.c1),(hc 2 (by omega)).trans h.c2,fun i=>by rw[bK];exact(aR (w:=w) (a:=⟨gb,i,none⟩) hB4).trans (h.fz i),⟨(if_neg (Ne.symm hgb)).trans o1,by omega,b2⟩,h.rL.keep C5.keeps (by omega) (fun k hk=>(hkp k (h.rL.1.lt k hk).2 (by have:=h.tL k hk;omega) (by have:=h.tL k hk;omega)).1) hP,hrow2,h.rT.keep pY.keeps (by omega) (fun k hk=>(hkp k (h.rT.1.lt k hk).2 (by have:=h.tT k hk;omega) (by have:=h.tT k hk;omega)).1) hP,fun k hk=>by
  have h3:=h.tL k hk;have h4:=(hkp k (h.rL.1.lt k hk).2 (by omega) (by omega)).2;exact h4.trans h3,fun k hk=>by
  have e2:g=k:=by simpa[aT]using hk
  exact if_pos e2.symm,fun k hk=>by
  have h3:=h.tT k hk;have h4:=(hkp k (h.rT.1.lt k hk).2 (by omega) (by omega)).2;exact h4.trans h3,fun k hk=> ?_⟩,hkp,by omega,fun w0 hb0=> ?_⟩
 ·have:k≠g:=by omega
  simp only[if_neg this];exact h.fr k (by omega)
 ·have hs:=(cF B w4).setCell (p:=⟨gb,1,none⟩) b2 (.slice (some ⟨g,0,none⟩) (n+1) cap);refine⟨hs.os.trans (hgr.os.trans hb0.os),hs.tape.trans (hgr.tape.trans hb0.tape),hs.output.trans (hgr.output.trans hb0.output),by have:=hb0.size;omega,fun k hk=> ?_⟩;have h1:=hs.block k hk;have hkw:k<w.heap.size:=by omega
  exact h1.trans (((hgr.block k (by omega) (fun e=>by have:=(h.rO.1.lt k e.symm).1;omega)).trans (aO w o k hkw)).trans (hb0.block k hk))
theorem GM.pushT (h:GM gb B w O vL vO vT Ls Of rows cL cO cT){w4:World}{o:Obj}{g cap n:Nat}{u:List Value}{x:Nat->Int}(hn:rows.length=n)(hu:pY w (fun g=>O g=0) u x)(hul:u.length=1)
  (hown:w4.ownsRow B 59 1 (.slice (some ⟨g,0,none⟩) (n+1) cap) (n+1) (cT.flatten++u)) (hgr:(w.alloc o).grownBy w4 vT.ownBlock) (hat:vT.ownBlock=some g\/g=w.heap.size+1):
  GM gb B (w4.setCell ⟨gb,2,none⟩ (.slice (some ⟨g,0,none⟩) (n+1) cap)) (fun k=>if k=g then 4 else O k) vL vO (.slice (some ⟨g,0,none⟩) (n+1) cap) Ls Of (rows++ [x]) cL cO (cT++ [u])/\
  (∀k,k<w.heap.size->O k≠1->O k≠4->(w4.setCell ⟨gb,2,none⟩ (.slice (some ⟨g,0,none⟩) (n+1) cap)).heap[k]? =w.heap[k]? /\(if k=g then 4 else O k)=O k)/\w.heap.size<=w4.heap.size/\∀w0,Below B w0 w->Below B w0 (w4.setCell ⟨gb,2,none⟩ (.slice (some ⟨g,0,none⟩) (n+1) cap)):=by
 obtain⟨o1,b1,b2⟩:=h.wt;have hsz:=hgr.size;have ez:(w.alloc o).heap.size=w.heap.size+1:=by simp
 have hlt4:=(hown.lt g rfl)
 have hz5:(w4.setCell ⟨gb,2,none⟩ (.slice (some ⟨g,0,none⟩) (n+1) cap)).heap.size=w4.heap.size:=by simp[bM]
 have hog:g<w.heap.size->O g=4:=fun hg=>by
  rcases hat with e | e
  ·exact h.tT g e
  ·omega
 have hgb:g≠gb:=fun e=>by
  have:=hog (by omega);rw[e]at this;omega
 have hkp:∀k,k<w.heap.size->O k≠1->O k≠4->(w4.setCell ⟨gb,2,none⟩ (.slice (some ⟨g,0,none⟩) (n+1) cap)).heap[k]? =w.heap[k]? /\(if k=g then 4 else O k)=O k:=fun k hk h1 h2=>by
  have hkB:k≠gb:=fun e=>h1 (by rw[e];exact o1)
  have hkg:k≠g:=fun e=>h2 (by rw[e];exact hog (by omega))
  exact⟨(cB w4 gb 2 _ hkB).trans ((hgr.block k (by omega) (fun e=>h2 (h.tT k e.symm))).trans (aO w o k hk)),if_neg hkg⟩
 have hB4:w4.heap[gb]? =w.heap[gb]? :=(hgr.block gb (by omega) (fun e=>by have:=h.tT gb e.symm;omega)).trans (aO w o gb b1);have hc:∀i,i≠2->(w4.setCell ⟨gb,2,none⟩ (.slice (some ⟨g,0,none⟩) (n+1) cap)).cell? ⟨gb,i,none⟩=w.cell? ⟨gb,i,none⟩:=fun i hi=>by
  rw[bC (h:=by intro e';injection e';omega)];exact aL (w:=w) (a:=⟨gb,i,none⟩) hB4
 have hP:∀k,O k=0->k<w.heap.size->(w4.setCell ⟨gb,2,none⟩ (.slice (some ⟨g,0,none⟩) (n+1) cap)).heap[k]? =w.heap[k]? /\(if k=g then 4 else O k)=0:=fun k h0 hk=>by
  obtain⟨a,b⟩:=hkp k hk (by omega) (by omega);exact⟨a,by rw[b];exact h0⟩
 have hrow:=h.rT.app pY.keeps (P':=fun k=>(if k=g then 4 else O k)=0) hn hu hul hown hgr (fun k h0 hk=>⟨fun e=>by have:=h.tT k e;omega,(hP k h0 hk).2⟩);have hrow2:mG pY 59 1 (w4.setCell ⟨gb,2,none⟩ (.slice (some ⟨g,0,none⟩) (n+1) cap)) B (fun k=>(if k=g then 4 else O k)=0) (.slice (some ⟨g,0,none⟩) (n+1) cap) (rows++ [x]) (cT++ [u]):=
  hrow.keep pY.keeps (by omega) (fun k hk=>cB w4 gb 2 _ (fun e=>by
   have e2:g=k:=by simpa[aT]using hk
   exact hgb (by rw[e2];exact e))) (fun k h0 _=>⟨cB w4 gb 2 _ (fun e=>by
   rw[e,if_neg (Ne.symm hgb)]at h0;omega),h0⟩)
 refine⟨⟨(hc 0 (by omega)).trans h.c0,(hc 1 (by omega)).trans h.c1,a9 _ _ _ ((aL (w:=w) (a:=⟨gb,2,none⟩) hB4).trans h.c2),fun i=>by rw[bK];exact(aR (w:=w) (a:=⟨gb,i,none⟩) hB4).trans (h.fz i),⟨(if_neg (Ne.symm hgb)).trans o1,by omega,b2⟩,h.rL.keep C5.keeps (by omega) (fun k hk=>(hkp k (h.rL.1.lt k hk).2 (by have:=h.tL k hk;omega) (by have:=h.tL k hk;omega)).1) hP,h.rO.keep rX.keeps (by omega) (fun k hk=>(hkp k (h.rO.1.lt k hk).2 (by have:=h.tO k hk;omega) (by have:=h.tO k hk;omega)).1) hP,hrow2,fun k hk=>by
  have h3:=h.tL k hk;have h4:=(hkp k (h.rL.1.lt k hk).2 (by omega) (by omega)).2;exact h4.trans h3,fun k hk=>by
  have h3:=h.tO k hk;have h4:=(hkp k (h.rO.1.lt k hk).2 (by omega) (by omega)).2;exact h4.trans h3,fun k hk=>by
  have e2:g=k:=by simpa[aT]using hk
  exact if_pos e2.symm,fun k hk=> ?_⟩,hkp,by omega,fun w0 hb0=> ?_⟩
 ·have:k≠g:=by omega
  simp only[if_neg this];exact h.fr k (by omega)
 ·have hs:=(cF B w4).setCell (p:=⟨gb,2,none⟩) b2 (.slice (some ⟨g,0,none⟩) (n+1) cap);refine⟨hs.os.trans (hgr.os.trans hb0.os),hs.tape.trans (hgr.tape.trans hb0.tape),hs.output.trans (hgr.output.trans hb0.output),by have:=hb0.size;omega,fun k hk=> ?_⟩;have h1:=hs.block k hk;have hkw:k<w.heap.size:=by omega
  exact h1.trans (((hgr.block k (by omega) (fun e=>by have:=(h.rT.1.lt k e.symm).1;omega)).trans (aO w o k hkw)).trans (hb0.block k hk))
structure CR (w:World)(O:Nat->Nat)(B rb:Nat)(f:Nat->Int)(b:Nat):Prop where
 wt:O rb=5/\rb<w.heap.size/\B<=rb
 c:∀j,j<b->w.cell? ⟨rb,j,none⟩=some (.int .i64 (f j))
 a:∀j,j<256->∃x:Int,w.cell? ⟨rb,j,none⟩=some (.int .i64 x)
 fz:∀i,w.frozen? ⟨rb,i,none⟩=false
theorem CR.keep {rb b:Nat}{f:Nat->Int}(h:CR w O B rb f b)(hz:w.heap.size<=w'.heap.size)(hB:w'.heap[rb]? =w.heap[rb]? /\O' rb=O rb):CR w' O' B rb f b:=by
 obtain⟨o1,b1,b2⟩:=h.wt;refine⟨⟨by omega,by omega,b2⟩,fun j hj=>(aL (w:=w) (a:=⟨rb,j,none⟩) hB.1).trans (h.c j hj),fun j hj=> ?_,fun i=>(aR (w:=w) (a:=⟨rb,i,none⟩) hB.1).trans (h.fz i)⟩;obtain⟨x,hx⟩:=h.a j hj;exact⟨x,(aL (w:=w) (a:=⟨rb,j,none⟩) hB.1).trans hx⟩
theorem CR.put {rb b:Nat}{f f':Nat->Int}(h:CR w O B rb f b)(hb:b<256){t:Int}(hf:f' b=t)(he:∀j,j<b->f' j=f j):CR (w.setCell ⟨rb,b,none⟩ (.int .i64 t)) O B rb f' (b+1):=by
 obtain⟨o1,b1,b2⟩:=h.wt;have hz:(w.setCell ⟨rb,b,none⟩ (.int .i64 t)).heap.size=w.heap.size:=by simp[bM]
 have hc:∀j,j≠b->(w.setCell ⟨rb,b,none⟩ (.int .i64 t)).cell? ⟨rb,j,none⟩=w.cell? ⟨rb,j,none⟩:=fun j hj=>bC _ _ _ _ (by intro e1;injection e1;omega)
 obtain⟨x,hx⟩:=h.a b hb;have hs:(w.setCell ⟨rb,b,none⟩ (.int .i64 t)).cell? ⟨rb,b,none⟩=some (.int .i64 t):=a9 _ _ _ hx;refine⟨⟨o1,by omega,b2⟩,fun j hj=> ?_,fun j hj=> ?_,fun i=>by rw[bK];exact h.fz i⟩
 ·by_cases e:j=b
  ·rw[e,hs,hf]
  ·rw[hc j e,he j (by omega)];exact h.c j (by omega)
 ·by_cases e:j=b
  ·rw[e];exact⟨t,hs⟩
  ·rw[hc j e];exact h.a j hj
theorem GM.set (h:GM gb B w O vL vO vT Ls Of rows cL cO cT){rb:Nat}(ho:O rb=5)(j:Nat)(x:Value):GM gb B (w.setCell ⟨rb,j,none⟩ x) O vL vO vT Ls Of rows cL cO cT:=
 h.keep (by simp[bM]) (fun k _ h5=>⟨cB w rb j _ (fun e=>h5 (by rw[e];exact ho)),rfl⟩) (fun k hk=>h.fr k (by simpa[bM]using hk))
theorem GM.done (h:GM gb B w O vL vO vT Ls Of rows cL cO cT){rb:Nat}{f:Nat->Int}(hc:CR w O B rb f 256):GM gb B w (fun k=>if k=rb then 0 else O k) vL vO vT Ls Of rows cL cO cT/\pY w (fun g=>(if g=rb then 0 else O g)=0) [.slice (some ⟨rb,0,none⟩) 256 256] f:=by
 obtain⟨o1,b1,b2⟩:=hc.wt;exact⟨h.keep (bS _) (fun k _ h5=>⟨rfl,if_neg (fun e=>h5 (by rw[e];exact o1))⟩) (fun k hk=>by
  have:k≠rb:=by omega
  simp only[if_neg this];exact h.fr k hk),rb,rfl,if_pos rfl,b1,hc.c⟩
end
end Go.Proofs.YtgjgjgihceijnaaGreat
namespace Go.Proofs.YtgjgjgihceijnaaGreat
open Go.RowKit Go.Stn
theorem xH {w:World}{B g n z:Nat}{T:TypeId}{xs:List Value}(hB:B<=g)(h:w.heap[g]? =some (.cells xs.toArray T (0,0)))(hn:xs.length=n*z)(hm:n<=1000):w.ownsRow B T z (.slice (some ⟨g,0,none⟩) n n) n xs:=
 ⟨hn,.inr ⟨g,n,xs.toArray,rfl,hB,h,bS _,by unfold maxLen;omega,by simp[hn],by rw[←hn];simp⟩⟩
theorem GM.start {B:Nat}{w:World}{v0:Value}{l0:List LfT}(hB:B<=w.heap.size)(hl:LFp w (fun g=>B<=g) v0 l0):
  GM (w.heap.size+1+1) B (((w.alloc (.cells #[v0] 145)).alloc (.cells #[.int .i64 (-1)] 3)).alloc (.cells #[.slice (some ⟨w.heap.size,0,none⟩) 1 1,.slice (some ⟨w.heap.size+1,0,none⟩) 1 1,.slice none 0 0] 133))
   (fun k=>if k=w.heap.size then 2 else if k=w.heap.size+1 then 3 else if k=w.heap.size+1+1 then 1 else 0) (.slice (some ⟨w.heap.size,0,none⟩) 1 1) (.slice (some ⟨w.heap.size+1,0,none⟩) 1 1) (.slice none 0 0) [l0] [-1] [] [[v0]] [[.int .i64 (-1)]] []/\
  Below w.heap.size w (((w.alloc (.cells #[v0] 145)).alloc (.cells #[.int .i64 (-1)] 3)).alloc (.cells #[.slice (some ⟨w.heap.size,0,none⟩) 1 1,.slice (some ⟨w.heap.size+1,0,none⟩) 1 1,.slice none 0 0] 133)):=by
 have z1:(w.alloc (.cells #[v0] 145)).heap.size=w.heap.size+1:=by simp
 have z2:((w.alloc (.cells #[v0] 145)).alloc (.cells #[.int .i64 (-1)] 3)).heap.size=w.heap.size+1+1:=by simp
 generalize hw1:w.alloc (.cells #[v0] 145)=w1 at*;generalize hw2:w1.alloc (.cells #[.int .i64 (-1)] 3)=w2 at*;generalize hw3:w2.alloc (.cells #[.slice (some ⟨w.heap.size,0,none⟩) 1 1,.slice (some ⟨w.heap.size+1,0,none⟩) 1 1,.slice none 0 0] 133)=w3 at*;have z3:w3.heap.size=w.heap.size+1+1+1:=by rw[←hw3];simp[z2]
 have k12:∀k,k<w1.heap.size->w2.heap[k]? =w1.heap[k]? :=fun k hk=>by rw[←hw2];exact aO w1 _ k hk
 have k23:∀k,k<w2.heap.size->w3.heap[k]? =w2.heap[k]? :=fun k hk=>by rw[←hw3];exact aO w2 _ k hk
 have k01:∀k,k<w.heap.size->w1.heap[k]? =w.heap[k]? :=fun k hk=>by rw[←hw1];exact aO w _ k hk
 have a1:w3.heap[w.heap.size]? =some (.cells #[v0] 145 (0,0)):=by rw[k23 _ (by omega),k12 _ (by omega),←hw1];exact heap_alloc_new w _
 have a2:w3.heap[w.heap.size+1]? =some (.cells #[.int .i64 (-1)] 3 (0,0)):=by rw[k23 _ (by omega),←hw2,←z1];exact heap_alloc_new w1 _
 have hb:Below w.heap.size w w3:=by
  have b1:Below w.heap.size w w1:=by rw[←hw1];exact(cF _ _).alloc (bS _) _
  have b2:Below w.heap.size w w2:=by rw[←hw2];exact b1.alloc (by omega) _
  rw[←hw3];exact b2.alloc (by omega) _
 have hc:∀i,w3.cell? ⟨w.heap.size+1+1,i,none⟩=(#[.slice (some ⟨w.heap.size,0,none⟩) 1 1,.slice (some ⟨w.heap.size+1,0,none⟩) 1 1,.slice none 0 0]:Array Value)[i]? :=fun i=>by rw[←hw3];exact World.cell?_alloc_at _ _ _ i z2.symm
 refine⟨⟨hc 0,hc 1,hc 2,fun i=>by rw[←hw3];exact World.frozen?_alloc_at _ _ _ i z2.symm,⟨?_,by omega,by omega⟩,⟨xH hB a1 rfl (by decide),rfl,fun c hc=> ?_,fun j c x h1 h2=> ?_⟩,⟨xH (xs:= [.int .i64 (-1)]) (by omega) a2 rfl (by decide),rfl,fun c hc=> ?_,fun j c x h1 h2=> ?_⟩,mG.start _ _ _,fun k hk=> ?_,fun k hk=> ?_,fun k hk=>(by cases hk),fun k hk=> ?_⟩,hb⟩
 ·rw[if_neg (by omega),if_neg (by omega),if_pos rfl]
 ·rw[cN.1 hc];rfl
 ·cases j with
  | zero=>
   have e1: [v0]=c:=by simpa using h1
   have e2:l0=x:=by simpa using h2
   subst e1 e2;exact⟨v0,rfl,hl.keep hb.size (fun k _ hk=>⟨hb.block k hk,by simp only[if_neg (show k≠w.heap.size by omega),if_neg (show k≠w.heap.size+1 by omega),if_neg (show k≠w.heap.size+1+1 by omega)]⟩)⟩
  | succ j=>simp at h1
 ·rw[cN.1 hc];rfl
 ·cases j with
  | zero=>
   have e1: [.int .i64 (-1)]=c:=by simpa using h1
   have e2:(-1:Int)=x:=by simpa using h2
   subst e1 e2
   rfl
  | succ j=>simp at h1
 ·have e:w.heap.size=k:=by simpa[aT]using hk
  exact if_pos e.symm
 ·have e:w.heap.size+1=k:=by simpa[aT]using hk
  rw[if_neg (by omega),if_pos e.symm]
 ·rw[if_neg (by omega),if_neg (by omega),if_neg (by omega)]
def nF (rows:List (Nat->Int))(To:Nat->Nat->Int)(p:Nat):Prop:=rows.length=p/\∀(i:Nat) (f:Nat->Int),rows[i]? =some f->∀j,j<256->f j=To i j
theorem nF.upd {rows:List (Nat->Int)}{To:Nat->Nat->Int}{p b:Nat}(h:nF rows To p)(t:Int):nF rows (C6 To p b t) p:=⟨h.1,fun i f hf j hj=>by
 have:=(bN.1 hf).1;rw[fT (fun e=>by have:=h.1;omega)];exact h.2 i f hf j hj⟩
theorem nF.snoc {rows:List (Nat->Int)}{To:Nat->Nat->Int}{p:Nat}(h:nF rows To p):nF (rows++ [To p]) To (p+1):=by
 refine⟨by rw[cP,bO,h.1],fun i f hf j hj=> ?_⟩;by_cases hi:i<rows.length
 ·rw[List.getElem?_append_left hi]at hf;exact h.2 i f hf j hj
 ·have:=(bN.1 hf).1;rw[cP,bO]at this;have e:i=rows.length:=by omega
  subst e;rw[List.getElem?_append_right (bS _),Nat.sub_self]at hf;have e:To p=f:=by simpa using hf
  rw[←e,h.1]
theorem Y5 {N:List RN}{R:List RV}{cond:Nat}:∀x,x∈gG cond 0 R->UB N (R.map RV.n) x:=fun x hx=>by
 obtain⟨j,y,h1,_,h3⟩:=xX.1 hx;rw[h3,Nat.zero_add];exact⟨y.n,by rw[List.getElem?_map,h1];rfl,.inl rfl⟩
section
variable {N:List RN} {tops ks:List Nat} {l0:List LfT} {Ls:List (List LfT)} {Of:List Int} {To:Nat->Nat->Int} {p b:Nat}
theorem GI.ub (h0:∀x,x∈l0->UB N tops x)(h:GI N tops l0 Ls Of To p b):∀l',l'∈Ls->∀x,x∈l'->UB N tops x:=fun l' hl x hx=>by
 obtain⟨i,hi⟩:=bT hl;by_cases e:i=0
 ·rw[e,h.z]at hi;injection hi with hi;rw[←hi]at hx;exact h0 x hx
 ·exact((h.ok i l' (by omega) hi).2.2 x hx).ub
theorem GI.bnds (hf:eC N tops ks)(h0:∀x,x∈l0->UB N tops x)(hl0:l0.length<=1000)(h:GI N tops l0 Ls Of To p b):∀l',l'∈Ls->l'.length<=1000000/\∀x,x∈l'->x.2.length<=1000000:=fun l' hl=>by
 refine⟨?_,fun x hx=>by have:=(hf.bnd (h.ub h0 l' hl x hx)).2.1;omega⟩;obtain⟨i,hi⟩:=bT hl;by_cases e:i=0
 ·rw[e,h.z]at hi;injection hi with hi;rw[←hi];omega
 ·obtain⟨_,k2,k3⟩:=h.ok i l' (by omega) hi;have:=hf.few k2 k3;omega
theorem GI.twin (hf:eC N tops ks){lw:List Nat}(hlo:uX N lw)(h:GI N tops l0 Ls Of To p b)(hb:b<256){l:List LfT}(hl:Ls[p]? =some l){x:Nat}(hx:lw[b]? =some x)(hlt:x<b):C8 N Ls l b (To p x):=by
 obtain⟨_,_,h3⟩:=hlo b x hx;have ht:=h.lead p x l ⟨by omega,.inr ⟨rfl,hlt⟩⟩ hl;unfold C8 at ht ⊢;rw[←Q5 hf.cl h3 l];exact ht
theorem GI.found (h:GI N tops l0 Ls Of To p b){l:List LfT}(hne:dE N b l≠ []){i:Nat}{l':List LfT}(hi:0<i)(hl':Ls[i]? =some l')(he:jN l' (dE N b l)=true):C8 N Ls l b (i:Int):=
 .inr ⟨i,l',rfl,hi,hl',hne,(F1 (h.ok i l' hi hl').2.1 (sN _ _ _)).1 he⟩
end
end Go.Proofs.YtgjgjgihceijnaaGreat
