import Derived.Test.YtgjgjgihceijnaaGreatG32
import Derived.Test.YtgjgjgihceijnaaGreatG30
import Derived.Test.YtgjgjgihceijnaaGreatG29
import Derived.Deep.RegionLaw
import Derived.Deep.DrawnRows
import Derived.Test.YtgjgjgihceijnaaGreatG31
import Derived.Deep.MidRow
import Derived.BigRegion
open Go.World renaming cell?_of_block->aL,frozen?_of_block->aT,cell?_alloc_new->bC,cell?_setCell_other->bM,cell?_setCell_same->bN,frozen?_setCell->bS,setCell->cO
open Nat renaming le_refl->aO,lt_of_lt_of_le->aR,zero_le->cN,le_trans->cP
open List renaming length_append->a9,getElem?_eq_getElem->bO,mem_of_getElem?->bT,filter_append->cF
open Go.RowKit.Below renaming refl->bK,heap_alloc->cL
set_option maxRecDepth 100000
set_option maxHeartbeats 8000000
namespace Go.Proofs.YtgjgjgihceijnaaGreat
open Go.RowKit Go.Stn
structure NV where
 x:RN
 l:Value
 i:Value
def NV.cells (t:NV):List Value:= [.int .i64 (t.x.k:Int),t.l,t.i]
def nvC (l:List NV):List Value:=l.flatMap NV.cells
def nvN (l:List NV):List RN:=l.map NV.x
theorem Ue (l:List NV)(t:NV):nvC (l++ [t])=nvC l++t.cells:=by unfold nvC;simp
theorem gV (l:List NV)(t:NV):nvN (l++ [t])=nvN l++ [t.x]:=by unfold nvN;simp
theorem dQ (l:List NV):(nvN l).length=l.length:=by unfold nvN;simp
theorem Jp:∀(l:List NV) (j:Nat) (t:NV),l[j]? =some t->(nvC l)[j*3]? =some (.int .i64 (t.x.k:Int))/\(nvC l)[j*3+1]? =some t.l/\(nvC l)[j*3+2]? =some t.i
 | [],j,t,h=>by simp at h
 | x::l,0,t,h=>by
  have e:x=t:=by simpa using h
  subst e;exact⟨rfl,rfl,rfl⟩
 | x::l,j+1,t,h=>by
  have:=Jp l j t (by simpa using h);have e:nvC (x::l)= .int .i64 (x.x.k:Int)::x.l::x.i::nvC l:=rfl;rw[e,show(j+1)*3=j*3+1+1+1 by omega];refine⟨by simpa using this.1, ?_, ?_⟩
  ·rw[show j*3+1+1+1+1=(j*3+1)+1+1+1 by omega];simpa using this.2.1
  ·rw[show j*3+1+1+1+2=(j*3+2)+1+1+1 by omega];simpa using this.2.2
theorem Jb {w:World}{B:Nat}{T:TypeId}{z n cap:Nat}{a:Option Addr}{xs:List Value}(h:w.ownsRow B T z (.slice a n cap) n xs):n<=cap:=by
 rcases h.2 with⟨e,_⟩ | ⟨g,cap',cur,e,_,_,hnc,_⟩
 ·injection e with _ e3 e4;omega
 ·injection e with _ _ e4;omega
def zQ (w:World)(O:Nat->Nat)(t:NV):Prop:=
 (t.x.k=0/\t.x.l= []/\t.l= .slice none 0 0/\∃g,t.i= .slice (some ⟨g,0,none⟩) 256 256/\O g=4/\g<w.heap.size/\BA w g 256 t.x.f)\/
 (t.x.k≠0/\t.i= .slice none 0 0/\∃g cap,t.l= .slice (some ⟨g,0,none⟩) t.x.l.length cap/\O g=4/\g<w.heap.size/\(∀(i m:Nat),t.x.l[i]? =some m->w.cell? ⟨g,i,none⟩=some (.int .i64 (m:Int)))/\t.x.l.length<=cap)
variable {w w':World} {O O':Nat->Nat} {fb nR pl cn:Nat} {L:List NV} {vN vR:Value} {rc:List Value}
theorem zQ.keep {t:NV}(h:zQ w O t)(hz:w.heap.size<=w'.heap.size)(hB:∀k,k<w.heap.size->O k=4->w'.heap[k]? =w.heap[k]? /\O' k=O k):zQ w' O' t:=by
 rcases h with⟨h1,h2,h3,g,h4,h5,h6,h7⟩ | ⟨h1,h2,g,cap,h4,h5,h6,h7⟩
 ·obtain⟨e1,e2⟩:=hB g h6 h5;exact .inl ⟨h1,h2,h3,g,h4,e2.trans h5,aR h6 hz,⟨fun i hi=>(aL (w:=w) (a:=⟨g,i,none⟩) e1).trans (h7.c i hi),fun i=>(aT (w:=w) (a:=⟨g,i,none⟩) e1).trans (h7.f i)⟩⟩
 ·obtain⟨e1,e2⟩:=hB g h6 h5;exact .inr ⟨h1,h2,g,cap,h4,e2.trans h5,aR h6 hz,fun i m hm=>(aL (w:=w) (a:=⟨g,i,none⟩) e1).trans (h7.1 i m hm),h7.2⟩
structure FN (fb:Nat)(w:World)(O:Nat->Nat)(L:List NV)(vN vR:Value)(rc:List Value)(nR pl cn:Nat):Prop where
 c0:w.cell? ⟨fb,0,none⟩=some vN
 c1:w.cell? ⟨fb,1,none⟩=some vR
 c2:w.cell? ⟨fb,2,none⟩=some (.int .i64 (pl:Int))
 c3:w.cell? ⟨fb,3,none⟩=some (.int .i64 (cn:Int))
 fz:∀i,w.frozen? ⟨fb,i,none⟩=false
 wt:O fb=1/\fb<w.heap.size
 rn:w.ownsRow (fb+1) 180 3 vN L.length (nvC L)
 rr:w.ownsRow (fb+1) 82 3 vR nR rc
 tn:∀k,vN.ownBlock=some k->O k=2
 tr:∀k,vR.ownBlock=some k->O k=3
 nd:∀t∈L,zQ w O t
 cl:aN (nvN L)
 fr:∀k,w.heap.size<=k->O k=0
theorem FN.keep (h:FN fb w O L vN vR rc nR pl cn)(hz:w.heap.size<=w'.heap.size)(hB:∀k,k<w.heap.size->O k≠0->w'.heap[k]? =w.heap[k]? /\O' k=O k)(hf:∀k,w'.heap.size<=k->O' k=0):FN fb w' O' L vN vR rc nR pl cn:=by
 obtain⟨o1,b1⟩:=h.wt;obtain⟨e1,e2⟩:=hB fb b1 (by omega);exact⟨(aL (w:=w) (a:=⟨fb,0,none⟩) e1).trans h.c0,(aL (w:=w) (a:=⟨fb,1,none⟩) e1).trans h.c1,(aL (w:=w) (a:=⟨fb,2,none⟩) e1).trans h.c2,(aL (w:=w) (a:=⟨fb,3,none⟩) e1).trans h.c3,
  fun i=>(aT (w:=w) (a:=⟨fb,i,none⟩) e1).trans (h.fz i),⟨e2.trans o1,aR b1 hz⟩,
  cV h.rn (fun k hk=>(hB k (h.rn.lt k hk).2 (by have:=h.tn k hk;omega)).1),cV h.rr (fun k hk=>(hB k (h.rr.lt k hk).2 (by have:=h.tr k hk;omega)).1),
  fun k hk=>(hB k (h.rn.lt k hk).2 (by have:=h.tn k hk;omega)).2.trans (h.tn k hk),fun k hk=>(hB k (h.rr.lt k hk).2 (by have:=h.tr k hk;omega)).2.trans (h.tr k hk),
  fun t ht=>(h.nd t ht).keep hz (fun k hk ho=>hB k hk (by omega)),h.cl,hf⟩
theorem FN.below (h:FN fb w O L vN vR rc nR pl cn)(hB:Below w.heap.size w w'):FN fb w' O L vN vR rc nR pl cn:=
 h.keep hB.size (fun k hk _=>⟨hB.block k hk,rfl⟩) (fun k hk=>h.fr k (cP hB.size hk))
theorem FN.draw (h:FN fb w O L vN vR rc nR pl cn)(n:Nat):FN fb (w.drewN n) O L vN vR rc nR pl cn:=h.below ⟨rfl,rfl,rfl,aO _,fun _ _=>rfl⟩
theorem FN.tag (h:FN fb w O L vN vR rc nR pl cn){g:Nat}(hg:O g=0)(hz:g<w.heap.size):FN fb w (fun k=>if k=g then 4 else O k) L vN vR rc nR pl cn:=
 h.keep (aO _) (fun k _ h0=>⟨rfl,if_neg (fun e=>h0 (by rw[e];exact hg))⟩) (fun k hk=>by
  simp only[if_neg (show k≠g by omega)];exact h.fr k hk)
structure FK (w:World)(O:Nat->Nat)(w':World)(O':Nat->Nat):Prop where
 os:w'.os=w.os
 tape:w'.tape=w.tape
 output:w'.output=w.output
 size:w.heap.size<=w'.heap.size
 block:∀k,k<w.heap.size->O k≠1->O k≠2->O k≠3->w'.heap[k]? =w.heap[k]?
 own:∀k,k<w.heap.size->O' k=O k
theorem FK.refl (w:World)(O:Nat->Nat):FK w O w O:=⟨rfl,rfl,rfl,aO _,fun _ _ _ _ _=>rfl,fun _ _=>rfl⟩
theorem FK.trans {w2:World}{O2:Nat->Nat}(h:FK w O w' O')(k:FK w' O' w2 O2):FK w O w2 O2:=
 ⟨k.os.trans h.os,k.tape.trans h.tape,k.output.trans h.output,cP h.size k.size,fun i hi h1 h2 h3=>(k.block i (aR hi h.size) (by rw[h.own i hi];exact h1) (by rw[h.own i hi];exact h2) (by rw[h.own i hi];exact h3)).trans (h.block i hi h1 h2 h3),fun i hi=>(k.own i (aR hi h.size)).trans (h.own i hi)⟩
theorem FK.of_below (hB:Below w.heap.size w w')(O:Nat->Nat):FK w O w' O:=⟨hB.os,hB.tape,hB.output,hB.size,fun k hk _ _ _=>hB.block k hk,fun _ _=>rfl⟩
theorem FN.add (h:FN fb w O L vN vR rc nR pl cn){w4:World}{o:Obj}{g cap n:Nat}{t:NV}{v0:Value}(hn:L.length=n)(hv0:vN=v0)
  (hown:w4.ownsRow (fb+1) 180 3 (.slice (some ⟨g,0,none⟩) (n+1) cap) (n+1) (nvC L++t.cells))
  (hgr:(w.alloc o).grownBy w4 v0.ownBlock) (hat:v0.ownBlock=some g\/g=w.heap.size+1) (ht:zQ w O t) (hcl:∀m,m∈t.x.l->m<n):
  FN fb (w4.setCell ⟨fb,0,none⟩ (.slice (some ⟨g,0,none⟩) (n+1) cap)) (fun k=>if k=g then 2 else O k) (L++ [t]) (.slice (some ⟨g,0,none⟩) (n+1) cap) vR rc nR pl cn/\
  FK w O (w4.setCell ⟨fb,0,none⟩ (.slice (some ⟨g,0,none⟩) (n+1) cap)) (fun k=>if k=g then 2 else O k):=by
 subst hn hv0;obtain⟨o1,b1⟩:=h.wt;have hsz:=hgr.size;have ez:(w.alloc o).heap.size=w.heap.size+1:=by simp
 have hg4:=(hown.lt g rfl).2;have hz5:(w4.setCell ⟨fb,0,none⟩ (.slice (some ⟨g,0,none⟩) (L.length+1) cap)).heap.size=w4.heap.size:=by simp[cO]
 have hog:g<w.heap.size->O g=2:=fun hg=>by
  rcases hat with e | e
  ·exact h.tn g e
  ·omega
 have keep:∀k,k<w.heap.size->O k≠1->O k≠2->(w4.setCell ⟨fb,0,none⟩ (.slice (some ⟨g,0,none⟩) (L.length+1) cap)).heap[k]? =w.heap[k]? /\(if k=g then 2 else O k)=O k:=fun k hk hn1 hn2=>by
  have hkB:k≠fb:=fun e=>hn1 (by rw[e];exact o1)
  have hkg:k≠g:=fun e=>hn2 (by rw[e];exact hog (by omega))
  refine⟨(cB w4 fb 0 _ hkB).trans ((hgr.block k (by omega) (fun e=>hn2 (h.tn k e.symm))).trans (cL w o k hk)),if_neg hkg⟩
 have hB4:w4.heap[fb]? =w.heap[fb]? :=(hgr.block fb (by omega) (fun e=>by have:=h.tn fb e.symm;omega)).trans (cL w o fb b1);have hgB:g≠fb:=by have:=(hown.lt g rfl).1;omega
 have hc:∀i,i≠0->(w4.setCell ⟨fb,0,none⟩ (.slice (some ⟨g,0,none⟩) (L.length+1) cap)).cell? ⟨fb,i,none⟩=w.cell? ⟨fb,i,none⟩:=fun i hi=>by
  rw[bM (h:=by intro e';injection e';omega)];exact aL (w:=w) (a:=⟨fb,i,none⟩) hB4
 refine⟨⟨bN _ _ _ ((aL (w:=w) (a:=⟨fb,0,none⟩) hB4).trans h.c0),(hc 1 (by omega)).trans h.c1,(hc 2 (by omega)).trans h.c2,(hc 3 (by omega)).trans h.c3,fun i=>by rw[bS];exact(aT (w:=w) (a:=⟨fb,i,none⟩) hB4).trans (h.fz i),⟨(if_neg (Ne.symm hgB)).trans o1,by omega⟩, ?_, ?_,fun k hk=> ?_,fun k hk=> ?_,fun u hu=> ?_, ?_,fun k hk=> ?_⟩, ?_⟩
 ·rw[Ue,a9,List.length_singleton];exact ownsRow_setCell_below hown (show fb<fb+1 by omega) _
 ·exact cV h.rr (fun k hk=>(keep k (h.rr.lt k hk).2 (by have:=h.tr k hk;omega) (by have:=h.tr k hk;omega)).1)
 ·have hk':g=k:=by simpa[Value.ownBlock]using hk
  exact if_pos hk'.symm
 ·have:=h.tr k hk;rw[(keep k (h.rr.lt k hk).2 (by omega) (by omega)).2];exact this
 ·rcases List.mem_append.1 hu with e | e
  ·exact(h.nd u e).keep (by omega) (fun k hk ho=>keep k hk (by omega) (by omega))
  ·rw[List.mem_singleton]at e;rw[e];exact ht.keep (by omega) (fun k hk ho=>keep k hk (by omega) (by omega))
 ·rw[gV];exact h.cl.snoc (fun m hm=>by rw[dQ];exact hcl m hm)
 ·rw[if_neg (by omega)];exact h.fr k (by omega)
 ·have hs:=(bK 0 w4).setCell (p:=⟨fb,0,none⟩) (cN _) (.slice (some ⟨g,0,none⟩) (L.length+1) cap);refine⟨hs.os.trans hgr.os,hs.tape.trans hgr.tape,hs.output.trans hgr.output,by omega,fun k hk h1 h2 _=>(keep k hk h1 h2).1,fun k hk=> ?_⟩;by_cases e:k=g
  ·simp only[e,if_true];exact(hog (by omega)).symm
  ·simp only[if_neg e]
end Go.Proofs.YtgjgjgihceijnaaGreat
namespace Go.Proofs.YtgjgjgihceijnaaGreat
open Go.RowKit Go.Stn
theorem Tryz.infoRNode:(Tryz.prog.info? 180).map (fun i=>(i.zero,i.size,i.bytes))=some (some (.agg #[.int .i64 0,.slice none 0 0,.slice none 0 0]),3,56):=by kernel_rfl
attribute [local go_sem ↓] Go.wp_at_zero Go.wp_at_succ
def Wt (fb:Nat)(w:World)(O:Nat->Nat)(L:List NV)(t:NV)(vR:Value)(rc:List Value)(nR pl cn:Nat)(e:Ending)(w':World):Prop:=
 e= .returned (.int .i64 (L.length:Int))/\∃O' vN',FN fb w' O' (L++ [t]) vN' vR rc nR pl cn/\FK w O w' O'
theorem nP {fb:Nat}{w:World}{O:Nat->Nat}{L:List NV}{vN vR:Value}{rc:List Value}{nR pl cn:Nat}(h:FN fb w O L vN vR rc nR pl cn)(k:Nat)(la ia:Option Addr)(ln lc n2 ic:Nat)(x:RN)(hk:x.k=k)(ht:zQ w O ⟨x,.slice la ln lc,.slice ia n2 ic⟩)(hcl:∀m,m∈x.l->m<L.length)(hn:L.length<=100000):
  Calls Tryz.prog 103 #[.pointer (some ⟨fb,0,none⟩),.agg #[.int .i64 (k:Int),.slice la ln lc,.slice ia n2 ic]] w (Wt fb w O L ⟨x,.slice la ln lc,.slice ia n2 ic⟩ vR rc nR pl cn):=by
 have hB:Below w.heap.size w (w.alloc (.cells #[.int .i64 (k:Int),.slice la ln lc,.slice ia n2 ic] 180)):=(bK _ _).alloc (aO _) _;have HF:=aA (h.below hB);have HT:=aA (ht.keep (w':=w.alloc (.cells #[.int .i64 (k:Int),.slice la ln lc,.slice ia n2 ic] 180)) (O':=O) hB.size (fun k hk _=>⟨hB.block k hk,rfl⟩));have HK0:=aA (FK.of_below hB O);have g0:(w.alloc (.cells #[.int .i64 (k:Int),.slice la ln lc,.slice ia n2 ic] 180)).cell? ⟨w.heap.size,0,none⟩=some (.int .i64 (k:Int)):=by rw[bC];rfl
 have g1:(w.alloc (.cells #[.int .i64 (k:Int),.slice la ln lc,.slice ia n2 ic] 180)).cell? ⟨w.heap.size,1,none⟩=some (.slice la ln lc):=by rw[bC];rfl
 have g2:(w.alloc (.cells #[.int .i64 (k:Int),.slice la ln lc,.slice ia n2 ic] 180)).cell? ⟨w.heap.size,2,none⟩=some (.slice ia n2 ic):=by rw[bC];rfl
 have hb1:fb<(w.alloc (.cells #[.int .i64 (k:Int),.slice la ln lc,.slice ia n2 ic] 180)).heap.size:=HF.out.wt.2;have c0:=HF.out.c0;have f0:=HF.out.fz 0;have HRN:=aA HF.out.rn;obtain⟨a0,q0,e0⟩:=aK h.rn;have HE0:=aA e0;obtain⟨n,en⟩:∃n,L.length=n:=⟨_,rfl⟩
 rw[e0]at c0 HRN;rw[en]at c0 HRN hn;have HEN:=aA en;have HL0:Hid (∀k,(Value.slice a0 n q0).ownBlock=some k->fb+1<=k):=fun k hk=>(HRN.out.lt k hk).1
 have HCL:=aA hcl;have HKK:=aA hk;clear h hB ht hcl e0 en hk;go_enter Tryz.func103,Tryz.ntmps103;go_upto_region 1 with fail;generalize w.alloc (.cells #[.int .i64 (k:Int),.slice la ln lc,.slice ia n2 ic] 180)=W at*;go_region_law ((refine lT W.drew rfl (.tmp 9) (.tmp 11) 62 rfl (fb+1) 180 (.agg #[.int .i64 0,.slice none 0 0,.slice none 0 0]) 3 56 Tryz.underlying62 Tryz.infoRNode rfl (by decide) (by decide) (.slice a0 n q0) n (nvC L) [.int .i64 (k:Int),.slice la ln lc,.slice ia n2 ic] _ rfl HRN.out W.heap.size rfl rfl rfl (by simp[Value.oneCell']) (by omega) (by show fb+1<=W.heap.size;omega) ?_;intro g4 cap4 w4 hown4 hgrow4 hat4 hlt4;have m3:=((bG hgrow4 (k:=fb) (by show fb<W.heap.size;omega) (fun e=>by have:=HL0.out fb e.symm;omega)).1 0).trans c0;have n3:=((bG hgrow4 (k:=fb) (by show fb<W.heap.size;omega) (fun e=>by have:=HL0.out fb e.symm;omega)).2 0).trans f0;have HO4:=aA hown4;have HG4:=aA hgrow4;have HA4:=aA hat4;clear hown4 hgrow4 hat4))
 all_goals
  obtain⟨hf5,hk5⟩:=(HF.out.draw 1).add (t:=⟨x,.slice la ln lc,.slice ia n2 ic⟩) HEN.out (by rw[HE0.out,HEN.out]) (by unfold NV.cells;rw[HKK.out];exact HO4.out) HG4.out HA4.out (HT.out.keep (aO _) (fun _ _ _=>⟨rfl,rfl⟩)) (fun m hm=>by rw[←HEN.out];exact HCL.out m hm);have HF5:=aA hf5;have HK5:=aA (HK0.out.trans ((FK.of_below (w:=W) (w':=W.drewN 1) ⟨rfl,rfl,rfl,aO _,fun _ _=>rfl⟩ O).trans hk5));have d0:=hf5.c0;have wn:IntKind.i64.wrap ((n:Int)+1 - 1)=(n:Int):=by rw[show(n:Int)+1 - 1=(n:Int) by omega];exact IntWalk.i64_in _ (by omega)
  clear hf5 hk5 c0 f0 g0 g1 g2 m3 n3;generalize w4.setCell ⟨fb,0,none⟩ (.slice (some ⟨g4,0,none⟩) (n+1) cap4)=W5 at*;go_wp2;go_ret;exact⟨by rw[HEN.out];first | rfl | (simp;done) | (congr 2;omega),_,_,HF5.out,HK5.out⟩
end Go.Proofs.YtgjgjgihceijnaaGreat
namespace Go.Proofs.YtgjgjgihceijnaaGreat
open Go.RowKit Go.Stn
def NdR (w:World)(t:NV):Prop:=
 (t.x.k=0/\t.x.l= []/\t.l= .slice none 0 0/\∃g,t.i= .slice (some ⟨g,0,none⟩) 256 256/\g<w.heap.size/\∀i,i<256->w.cell? ⟨g,i,none⟩=some (.bool (t.x.f i)))\/
 (t.x.k≠0/\t.i= .slice none 0 0/\∃g cap,t.l= .slice (some ⟨g,0,none⟩) t.x.l.length cap/\g<w.heap.size/\(∀(i m:Nat),t.x.l[i]? =some m->w.cell? ⟨g,i,none⟩=some (.int .i64 (m:Int)))/\t.x.l.length<=cap)
theorem zQ.read {w:World}{O:Nat->Nat}{t:NV}(h:zQ w O t):NdR w t:=by
 rcases h with⟨h1,h2,h3,g,h4,_,h6,h7⟩ | ⟨h1,h2,g,cap,h4,_,h6,h7⟩
 ·exact .inl ⟨h1,h2,h3,g,h4,h6,h7.c⟩
 ·exact .inr ⟨h1,h2,g,cap,h4,h6,h7⟩
theorem NdR.below {w w':World}{t:NV}{B:Nat}(h:NdR w t)(hB:Below B w w')(hb:w.heap.size<=B):NdR w' t:=by
 have hz:=hB.size;rcases h with⟨h1,h2,h3,g,h4,h6,h7⟩ | ⟨h1,h2,g,cap,h4,h6,h7⟩
 ·exact .inl ⟨h1,h2,h3,g,h4,by omega,fun i hi=>(hB.cell (p:=⟨g,i,none⟩) (by show g<B;omega)).trans (h7 i hi)⟩
 ·exact .inr ⟨h1,h2,g,cap,h4,by omega,fun i m hm=>(hB.cell (p:=⟨g,i,none⟩) (by show g<B;omega)).trans (h7.1 i m hm),h7.2⟩
structure FR (fb:Nat)(w:World)(L:List NV)(gN cap:Nat):Prop where
 c0:w.cell? ⟨fb,0,none⟩=some (.slice (some ⟨gN,0,none⟩) L.length cap)
 nd:∀(j:Nat) (t:NV),L[j]? =some t->w.rangeAt gN (j*3) t.cells/\NdR w t
 b0:fb<w.heap.size
 b1:gN<w.heap.size
theorem FR.below {fb gN cap B:Nat}{w w':World}{L:List NV}(h:FR fb w L gN cap)(hB:Below B w w')(hb:w.heap.size<=B):FR fb w' L gN cap:=by
 have hz:=hB.size;have h0:=h.b0;have h1:=h.b1;exact⟨(hB.cell (p:=⟨fb,0,none⟩) (by show fb<B;omega)).trans h.c0,fun j t ht=>⟨fun i v hv=>(hB.cell (p:=⟨gN,j*3+i,none⟩) (by show gN<B;omega)).trans ((h.nd j t ht).1 i v hv),(h.nd j t ht).2.below hB hb⟩,by omega,by omega⟩
theorem FN.read {fb:Nat}{w:World}{O:Nat->Nat}{L:List NV}{vN vR:Value}{rc:List Value}{nR pl cn:Nat}(h:FN fb w O L vN vR rc nR pl cn)(hL:0<L.length):∃gN cap,vN= .slice (some ⟨gN,0,none⟩) L.length cap/\FR fb w L gN cap:=by
 have hr:=h.rn;rcases bZ hr with e | ⟨g,cap,e⟩
 ·exfalso;obtain⟨a,c,e2⟩:=aK hr;rw[e]at e2;injection e2 with _ e3 _;omega
 ·refine⟨g,cap,e,by rw[←e];exact h.c0,fun j t ht=>⟨fun i v hv=> ?_,(h.nd t (bT ht)).read⟩,h.wt.2,(hr.lt g (by rw[e];rfl)).2⟩;have hc:=hr.cells (g:=g) (by rw[e];rfl);obtain⟨k0,k1,k2⟩:=Jp L j t ht;have go:∀u,(nvC L)[j*3+i]? =some u->w.cell? ⟨g,j*3+i,none⟩=some u:=fun u hu=>by
   have:=hc (j*3+i) u hu;have ea:(⟨g,0,none⟩:Addr).add (j*3+i)=⟨g,j*3+i,none⟩:=by
    unfold Addr.add;split
    ·rename_i e0;rw[e0]
    ·rw[Nat.zero_add]
   rw[ea]at this;exact this
  match i,hv with
  | 0,hv=>exact go v (by rw[Nat.add_zero,k0];exact hv)
  | 1,hv=>exact go v (by rw[k1];exact hv)
  | 2,hv=>exact go v (by rw[k2];exact hv)
  | i+3,hv=>exact absurd hv (by simp[NV.cells])
theorem Tryz.rnodeSize:(Tryz.prog.info? 180).map (fun i=>i.size)=some 3:=by kernel_rfl
theorem NV.one {w:World}{t:NV}(h:NdR w t):∀v∈t.cells,v.oneCell'=true:=by
 intro v hv;have hv:v= .int .i64 (t.x.k:Int)\/v=t.l\/v=t.i:=by simpa[NV.cells]using hv
 rcases h with⟨_,_,h3,g,h4,_⟩ | ⟨_,h2,g,cap,h4,_⟩
 ·rcases hv with e | e | e
  ·rw[e];rfl
  ·rw[e,h3];rfl
  ·rw[e,h4];rfl
 ·rcases hv with e | e | e
  ·rw[e];rfl
  ·rw[e,h4];rfl
  ·rw[e,h2];rfl
theorem xV {L:List NV}{n:Nat}{t:NV}(h:L[n]? =some t):(nvN L)[n]? =some t.x:=by unfold nvN;rw[List.getElem?_map,h];rfl
theorem wC {fb gN cap:Nat}{L:List NV}(hs:kP (nvN L))(hc:aN (nvN L))(_hL:L.length<=100000):∀(n:Nat),n<L.length->∀(w:World),FR fb w L gN cap->
  Calls Tryz.prog 109 #[.pointer (some ⟨fb,0,none⟩),.int .i64 (n:Int)] w fun e w'=>e= .returned (.bool (emB (nvN L) n))/\Below w.heap.size w w':=by
 intro n
 induction n using Nat.strongRecOn with
 | ind n ih=>
  intro hn w h;obtain⟨t,ht⟩:∃t,L[n]? =some t:=⟨L[n],bO hn⟩
  have HE:=aA (Wd hs hc (xV ht));have hsh:=hs n t.x (xV ht);have HC:=aA (hc n t.x (xV ht));have HIH:=aA ih;have HND:=aA (h.nd n t ht).1;have HNR:=aA (h.nd n t ht).2;have hnI:(0:Int)<=(n:Int)/\(n:Int)<(L.length:Int):=by omega
  have c0:=h.c0;have HF:=aA h;have HBW:Hid (Below w.heap.size w ((w.alloc (.cells #[.int .i64 0,.slice none 0 0,.slice none 0 0] 180)).setCells w.heap.size 0 t.cells)):=aD _ 0 _ _ ((bK _ _).alloc (aO _) _) (aO _);have HTH:Hid ((w.alloc (.cells #[.int .i64 0,.slice none 0 0,.slice none 0 0] 180)).there w.heap.size 0 3):=bI _ _ _ _ _ rfl rfl;have HRW:Hid (((w.alloc (.cells #[.int .i64 0,.slice none 0 0,.slice none 0 0] 180)).setCells w.heap.size 0 t.cells).rangeAt w.heap.size 0 t.cells):=World.rangeAt_setCells_same _ _ _ _ HTH.out;have hzW:w.heap.size<((w.alloc (.cells #[.int .i64 0,.slice none 0 0,.slice none 0 0] 180)).setCells w.heap.size 0 t.cells).heap.size:=by
   have:=(aD t.cells 0 (w.alloc (.cells #[.int .i64 0,.slice none 0 0,.slice none 0 0] 180)) w.heap.size (bK 0 _) (cN _)).size;simp at this;omega
  have HON:=aA (NV.one HNR.out);clear ih h ht;go_enter Tryz.func109,Tryz.ntmps109;go_upto_region 2 with(first
   | (refine wpList_load_mid rfl 180 (.tmp 15) rfl gN (n*3) rfl t.cells _ HND.out Tryz.underlying180 rfl Tryz.rnodeSize ?_)
   | (refine wpList_store_mid rfl 180 (.tmp 5) (.tmp 16) rfl w.heap.size 0 t.cells.toArray rfl rfl HTH.out Tryz.rnodeSize (all_oneCell_toArray HON.out) ?_))
  generalize (w.alloc (.cells #[.int .i64 0,.slice none 0 0,.slice none 0 0] 180)).setCells w.heap.size 0 t.cells=W at*;have HFW:=aA (HF.out.below HBW.out (aO _));have HNW:=aA (HNR.out.below HBW.out (aO _));have n0:W.cell? ⟨w.heap.size,0,none⟩=some (.int .i64 (t.x.k:Int)):=by have:=HRW.out 0 _ rfl;exact this
  have n1:W.cell? ⟨w.heap.size,1,none⟩=some t.l:=by have:=HRW.out 1 _ rfl;exact this
  clear HTH HND c0 HRW HON HF HNR;have h5:t.x.k=0\/t.x.k=3\/t.x.k=4\/(t.x.k=1\/t.x.k=2):=by omega
  rcases h5 with e | e | e | e
  ·have HR:Hid (emB (nvN L) n=false):=by unfold Hid;rw[HE.out,if_pos e]
   rw[e]at n0;clear e hsh;go_wp2;go_ret;exact⟨by rw[HR.out];rfl,HBW.out⟩
  ·have HR:Hid (emB (nvN L) n=true):=by unfold Hid;rw[HE.out,if_neg (by omega),if_pos (by omega)]
   rw[e]at n0;clear e hsh;go_wp2;go_ret;exact⟨by rw[HR.out];rfl,HBW.out⟩
  ·have HR:Hid (emB (nvN L) n=true):=by unfold Hid;rw[HE.out,if_neg (by omega),if_pos (by omega)]
   rw[e]at n0;clear e hsh;go_wp2;go_ret;exact⟨by rw[HR.out];rfl,HBW.out⟩
  ·obtain⟨g,lc,hl,hg,HG⟩:∃g lc,t.l= .slice (some ⟨g,0,none⟩) t.x.l.length lc/\g<W.heap.size/\Hid (∀(i m:Nat),t.x.l[i]? =some m->W.cell? ⟨g,i,none⟩=some (.int .i64 (m:Int))):=by
    rcases HNW.out with⟨h0,_⟩ | ⟨_,_,g,lc,h1,h2,h3⟩
    ·omega
    ·exact⟨g,lc,h1,h2,aA h3.1⟩
   rw[hl]at n1;have hll:=hsh.2.2;have HR:Hid (emB (nvN L) n=if t.x.k=1 then t.x.l.all (emB (nvN L))else t.x.l.any (emB (nvN L))):=by unfold Hid;rw[HE.out,if_neg (by omega),if_neg (by omega)]
   have d0:((t.x.k:Int)==0)=false:=by rw[beq_eq_false_iff_ne];omega
   have d3:((t.x.k:Int)==3)=false:=by rw[beq_eq_false_iff_ne];omega
   have d4:((t.x.k:Int)==4)=false:=by rw[beq_eq_false_iff_ne];omega
   have HEK:=aA e;clear e hsh hl HE HNW;generalize t.x.k=kk at*;generalize t.x.l=l at*;obtain⟨N,eN⟩:∃N,l.length=N:=⟨_,rfl⟩
   rw[eN]at n1 hll;have HLN:=aA eN;clear eN;go_wp2
   go_loopw [6,7,8] (fun x y z wr=>∃(i:Nat) (a b:Bool),i<=N/\z= .int .i64 (i:Int)/\x= .bool a/\y= .bool b/\Hid (a=(l.take i).all (emB (nvN L)))/\Hid (b=(l.take i).any (emB (nvN L)))/\Below W.heap.size W wr) (fun _ _ z _=>N - (intOf z).toNat)
   case atStart=>exact⟨0,true,false,by omega,rfl,rfl,rfl,aA (by simp),aA (by simp),(bK _ _)⟩
   case round=>
    obtain⟨i,a,b,hi,rfl,rfl,rfl,Ha,Hb,hbw⟩:=hrel;have HBR:=aA hbw;have m0:wr.cell? ⟨w.heap.size,0,none⟩=some (.int .i64 (kk:Int)):=(hbw.cell (p:=⟨w.heap.size,0,none⟩) hzW).trans n0;have m1:wr.cell? ⟨w.heap.size,1,none⟩=some (.slice (some ⟨g,0,none⟩) N lc):=(hbw.cell (p:=⟨w.heap.size,1,none⟩) hzW).trans n1;by_cases hlt:i<N
    ·obtain⟨m,hm⟩:∃m,l[i]? =some m:=⟨l[i]'(by rw[HLN.out];exact hlt),bO _⟩
     have hmn:=HC.out m (bT hm);have m2:wr.cell? ⟨g,i,none⟩=some (.int .i64 (m:Int)):=(hbw.cell (p:=⟨g,i,none⟩) hg).trans (HG.out i m hm);have hiI:(0:Int)<=(i:Int)/\(i:Int)<(N:Int):=by omega
     have HA:=aA (Ox (emB (nvN L)) l hm);have HY:=aA (Pw (emB (nvN L)) l hm);have HFR:=aA (HFW.out.below hbw (aO _));clear hbw n0 n1 hm
     cases a<;> cases b
     all_goals
      go_wp2_with (go_at_call 109;refine(HIH.out m hmn (by omega) _ (HFR.out.below ⟨rfl,rfl,rfl,aO _,fun _ _=>rfl⟩ (aO _))).mono ?_;rintro e w5 ⟨rfl,hb5⟩;have HB5:=aA hb5;clear hb5)
      all_goals
      go_roundw
      case rel=>exact⟨i+1,_,_,hlt,by go_num,rfl,rfl,aA (by rw[HA.out,←Ha.out];simp),aA (by rw[HY.out,←Hb.out];simp),HBR.out.trans (HB5.out.mono HBR.out.size)⟩
      case measure=>simp[intOf];omega
    ·have ei:i=N:=by omega
     have HT:Hid (l.take i=l):=by unfold Hid;rw[ei,←HLN.out];exact List.take_length
     have dl:decide ((i:Int)<(N:Int))=false:=by simp;omega
     clear ei hbw n0 n1;rcases HEK.out with e1 | e1
     ·have HR2:Hid (emB (nvN L) n=(l.take i).all (emB (nvN L))):=by unfold Hid;rw[HR.out,if_pos e1,HT.out]
      rw[e1]at m0;clear e1;go_wp2;go_ret;exact⟨by rw[HR2.out,←Ha.out];rfl,HBW.out.trans (HBR.out.mono HBW.out.size)⟩
     ·have HR2:Hid (emB (nvN L) n=(l.take i).any (emB (nvN L))):=by unfold Hid;rw[HR.out,if_neg (by omega),HT.out]
      rw[e1]at m0;clear e1;go_wp2;go_ret;exact⟨by rw[HR2.out,←Hb.out];rfl,HBW.out.trans (HBR.out.mono HBW.out.size)⟩
end Go.Proofs.YtgjgjgihceijnaaGreat
namespace Go.Proofs.YtgjgjgihceijnaaGreat
open Go.RowKit Go.Stn
variable {w w':World} {O O':Nat->Nat} {fb nR pl cn:Nat} {L:List NV} {vN vR:Value} {rc:List Value}
def OkN (L:List NV)(pl:Nat):Prop:=kP (nvN L)/\((nvN L).filter (fun x=>x.k==0)).length=pl
theorem OkN.le (h:OkN L pl):pl<=L.length:=by
 rw[←h.2,←dQ L];exact List.length_filter_le _ _
theorem OkN.place (h:OkN L pl){t:NV}(hk:t.x.k=0)(hl:t.x.l= []):OkN (L++ [t]) (pl+1):=by
 refine⟨by rw[gV];exact h.1.snoc ⟨by omega,fun e=>by omega,by rw[hl];simp⟩, ?_⟩;rw[gV,cF,a9,h.2];simp[hk]
theorem OkN.more (h:OkN L pl){t:NV}(hk:0<t.x.k/\t.x.k<=4)(h3:t.x.k=3->∃m,t.x.l= [m])(hl:t.x.l.length<=200):OkN (L++ [t]) pl:=by
 refine⟨by rw[gV];exact h.1.snoc ⟨hk.2,h3,hl⟩, ?_⟩;rw[gV,cF,a9,h.2];have:(t.x.k==0)=false:=by rw[beq_eq_false_iff_ne];omega
 simp[this]
theorem FN.pls (h:FN fb w O L vN vR rc nR pl cn)(p:Nat):FN fb (w.setCell ⟨fb,2,none⟩ (.int .i64 (p:Int))) O L vN vR rc nR p cn/\FK w O (w.setCell ⟨fb,2,none⟩ (.int .i64 (p:Int))) O:=by
 obtain⟨o1,b1⟩:=h.wt;have hB:∀k,k≠fb->(w.setCell ⟨fb,2,none⟩ (.int .i64 (p:Int))).heap[k]? =w.heap[k]? :=fun k hk=>cB w fb 2 _ hk
 have hz:(w.setCell ⟨fb,2,none⟩ (.int .i64 (p:Int))).heap.size=w.heap.size:=by simp[cO]
 have hc:∀i,i≠2->(w.setCell ⟨fb,2,none⟩ (.int .i64 (p:Int))).cell? ⟨fb,i,none⟩=w.cell? ⟨fb,i,none⟩:=fun i hi=>bM _ _ _ _ (by intro e1;injection e1;omega)
 have hs:=(bK 0 w).setCell (p:=⟨fb,2,none⟩) (cN _) (.int .i64 (p:Int));refine⟨⟨(hc 0 (by omega)).trans h.c0,(hc 1 (by omega)).trans h.c1,bN _ _ _ h.c2,(hc 3 (by omega)).trans h.c3,fun i=>by rw[bS];exact h.fz i,⟨o1,by omega⟩,
  cV h.rn (fun k hk=>hB k (by have:=(h.rn.lt k hk).1;omega)),cV h.rr (fun k hk=>hB k (by have:=(h.rr.lt k hk).1;omega)),h.tn,h.tr,
  fun t ht=>(h.nd t ht).keep (by omega) (fun k hk ho=>⟨hB k (fun e=>by rw[e,o1]at ho;cases ho),rfl⟩),h.cl,fun k hk=>h.fr k (by omega)⟩,
  ⟨hs.os,hs.tape,hs.output,by omega,fun k hk h1 _ _=>hB k (fun e=>h1 (by rw[e];exact o1)),fun _ _=>rfl⟩⟩
theorem FK.tag {g:Nat}(h:FK w O w' O')(hg:w.heap.size<=g):FK w O w' (fun k=>if k=g then 4 else O' k):=
 ⟨h.os,h.tape,h.output,h.size,h.block,fun k hk=>by
  simp only[if_neg (show k≠g by omega)];exact h.own k hk⟩
def nM (q fb:Nat)(w:World)(O:Nat->Nat)(L:List NV)(vR:Value)(rc:List Value)(nR pl cn i:Nat)(x:Option (Rx×Nat))(e:Ending)(w':World):Prop:=
 match x with
 | none=>∃(a b:Int) (O':Nat->Nat),e= .returned (.tuple #[.int .i64 a,.int .i64 b,.bool false])/\FK w O w' O'
 | some (r,a)=>∃(n:Nat) (M:List NV) (vN':Value) (O':Nat->Nat),e= .returned (.tuple #[.int .i64 (n:Int),.int .i64 (a:Int),.bool true])/\FN fb w' O' (L++M) vN' vR rc nR (pl+r.np) cn/\FK w O w' O'/\Stn.Sem (nvN (L++M)) n r/\OkN (L++M) (pl+r.np)/\M.length+q<=3*(a - i)
def Ge (F:FuncId)(s:ByteArray)(q p lo:Nat)(ex:Nat->Option (Rx×Nat)):Prop:=
 ∀(fb:Nat) (w:World) (O:Nat->Nat) (L:List NV) (vN vR:Value) (rc:List Value) (nR pl cn i:Nat),FN fb w O L vN vR rc nR pl cn->OkN L pl->lo<=i->i+p<=s.size->L.length+3*(s.size - i)<=5000->
  Calls Tryz.prog F #[.pointer (some ⟨fb,0,none⟩),.string s,.int .i64 (i:Int)] w (nM q fb w O L vR rc nR pl cn i (ex i))
end Go.Proofs.YtgjgjgihceijnaaGreat
namespace Go.Proofs.YtgjgjgihceijnaaGreat
open Go.RowKit Go.Stn
theorem nM.bad {q fb:Nat}{w w':World}{O O':Nat->Nat}{L:List NV}{vR:Value}{rc:List Value}{nR pl cn i:Nat}{a b:Int}(h:FK w O w' O'):nM q fb w O L vR rc nR pl cn i none (.returned (.tuple #[.int .i64 a,.int .i64 b,.bool false])) w':=⟨a,b,O',rfl,h⟩
theorem nM.good {q fb:Nat}{w w':World}{O O':Nat->Nat}{L M:List NV}{vN' vR:Value}{rc:List Value}{nR pl cn i n a:Nat}{r:Rx}(hf:FN fb w' O' (L++M) vN' vR rc nR (pl+r.np) cn)(hk:FK w O w' O')(hs:Stn.Sem (nvN (L++M)) n r)(ho:OkN (L++M) (pl+r.np))(hm:M.length+q<=3*(a - i)):
  nM q fb w O L vR rc nR pl cn i (some (r,a)) (.returned (.tuple #[.int .i64 (n:Int),.int .i64 (a:Int),.bool true])) w':=⟨n,M,vN',O',rfl,hf,hk,hs,ho,hm⟩
theorem Lq {s:ByteArray}{ex:Nat->Option (Rx×Nat)}{i:Nat}(hi:i<s.size)(h:bt s i=40):fI s ex i=match kL s ex (i+1)with
  | none=>none
  | some (r,a1)=>if isB s 41 a1=true then some (r,a1+1)else none:=by
 rw[←Lr];unfold fI;have e:isB s 40 i=true:=by have:=dF hi 40;rw[show((40:Nat):Int)=40 from rfl]at this;rw[this];simp[h]
 rw[if_pos e]
 rfl
theorem Fz {s:ByteArray}{ex:Nat->Option (Rx×Nat)}{i:Nat}(hi:i<s.size)(h:bt s i≠40):fI s ex i=match cD s i with
  | none=>none
  | some (f,a1)=>some (.pl f,a1):=by
 unfold fI;have e:¬isB s 40 i=true:=by have:=dF hi 40;rw[show((40:Nat):Int)=40 from rfl]at this;rw[this];simp[h]
 rw[if_neg e]
 rfl
theorem Mh {s:ByteArray}{ex:Nat->Option (Rx×Nat)}{i a:Nat}{r:Rx}(h:kL s ex i=some (r,a)):s.size<=a\/bt s a=41:=by
 unfold kL at h
 cases e:ex i with
 | none=>rw[e]at h;cases h
 | some y=>
  obtain⟨r2,a2⟩:=y;rw[e]at h;simp only at h;split at h
  ·rename_i hs;injection h with h;injection h with _ h;rw[←h];unfold oC at hs;rw[decide_eq_true_eq]at hs;exact hs
  ·cases h
theorem Lz {s:ByteArray}{ex:Nat->Option (Rx×Nat)}{lo:Nat}(hs:s.size<=500)(hx:Ge 76 s 0 0 lo (kL s ex))(hb:nD s ex):Ge 116 s 2 1 (lo - 1) (fI s ex):=by
 intro fb w O L vN vR rc nR pl cn i h hok hlo hi hL;have hp:pl<=5000:=by have:=hok.le;omega
 have hi:i<s.size:=hi;have hy:(s[i]'hi).toNat=bt s i:=jE s i hi;have hlt:=jS s i;have hiI:(0:Int)<=(i:Int)/\(i:Int)<(s.size:Int):=by omega
 have hix:(i:Int)+1=((i+1:Nat):Int):=by omega
 by_cases k1:bt s i=40
 ·have HE:=aA (Lq (ex:=ex) hi k1);rw[k1]at hy;have HX:Hid (∀W,FN fb W O L vN vR rc nR pl cn->Calls Tryz.prog 76 #[.pointer (some ⟨fb,0,none⟩),.string s,.int .i64 ((i:Int)+1)] W (nM 0 fb W O L vR rc nR pl cn (i+1) (kL s ex (i+1)))):=fun W hW=>by
   rw[hix];exact hx fb W O L vN vR rc nR pl cn (i+1) hW hok (by omega) (by omega) (by omega)
  have HF:=aA h;have HSB:=aA (fun r a=>Iq hb (i+1) r a);have HST:=aA (fun r a=> @Mh s ex (i+1) a r);clear hx hb h k1 hix hlt;generalize kL s ex (i+1)=A at*
  cases A with
  | none=>
   go_enter Tryz.func116,Tryz.ntmps116;go_wp2_with fail;refine(HX.out _ (HF.out.below ⟨rfl,rfl,rfl,aO _,fun _ _=>rfl⟩)).mono ?_;rintro e w1 ⟨a,b,O',rfl,hk⟩;have HK:=aA hk;clear hk;go_wp2;go_ret3;rw[HE.out];exact nM.bad HK.out
  | some y=>
   obtain⟨r,a1⟩:=y;have hsb:=HSB.out r a1 rfl;have hst:=HST.out r a1 rfl;clear HSB HST;by_cases ha:a1<s.size
   ·have h41:bt s a1=41:=hst.resolve_left (by omega);have hz:(s[a1]'ha).toNat=41:=by rw[jE s a1 ha];exact h41
    have HE2:Hid (fI s ex i=some (r,a1+1)):=by
     unfold Hid;rw[HE.out];have e:isB s 41 a1=true:=by have:=dF ha 41;rw[show((41:Nat):Int)=41 from rfl]at this;rw[this];simp[h41]
     simp only;rw[if_pos e]
    have haI:(0:Int)<=(a1:Int)/\(a1:Int)<(s.size:Int):=by omega
    clear h41 hst;go_enter Tryz.func116,Tryz.ntmps116;go_wp2_with fail;refine(HX.out _ (HF.out.below ⟨rfl,rfl,rfl,aO _,fun _ _=>rfl⟩)).mono ?_;rintro e w1 ⟨n,M,vN',O',rfl,hf,hk,hsm,hok2,hM⟩;have HF1:=aA hf;have HK:=aA hk;have HSM:=aA hsm;have HOK:=aA hok2;clear hf hk hsm hok2;go_wp2;go_ret3;rw[HE2.out];exact nM.good HF1.out HK.out HSM.out HOK.out (by omega)
   ·have HE2:Hid (fI s ex i=none):=by
     unfold Hid;rw[HE.out];have e:¬isB s 41 a1=true:=by rw[show(41:Int)=((41:Nat):Int) from rfl,pL (by omega)];simp
     simp only;rw[if_neg e]
    clear hst;go_enter Tryz.func116,Tryz.ntmps116;go_wp2_with fail;refine(HX.out _ (HF.out.below ⟨rfl,rfl,rfl,aO _,fun _ _=>rfl⟩)).mono ?_;rintro e w1 ⟨n,M,vN',O',rfl,hf,hk,hsm,hok2,hM⟩;have HK:=aA hk;clear hf hk hsm hok2;go_wp2;go_ret3;rw[HE2.out];exact nM.bad HK.out
 ·have HE:=aA (Fz (ex:=ex) hi k1);have t1:((bt s i:Int)==40)=false:=by rw[beq_eq_false_iff_ne];omega
  have HF:=aA h;have HAB:=aA (fun f a=>J5 s i f a);have HOK:=aA hok;have HP:=aA (fun W=>Ie s i W hs hi);generalize bt s i=y at*;clear hx hb h k1 hix hok;generalize cD s i=A at*
  cases A with
  | none=>
   go_enter Tryz.func116,Tryz.ntmps116;go_wp2_with fail;refine(HP.out _).mono ?_;rintro e w1 ⟨hb1,v,a,rfl⟩;have HK:=aA (FK.of_below hb1 O);clear hb1;go_wp2;go_ret3;rw[HE.out];exact nM.bad HK.out
  | some p=>
   obtain⟨f,a1⟩:=p;have hab:=HAB.out f a1 rfl;clear HAB;go_enter Tryz.func116,Tryz.ntmps116;go_wp2_with fail;refine(HP.out _).mono ?_;rintro e w1 ⟨hb1,g,rfl,hg0,hg1,hba⟩;have hw:=HF.out.wt;have hz1:=hb1.size;have HF1:=aA (HF.out.below hb1);have HF2:=aA (HF1.out.tag (g:=g) (HF.out.fr g hg0) hg1);have HK2:=aA ((FK.of_below hb1 O).tag hg0);have HP3:=aA (HF2.out.pls (pl+1));have HN2:Hid (zQ w1 (fun k=>if k=g then 4 else O k) ⟨⟨0,[],f⟩,.slice none 0 0,.slice (some ⟨g,0,none⟩) 256 256⟩):= .inl ⟨rfl,rfl,rfl,g,rfl,if_pos rfl,hg1,hba⟩;have HN3:Hid (zQ (w1.setCell ⟨fb,2,none⟩ (.int .i64 ((pl+1:Nat):Int))) (fun k=>if k=g then 4 else O k) ⟨⟨0,[],f⟩,.slice none 0 0,.slice (some ⟨g,0,none⟩) 256 256⟩):=HN2.out.keep HP3.out.2.size (fun k hk ho=>⟨cB w1 fb 2 _ (fun e=>by
    have:=HF2.out.wt.1;rw[e]at ho;omega),rfl⟩)
   have c2:=HF1.out.c2;have f2:=HF1.out.fz 2;have hpx:((pl+1:Nat):Int)=(pl:Int)+1:=by omega
   rw[hpx]at HP3 HN3;clear hb1 hba hg0 hpx;go_wp2_with fail;generalize w1.setCell ⟨fb,2,none⟩ (.int .i64 ((pl:Int)+1))=W2 at*;refine(nP (HP3.out.1) 0 none (some ⟨g,0,none⟩) 0 0 256 256 ⟨0,[],f⟩ rfl HN3.out (fun m hm=>absurd hm List.not_mem_nil) (by omega)).mono ?_;rintro e w3 ⟨rfl,O3,vN3,hf3,hk3⟩;have HF3:=aA hf3;have HK3:=aA (HK2.out.trans (HP3.out.2.trans hk3));clear hf3 hk3 c2 f2;go_wp2;go_ret3;rw[HE.out];refine nM.good (r:= .pl f) HF3.out HK3.out ?_ (HOK.out.place rfl rfl) (by simp;omega);rw[gV,←dQ L];exact Nm HF.out.cl f
end Go.Proofs.YtgjgjgihceijnaaGreat
