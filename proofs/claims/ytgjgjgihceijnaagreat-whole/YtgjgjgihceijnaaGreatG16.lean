import Derived.Test.YtgjgjgihceijnaaGreatG14
import Derived.Test.YtgjgjgihceijnaaGreatG15
open List renaming getD_eq_getElem?_getD->aL,getElem?_eq_getElem->aR,getElem?_map->aT,getElem?_append_left->bC,length_replicate->bK,getElem?_append_right->bM,getElem?_eq_some_iff->bN,getElem?_range->bS,mem_singleton->bT,replicate->cL,getElem?_cons_succ->cT,mem_append->eM,set_cons_succ->eO,length_append->eR,length_set->eX,range->gL
open Nat renaming le_refl->aO,lt_succ_self->bO,lt_of_lt_of_le->cN,zero_add->eS
open Go.Value renaming slice->bD,ownBlock->cO,int->cR
open Go.RowKit.Below renaming heap_setCell->cF,refl->eL
open Go.World renaming setCell->cP,ownsRow_nil->eT
open Option renaming map_some->eN
set_option maxRecDepth 100000
set_option maxHeartbeats 8000000
namespace Go.Stn
open Go.RowKit
def pX (ahead:Int):List Int->List Int->List Int->List Int×List Int
 | [],acc,S=>(acc,S)
 | a::r,acc,S=>pX ahead r (acc++ [(toP S (gZ ahead a)).1]) (toP S (gZ ahead a)).2
def eF (next:Nat->Int)(begin:Int)(S:List Int)(s:Nat):Int:=if s=0 then begin else K1 next (S.getD s 0)
def iB (next:Nat->Int)(begin:Int)(G:List Int):Nat->Nat->List Int->List (List Int)->List Int×List (List Int)
 | 0,_,S,R=>(S,R)
 | f+1,s,S,R=>if s<S.length then iB next begin G f (s+1) (pX (eF next begin S s) G [] S).2 (R++ [(pX (eF next begin S s) G [] S).1])else(S,R)
def cG (next:Nat->Int)(begin:Int)(G:List Int):List Int×List (List Int):=iB next begin G 1025 0 [0] []
theorem Z9 {S:List Int}(h:kA S)(x:Int):kA (toP S x).2/\S.length<=(toP S x).2.length/\(∀i,i<S.length->(toP S x).2.getD i 0=S.getD i 0)/\((toP S x).1= -1\/(0<=(toP S x).1/\(toP S x).1<(toP S x).2.length)):=by
 unfold toP;split
 ·exact⟨h,aO _,fun _ _=>rfl,.inl rfl⟩
 ·rename_i hx;split
  ·rename_i hm;have:=J0 hm;exact⟨h,aO _,fun _ _=>rfl,.inr ⟨by simp only;omega,by simp only;omega⟩⟩
  ·rename_i hm;refine⟨Ef h hm (by omega) (by omega),by simp,fun i hi=> ?_,.inr ⟨by simp only;omega,by simp;omega⟩⟩;simp only;rw[aL,aL,bC hi]
theorem Ju {ahead:Int}:∀(G acc S:List Int),kA S->(∀y∈acc,y= -1\/(0<=y/\y<S.length))->
  kA (pX ahead G acc S).2/\S.length<=(pX ahead G acc S).2.length/\(∀i,i<S.length->(pX ahead G acc S).2.getD i 0=S.getD i 0)/\(pX ahead G acc S).1.length=acc.length+G.length/\
   ∀y∈(pX ahead G acc S).1,y= -1\/(0<=y/\y<(pX ahead G acc S).2.length):=by
 intro G
 induction G with
 | nil=>intro acc S h ha;exact⟨h,aO _,fun _ _=>rfl,rfl,ha⟩
 | cons a r ih=>
  intro acc S h ha;obtain⟨h1,h2,h3,h4⟩:=Z9 h (gZ ahead a);rw[pX];obtain⟨k1,k2,k3,k4,k5⟩:=ih (acc++ [(toP S (gZ ahead a)).1]) (toP S (gZ ahead a)).2 h1 (fun y hy=>by
   rcases eM.1 hy with q | q
   ·rcases ha y q with q1 | q1
    ·exact .inl q1
    ·exact .inr ⟨q1.1,by omega⟩
   ·rw[bT]at q;rw[q];exact h4)
  exact⟨k1,Nat.le_trans h2 k2,fun i hi=>(k3 i (by omega)).trans (h3 i hi),by rw[k4];simp;omega,k5⟩
theorem S4 {ahead:Int}{G acc S:List Int}{j:Nat}{a:Int}(h:G[j]? =some a):pX ahead (G.drop j) acc S=pX ahead (G.drop (j+1)) (acc++ [(toP S (gZ ahead a)).1]) (toP S (gZ ahead a)).2:=by
 have e:G.drop j=a::G.drop (j+1):=by
  obtain⟨hk,he⟩:=bN.1 h;rw[List.drop_eq_getElem_cons hk,he]
 rw[e,pX]
def enE (lasts:List Int)(S:List Int)(s:Nat)(zb:Nat->Nat)(K:Nat):List (Nat×Value):=
 (gL S.length).map fun i=>(rR lasts (S.getD i 0),if i<s then bD (some ⟨zb i,0,none⟩) K K else bD none 0 0)
theorem nG (lasts S:List Int)(s:Nat)(zb:Nat->Nat)(K:Nat):(enE lasts S s zb K).length=S.length:=by simp[enE]
theorem Vb {lasts S:List Int}{s K C:Nat}{zb:Nat->Nat}(hs:s<S.length):enE lasts S (s+1) (fun i=>if i=s then C else zb i) K=(enE lasts S s zb K).set s (rR lasts (S.getD s 0),.slice (some ⟨C,0,none⟩) K K):=by
 refine List.ext_getElem? (fun i=> ?_);by_cases e:i=s
 ·subst e;rw[List.getElem?_set_self (by rw[nG];exact hs)];unfold enE;rw[aT,bS hs];simp
 ·rw[List.getElem?_set_ne (fun h=>e h.symm)];unfold enE;rw[aT,aT]
  cases hr:(gL S.length)[i]? with
  | none=>rfl
  | some j=>
   have hj:j=i:=by
    obtain⟨h1,h2⟩:=bN.1 hr;simp at h2;exact h2.symm
   subst hj;simp only[eN];by_cases h3:j<s
   ·rw[if_pos h3,if_pos (by omega),if_neg e]
   ·rw[if_neg h3,if_neg (by omega)]
theorem Ur:∀(E:List (Nat×Value)) (s:Nat) (t:Nat) (u v:Value),E[s]? =some (t,u)->(enC E).set (s*2+1) v=enC (E.set s (t,v)):=by
 intro E
 induction E with
 | nil=>intro s t u v h;simp at h
 | cons e r ih=>
  intro s t u v h;have hc:enC (e::r)=cR .i64 (e.1:Int)::e.2::enC r:=by simp[enC]
  cases s with
  | zero=>
   have he:e=(t,u):=by simpa using h
   subst he;rw[hc];simp[enC]
  | succ j=>
   rw[hc,show(j+1)*2+1=(j*2+1)+1+1 by omega,eO,eO,ih j t u v (by simpa using h)];simp[enC]
theorem Y8:∀(E:List (Nat×Value)) (s:Nat) (t:Nat) (u:Value),E[s]? =some (t,u)->(enC E)[s*2+1]? =some u/\(enC E)[s*2]? =some (.int .i64 (t:Int)):=by
 intro E
 induction E with
 | nil=>intro s t u h;simp at h
 | cons e r ih=>
  intro s t u h;have hc:enC (e::r)=cR .i64 (e.1:Int)::e.2::enC r:=by simp[enC]
  cases s with
  | zero=>
   have he:e=(t,u):=by simpa using h
   subst he;rw[hc];simp
  | succ j=>
   rw[hc,show(j+1)*2+1=(j*2+1)+1+1 by omega,show(j+1)*2=j*2+1+1 by omega];simpa using ih j t u (by simpa using h)
theorem Hv {w:World}{base e size g n cap:Nat}{xs:List Value}(h:w.ownsRow base e size (.slice (some ⟨g,0,none⟩) n cap) n xs)(i:Nat)(u:Value):(w.setCell ⟨g,i,none⟩ u).ownsRow base e size (.slice (some ⟨g,0,none⟩) n cap) n (xs.set i u):=by
 refine⟨by rw[eX];exact h.1, ?_⟩;rcases h.2 with⟨hn,_⟩ | ⟨g',cap',cur,he,hbg,hg,hnc,hcm,hcs,htk⟩
 ·cases hn
 ·cases he
  refine .inr ⟨g,cap,cur.setIfInBounds i u,rfl,hbg, ?_,hnc,hcm,by rw[Array.size_setIfInBounds];exact hcs, ?_⟩
  ·unfold cP;simp only[Array.getElem?_modify,hg];simp
  ·rw[Array.toList_setIfInBounds,List.take_set,htk]
end Go.Stn
namespace Go.Proofs.YtgjgjgihceijnaaGreat
open Go.RowKit Go.Stn
theorem Ui {lasts S:List Int}{s K:Nat}{zb:Nat->Nat}(hs:s<=S.length)(x:Int):toE lasts S (enE lasts S s zb K) x=enE lasts (toP S x).2 s zb K:=by
 unfold toE toP;split
 ·rfl
 ·split
  ·rfl
  ·unfold enE;simp only[eR,List.length_singleton];rw[List.range_succ,List.map_append,List.map_singleton];congr 1
   ·refine List.map_congr_left (fun i hi=> ?_);have:=List.mem_range.1 hi;rw[aL,aL,bC this]
   ·rw[if_neg (by omega),aL,bM (aO _)];simp
variable {w w':World} {wb:Nat} {num:Nat->Int} {S:List Int} {E:List (Nat×Value)} {vs:Value}
theorem WK.setNext {tg cap:Nat}(h:WK w wb num S E vs (.slice (some ⟨tg,0,none⟩) E.length cap)){s t:Nat}{u:Value}(hs:E[s]? =some (t,u))(v:Value):
  WK (w.setCell ⟨tg,s*2+1,none⟩ v) wb num S (E.set s (t,v)) vs (.slice (some ⟨tg,0,none⟩) E.length cap):=by
 have hlt:=(h.rt.lt tg rfl).1;have o:∀j a,w.cell? ⟨wb,j,none⟩=some a->(w.setCell ⟨tg,s*2+1,none⟩ v).cell? ⟨wb,j,none⟩=some a:=fun j a ha=>by
  rw[World.cell?_setCell_other (h:=by intro e;injection e;omega)];exact ha
 refine⟨o _ _ h.c0,fun x hx=>o _ _ (h.nm x hx),o _ _ h.c2,fun i=>by rw[World.frozen?_setCell];exact h.fz i, ?_, ?_,h.ap,by have:=h.hb;simp[cP];omega⟩
 ·refine cV h.rs (fun k hk=>cF _ _ _ _ (fun e=>h.ap k hk ?_));simp only at e;rw[e];rfl
 ·rw[eX,←Ur E s t u v hs];exact Hv h.rt _ _
theorem Tryz.walkZeroA:Tryz.zeroCells169=(bD none 0 0::(cL 1024 (cR .i64 0)++ [bD none 0 0])).toArray:=by kernel_rfl
theorem Tryz.walkSize:(Tryz.prog.info? 169).map (·.size)=some 1026:=by kernel_rfl
theorem Tryz.walkZeroSize:Tryz.zeroCells169.size=1026:=by rw[Tryz.walkZeroA,List.size_toArray,List.length_cons,eR,bK];rfl
theorem Tryz.walkZeroOne:Tryz.zeroCells169.all (·.oneCell')=true:=by
 rw[Tryz.walkZeroA];refine all_oneCell_toArray (fun v hv=> ?_);rcases List.mem_cons.1 hv with rfl | h1
 ·rfl
 ·rcases eM.1 h1 with h2 | h2
  ·rw[(List.mem_replicate.1 h2).2];rfl
  ·rw[bT]at h2;rw[h2];rfl
theorem WK.start (w:World)(wb:Nat)(hB:wb=w.heap.size):WK ((w.alloc (.cells Tryz.zeroCells169 169)).setCells wb 0 Tryz.zeroCells169.toList) wb (fun _=>0) [] [] (.slice none 0 0) (.slice none 0 0):=by
 subst hB;have ht:=bI w Tryz.zeroCells169 169 w.heap.size 1026 Tryz.walkZeroSize rfl;have hr:=World.rangeAt_setCells_same (w.alloc (.cells Tryz.zeroCells169 169)) w.heap.size 0 Tryz.zeroCells169.toList (by rw[Array.length_toList,Tryz.walkZeroSize];exact ht);have hz:=(aD Tryz.zeroCells169.toList 0 (w.alloc (.cells Tryz.zeroCells169 169)) w.heap.size (eL 0 _) (Nat.zero_le _)).size;simp at hz;have hl:Tryz.zeroCells169.toList=bD none 0 0::(cL 1024 (cR .i64 0)++ [bD none 0 0]):=by rw[Tryz.walkZeroA]
 rw[hl]at hr ⊢;have hc:∀k v,(bD none 0 0::(cL 1024 (cR .i64 0)++ [bD none 0 0]))[k]? =some v->((w.alloc (.cells Tryz.zeroCells169 169)).setCells w.heap.size 0 (bD none 0 0::(cL 1024 (cR .i64 0)++ [bD none 0 0]))).cell? ⟨w.heap.size,k,none⟩=some v:=fun k v hk=>by
  have:=hr k v hk;rw[eS]at this;exact this
 refine⟨hc 0 _ rfl,fun x hx=>hc _ _ ?_,hc 1025 _ ?_,fun i=> ?_,eT _ _ _ _,eT _ _ _ _,(fun k hk _=>by cases hk), ?_⟩
 ·rw[Nat.add_comm,cT,bC (by rw[bK];exact hx),List.getElem?_replicate,if_pos hx]
 ·rw[cT,bM (by rw[bK];omega),bK];rfl
 ·rw[oE,World.frozen?_alloc_new]
 ·rw[hl]at hz;omega
end Go.Proofs.YtgjgjgihceijnaaGreat
namespace Go.Proofs.YtgjgjgihceijnaaGreat
open Go.RowKit Go.Stn
def sX (w:World)(wb:Nat)(vs vst:Value)(zb:Nat->Nat)(R:List (List Int)):Prop:=
 ∀i,i<R.length->wb<zb i/\zb i<w.heap.size/\vs.ownBlock≠some (zb i)/\vst.ownBlock≠some (zb i)/\w.rangeAt (zb i) 0 (jP (R.getD i []))
theorem sX.step {w w':World}{wb:Nat}{vs vst vs' vst':Value}{zb:Nat->Nat}{R:List (List Int)}(h:sX w wb vs vst zb R)(hf:FW w w' wb vs vst vs' vst'):sX w' wb vs' vst' zb R:=fun i hi=>by
 obtain⟨h1,h2,h3,h4,h5⟩:=h i hi;exact⟨h1,cN h2 hf.size,fun e=>h3 (hf.s1 _ h2 e),fun e=>h4 (hf.s2 _ h2 e),aC h5 (hf.block _ h2 (by omega) h3 h4)⟩
theorem sX.other {w w':World}{wb:Nat}{vs vst:Value}{zb:Nat->Nat}{R:List (List Int)}{v:Option Nat}(h:sX w wb vs vst zb R)(hg:w.grownBy w' v)(hv:∀k,v=some k->∀i,i<R.length->zb i≠k):sX w' wb vs vst zb R:=fun i hi=>by
 obtain⟨h1,h2,h3,h4,h5⟩:=h i hi;exact⟨h1,cN h2 hg.size,h3,h4,aC h5 (hg.block _ h2 (fun e=>hv _ e.symm i hi rfl))⟩
theorem WK.other {w w':World}{wb:Nat}{num:Nat->Int}{S:List Int}{E:List (Nat×Value)}{vs vst:Value}{v:Option Nat}(h:WK w wb num S E vs vst)(hg:w.grownBy w' v)(hv:∀k,v=some k->k≠wb/\vs.ownBlock≠some k/\vst.ownBlock≠some k):WK w' wb num S E vs vst:=by
 have hb:w'.heap[wb]? =w.heap[wb]? :=hg.block wb h.hb (fun e=>(hv wb e.symm).1 rfl);have cl:∀i,w'.cell? ⟨wb,i,none⟩=w.cell? ⟨wb,i,none⟩:=fun i=>World.cell?_of_block (w:=w) (a:=⟨wb,i,none⟩) hb
 exact⟨(cl 0).trans h.c0,fun x hx=>(cl _).trans (h.nm x hx),(cl _).trans h.c2,fun i=>(World.frozen?_of_block (w:=w) (a:=⟨wb,i,none⟩) hb).trans (h.fz i),
  cV h.rs (fun k hk=>hg.block k (h.rs.lt k hk).2 (fun e=>(hv k e.symm).2.1 hk)),cV h.rt (fun k hk=>hg.block k (h.rt.lt k hk).2 (fun e=>(hv k e.symm).2.2 hk)),h.ap,cN h.hb hg.size⟩
structure SRo (W:World)(n0:Nat)(vf vl:Value)(next:Nat->Int)(lasts G:List Int)(pg pcap:Nat):Prop where
 nt:dH W n0 vf vl next
 rg:W.rangeAt n0 0 (fY vf vl next).toList
 gc:W.cell? ⟨n0+1,256,none⟩=some (.slice (some ⟨pg,0,none⟩) G.length pcap)
 rl:F7 W vl lasts
 gl:∀j a,G[j]? =some a->W.cell? ⟨pg,j,none⟩=some (.int .i64 a)
 hv:∀k,vl.ownBlock=some k->k<n0
 hp:pg<n0
theorem SRo.below {W W':World}{n0:Nat}{vf vl:Value}{next:Nat->Int}{lasts G:List Int}{pg pcap B:Nat}(h:SRo W n0 vf vl next lasts G pg pcap)(hb:Below B W W')(hB:n0+1+1<=B):SRo W' n0 vf vl next lasts G pg pcap:=by
 have hp:=h.hp;exact⟨⟨(hb.cell (p:=⟨n0,0,none⟩) (show n0<B by omega)).trans h.nt.c0,(hb.cell (p:=⟨n0,1,none⟩) (show n0<B by omega)).trans h.nt.c1,fun k hk=>(hb.cell (p:=⟨n0,2+k,none⟩) (show n0<B by omega)).trans (h.nt.nx k hk),fun i=>(hb.frozen (p:=⟨n0,i,none⟩) (show n0<B by omega)).trans (h.nt.fz i)⟩,
  aC h.rg (hb.block n0 (by omega)),(hb.cell (p:=⟨n0+1,256,none⟩) (show n0+1<B by omega)).trans h.gc,h.rl.below hb (fun k hk=>by have:=h.hv k hk;omega),fun j a hj=>(hb.cell (p:=⟨pg,j,none⟩) (show pg<B by omega)).trans (h.gl j a hj),h.hv,hp⟩
theorem lF {w:World}{base e size g n cap:Nat}{xs:List Value}(h:w.ownsRow base e size (.slice (some ⟨g,0,none⟩) n cap) n xs)(i:Nat):w.frozen? ⟨g,i,none⟩=false:=by
 rcases h.2 with⟨hn,_⟩ | ⟨g',cap',cur,he,hbg,hg,_⟩
 ·cases hn
 ·cases he
  unfold World.frozen?;simp only[hg];simp
theorem Vy:C1 (fun _=>0) [0]:=fun x _=>by
 by_cases h:(x:Int)∈ [(0:Int)]/\x≠0
 ·have:=h.1;simp at this;omega
 ·rw[if_neg h]
theorem Uc:kA [0]:=⟨rfl,by simp,fun x hx=>by simp at hx;omega⟩
def Lv (w:World)(K:Nat)(lasts:List Int)(P:List Int×List (List Int))(e:Ending)(w':World):Prop:=
 ∃(tg cap:Nat) (zb:Nat->Nat),e= .returned (.slice (some ⟨tg,0,none⟩) P.1.length cap)/\Below w.heap.size w w'/\
  SIn w' w'.heap.size tg P.1.length K zb (fun s=>rR lasts (P.1.getD s 0)) (fun s k=>(P.2.getD s []).getD k 0)
theorem Bw (vf vl:Value)(next:Nat->Int)(lasts G:List Int)(GA:Array Value)(pg pcap:Nat)(begin:Int)(w:World)(hl:lasts.length<=1000000)(hr:F7 w vl lasts)(hv:∀k,vl.ownBlock=some k->k<w.heap.size)
  (hGc:GA[256]? =some (.slice (some ⟨pg,0,none⟩) G.length pcap)) (hGl:G.length<=300) (hG:∀j a,G[j]? =some a->w.cell? ⟨pg,j,none⟩=some (.int .i64 a)) (hpg:pg<w.heap.size):
  Calls Tryz.prog 39 #[.agg (fY vf vl next),.agg GA,.int .i64 begin] w fun e w'=>Lv w G.length lasts (cG next begin G) e w':=by
 obtain⟨i0,hi0,hz0,hz1,hz2⟩:=info_parts Tryz.infoInt;have HI:Hid (Tryz.prog.info? 3=some i0/\i0.zero=some (.int .i64 0)/\i0.size=1/\i0.bytes=8):=⟨hi0,hz0,hz1,hz2⟩
 clear hi0 hz0 hz1 hz2;obtain⟨W2,hW2⟩:∃W2,(w.alloc (.cells (fY vf vl next) 108)).alloc (.cells GA 50)=W2:=⟨_,rfl⟩
 have hz2:W2.heap.size=w.heap.size+1+1:=by rw[←hW2];simp
 have hB2:Below w.heap.size w W2:=by rw[←hW2];exact((eL _ _).alloc (aO _) _).alloc (by simp) _
 have hN2:dH W2 w.heap.size vf vl next:=by
  have h1:=dH.box w vf vl next 108 w.heap.size rfl;have hb:Below (w.heap.size+1) (w.alloc (.cells (fY vf vl next) 108)) W2:=by rw[←hW2];exact(eL _ _).alloc (by simp) _
  exact⟨(hb.cell (p:=⟨w.heap.size,0,none⟩) (bO _)).trans h1.c0,(hb.cell (p:=⟨w.heap.size,1,none⟩) (bO _)).trans h1.c1,fun k hk=>(hb.cell (p:=⟨w.heap.size,2+k,none⟩) (bO _)).trans (h1.nx k hk),fun i=>(hb.frozen (p:=⟨w.heap.size,i,none⟩) (bO _)).trans (h1.fz i)⟩
 have hG2:W2.cell? ⟨w.heap.size+1,256,none⟩=some (.slice (some ⟨pg,0,none⟩) G.length pcap):=by
  rw[←hW2];exact(World.cell?_alloc_at _ _ (w.heap.size+1) 256 (by simp)).trans hGc
 have hR2:W2.rangeAt w.heap.size 0 (fY vf vl next).toList:=by
  have h1:=gI w (fY vf vl next) 108;rw[←hW2];exact aC h1 (Below.heap_alloc _ _ _ (by simp))
 have HW:=aA (WK.start W2 (w.heap.size+1+1) hz2.symm);have HT:=aA (bI W2 Tryz.zeroCells169 169 (w.heap.size+1+1) 1026 Tryz.walkZeroSize hz2);have HB3:Hid (Below (w.heap.size+1+1) W2 ((W2.alloc (.cells Tryz.zeroCells169 169)).setCells (w.heap.size+1+1) 0 Tryz.zeroCells169.toList)):=aD _ 0 _ _ ((eL _ _).alloc (by rw[hz2];exact aO _) _) (aO _);have HB2:=aA hB2;have HN2:=aA hN2;have HG2:=aA hG2;have HR2:=aA hR2;have HRW:=aA (hr.below hB2 hv);have HG:=aA hG;have HGW:Hid (∀j a,G[j]? =some a->W2.cell? ⟨pg,j,none⟩=some (.int .i64 a)):=fun j a h=>(hB2.cell (p:=⟨pg,j,none⟩) hpg).trans (hG j a h)
 replace hW2:=aA hW2;clear hr hGc hG hB2 hN2 hG2 hR2;obtain⟨K,hK⟩:∃K,G.length=K:=⟨_,rfl⟩
 rw[hK]at hGl HG2 ⊢;replace hK:=aA hK;go_enter Tryz.func39,Tryz.ntmps39;go_upto_region 2 with(first
  | (refine wpList_boxTo rfl 108 (.tmp 0) rfl _ rfl w.heap.size rfl (fY vf vl next) rfl ?_)
  | (refine wpList_boxTo rfl 50 (.tmp 1) rfl _ rfl (w.heap.size+1) (by simp) GA rfl ?_)
  | (refine wpList_store_mid rfl 169 (.tmp 7) (.tmp 14) rfl (w.heap.size+1+1) 0 Tryz.zeroCells169 rfl rfl ?_ ?_ Tryz.walkZeroOne ?_;(rw[Tryz.walkZeroSize,hW2.out];exact HT.out);(rw[Tryz.walkZeroSize];exact Tryz.walkSize);rw[hW2.out]))
 have HRO:Hid (SRo ((W2.alloc (.cells Tryz.zeroCells169 169)).setCells (w.heap.size+1+1) 0 Tryz.zeroCells169.toList) w.heap.size vf vl next lasts G pg pcap):=
  (⟨HN2.out,HR2.out,by rw[hK.out];exact HG2.out,HRW.out,HGW.out,hv,hpg⟩:SRo W2 w.heap.size vf vl next lasts G pg pcap).below HB3.out (aO _)
 have HBB:Hid (Below w.heap.size w ((W2.alloc (.cells Tryz.zeroCells169 169)).setCells (w.heap.size+1+1) 0 Tryz.zeroCells169.toList)):=HB2.out.trans (HB3.out.mono (by omega));generalize (W2.alloc (.cells Tryz.zeroCells169 169)).setCells (w.heap.size+1+1) 0 Tryz.zeroCells169.toList=W3 at*;clear HT HB3 HB2 HN2 HG2 HR2 HRW HG HGW hW2 hz2;obtain⟨n0,hn0⟩:∃n0,w.heap.size=n0:=⟨_,rfl⟩
 have HBB':=HBB;rw[hn0]at HRO HBB' HW hv hpg ⊢;clear HBB;have hvw:∀k,vl.ownBlock=some k->k<n0+1+1:=fun k hk=>by have:=hv k hk;omega
 go_wp2_with (first | (refine wpList_load_mid rfl 108 (.tmp 3) rfl n0 0 rfl (fY vf vl next).toList _ HRO.out.rg Tryz.underlying108 rfl Tryz.netSize ?_) | fail);refine(Dx (n0+1+1) (fun _=>0) [] [] _ _ vf vl next lasts 0 W3 (by simp) (by simp) hl HW.out HRO.out.rl hvw).mono ?_;rintro e w4 ⟨rfl,vs4,vst4,hw4,hf4⟩;have hb4:=hf4.below HW.out;have HW4:Hid (WK w4 (n0+1+1) (fun _=>0) [0] (enE lasts [0] 0 (fun _=>0) K) vs4 vst4):=hw4;have HRO4:=aA (HRO.out.below hb4 (aO _));have HB4:=aA (HBB'.out.trans (hb4.mono (by omega)));clear hw4 hf4 hb4 HW HRO HBB';obtain⟨PP,EPP⟩:∃m,cG next begin G=m:=⟨_,rfl⟩
 replace EPP:=aA EPP;go_wp2_with fail
 go_loopg [8] 1025 (fun gk sv wr=>∃(s:Nat) (S:List Int) (R:List (List Int)) (num:Nat->Int) (zb:Nat->Nat) (vs vst:Value),sv= .int .i64 (s:Int)/\s+gk=1025/\R.length=s/\s<=S.length/\kA S/\C1 num S/\PP=iB next begin G gk s S R/\(∀r∈R,r.length=K)/\
  WK wr (n0+1+1) num S (enE lasts S s zb K) vs vst/\sX wr (n0+1+1) vs vst zb R/\SRo wr n0 vf vl next lasts G pg pcap/\Below n0 w wr)
 case atStart=>exact⟨0,[0],[],fun _=>0,fun _=>0,vs4,vst4,rfl,rfl,rfl,by simp,Uc,Vy,EPP.out.symm,fun r hr=>absurd hr (List.not_mem_nil),HW4.out,fun i hi=>absurd hi (Nat.not_lt_zero _),HRO4.out,HB4.out⟩
 case round=>
  obtain⟨s,S,R,num,zb,vs,vst,rfl,hsg,hRs,hsS,hok,hnum,heq,hRK,hwk,hrows,hro,hb⟩:=hrel;have HQ:=aA heq;have HWK:=aA hwk;have HROW:=aA hrows;have HROn:=aA hro;have HB:=aA hb;have HOK:=aA hok;have HNU:=aA hnum;have HRS:=aA hRs;have HRK:=aA hRK;have hSl:=rJ hok;clear heq hwk hrows hro hb hok hnum hRs hRK HW4 HRO4 HB4;obtain⟨d,rfl⟩:∃d,gk=d+1:=⟨gk - 1,by omega⟩
  have hS0:0<S.length:=(bN.1 HOK.out.zero).1;obtain⟨va,vcap,hvs,_,_⟩:=HWK.out.rs.form hS0;subst hvs;obtain⟨tg,tcap,hvt,_,_⟩:=HWK.out.rt.form (by rw[nG];exact hS0);subst hvt;have c0:=HWK.out.c0;by_cases hlt:s<S.length
  ·have HQ2:Hid (PP=iB next begin G d (s+1) (pX (eF next begin S s) G [] S).2 (R++ [(pX (eF next begin S s) G [] S).1])):=by unfold Hid;rw[HQ.out,iB,if_pos hlt]
   have hd1:decide ((s:Int)<(S.length:Int))=true:=by simp;omega
   go_upto_if 26 with fail
   go_cut [9] from 17 to 59 (fun av wc=>av= .int .i64 (eF next begin S s)/\wc=wr)
   case first=>
    by_cases hs0:s=0
    ·have hd2:decide (0<s)=false:=by simp;omega
     have hneg:¬0<s:=by omega
     have HA:Hid (eF next begin S s=begin):=by unfold Hid eF;rw[if_pos hs0]
     clear hs0;go_wp2;go_meet
     case rel=>exact⟨by rw[HA.out],rfl⟩
    ·have hd2:decide (0<s)=true:=by simp;omega
     have hpos:0<s:=by omega
     have HA:Hid (eF next begin S s=K1 next (S.getD s 0)):=by unfold Hid eF;rw[if_neg hs0]
     have cs:wr.cell? ⟨va,s,none⟩=some (.int .i64 (S.getD s 0)):=by
      have:=lQ HWK.out.rs s (.int .i64 (S.getD s 0)) (by unfold jP;rw[aT,aR hlt,aL,aR hlt];rfl);rw[eS]at this;exact this
     have hsI:(0:Int)<=(s:Int)/\(s:Int)<(S.length:Int):=by omega
     generalize S.getD s 0=y at*;clear hs0;go_wp2_with fail;refine(Bq next y n0 vf vl wr HROn.out.nt).mono ?_;rintro e w5 ⟨rfl,rfl⟩;go_wp2;go_meet
     case rel=>exact⟨by rw[HA.out],rfl⟩
   case rest=>
    obtain⟨rfl,rfl⟩:=hcut;have c256:=HROn.out.gc;rw[hK.out]at c256;obtain⟨AH,EAH⟩:∃a,eF next begin S s=a:=⟨_,rfl⟩
    rw[EAH]at HQ2 ⊢;replace EAH:=aA EAH;have hn0w:=HB.out.size;rw[hn0]at hn0w;go_wp2_with (first | (at_make;refine wpList_make_own wc rfl _ _ 59 rfl wc.heap.size 3 i0 (.int .i64 0) 1 Tryz.underlying59 HI.out.1 HI.out.2.1 HI.out.2.2.1 .i64 .i64 _ K rfl rfl rfl (by rw[HI.out.2.2.2];omega) (by unfold maxLen;omega) (aO _) ?_;intro w6 hown6 hg6;have HB6:Hid (Below wc.heap.size wc w6):=(⟨hg6.os,hg6.tape,hg6.output,hg6.size,fun k hk=>hg6.block k hk (by simp)⟩:Below wc.heap.size wc w6);have hwz:=HWK.out.hb;have d256:=(HB6.out.cell (p:=⟨n0+1,256,none⟩) (show n0+1<wc.heap.size by omega)).trans c256;clear c256));have HWK6:=aA (HWK.out.below HB6.out);have HROW6:=aA (HROW.out.other hg6 (fun k hk=>by cases hk));have HRO6:=aA (HROn.out.below HB6.out (by omega));have HBB6:=aA (HB.out.trans (HB6.out.mono hn0w));have HO6:=aA hown6;have hzC:∀i,i<R.length->zb i<wc.heap.size:=fun i hi=>(HROW.out i hi).2.1
    have hvC:va<wc.heap.size:=(HWK.out.rs.lt va rfl).2;have htC:tg<wc.heap.size:=(HWK.out.rt.lt tg rfl).2;clear hown6 hg6 HB6 HWK HROW HROn HB d256 c0;replace hzC:=aA hzC;obtain⟨C,hC⟩:∃C,wc.heap.size=C:=⟨_,rfl⟩
    rw[hC]at HO6 hzC hvC htC hwz hn0w ⊢;obtain⟨RP,ERP⟩:∃r,pX AH G [] S=r:=⟨_,rfl⟩
    rw[ERP]at HQ2;replace ERP:=aA ERP
    go_loopg [10,40] K (fun gj nv iv wj=>∃(j:Nat) (acc S':List Int) (num':Nat->Int) (vs' vst':Value),nv= .slice (some ⟨C,0,none⟩) j K/\iv= .int .i64 (j:Int)/\j+gj=K/\acc.length=j/\S.length<=S'.length/\kA S'/\C1 num' S'/\RP=pX AH (G.drop j) acc S'/\
     wj.ownsRow C 3 1 (.slice (some ⟨C,0,none⟩) j K) j (jP acc)/\WK wj (n0+1+1) num' S' (enE lasts S' s zb K) vs' vst'/\vs'.ownBlock≠some C/\vst'.ownBlock≠some C/\sX wj (n0+1+1) vs' vst' zb R/\SRo wj n0 vf vl next lasts G pg pcap/\Below n0 w wj)
    case atStart=>exact⟨0,[],S,num,_,_,rfl,rfl,by omega,rfl,aO _,HOK.out,HNU.out,by rw[List.drop_zero];exact ERP.out.symm,HO6.out,HWK6.out,(by simp[cO];omega),(by simp[cO];omega),HROW6.out,HRO6.out,HBB6.out⟩
    case round=>
     obtain⟨j,acc,S',num',vs',vst',rfl,rfl,hjk,hacl,hSS,hok',hnu',hrp,hown,hwk,hne1,hne2,hrows,hro,hb⟩:=hrel;have HRP:=aA hrp;have HOC:=aA hown;have HWKj:=aA hwk;have HN1:=aA hne1;have HN2:=aA hne2;have HRWj:=aA hrows;have HROj:=aA hro;have HBj:=aA hb;have HOKj:=aA hok';have HNUj:=aA hnu';have HAC:=aA hacl;have hSl':=rJ hok';have hCz:C<wr.heap.size:=(hown.lt C rfl).2;clear hrp hown hwk hne1 hne2 hrows hro hb hok' hnu' hacl HO6 HWK6 HROW6 HRO6 HBB6;by_cases hjl:j<K
     ·obtain⟨j',rfl⟩:∃j',gk=j'+1:=⟨gk - 1,by omega⟩
      have hjG:j<G.length:=by rw[hK.out];exact hjl
      have hga:G[j]? =some (G[j]):=aR hjG;have ca:=HROj.out.gl j _ hga;have HRP2:=aA (HRP.out.trans (S4 hga));generalize G[j]=a at*;have HAN:Hid (bits .and .i64 AH a=gZ AH a):=rfl;have htc:=Sz (n0+1+1) num' S' (enE lasts S' s zb K) vs' vst' vf vl next lasts (gZ AH a) wr HOKj.out HNUj.out (by rw[nG];omega) hl HWKj.out HROj.out.rl hvw;unfold Vn at htc;rw[Ui (by omega)]at htc;have htp:=Z9 HOKj.out (gZ AH a);have hdj:decide ((j:Int)<(K:Int))=true:=by simp;omega
      have hjI:(0:Int)<=(j:Int)/\(j:Int)<(K:Int):=by omega
      generalize toP S' (gZ AH a)=TP at*;obtain⟨y,S2⟩:=TP;simp only at htc htp HRP2;clear hga hjG;go_wp2_with (first | (refine wpList_load_mid rfl 108 (.tmp 3) rfl n0 0 rfl (fY vf vl next).toList _ HROj.out.rg Tryz.underlying108 rfl Tryz.netSize ?_) | fail);refine htc.mono ?_;rintro e w7 ⟨rfl,num2,vs2,vst2,hwk2,hnu2,hfw2⟩;have hb7:=hfw2.below HWKj.out;have HW7:=aA hwk2;have HNU7:=aA hnu2;have HO7:Hid (w7.ownsRow C 3 1 (.slice (some ⟨C,0,none⟩) j K) j (jP acc)):=aA (cV HOC.out (fun k hk=>by
       have e:C=k:=by simpa[cO]using hk
       subst e;exact hfw2.block C hCz (by omega) HN1.out HN2.out))
      have HN17:Hid (vs2.ownBlock≠some C):=fun e=>HN1.out (hfw2.s1 C hCz e)
      have HN27:Hid (vst2.ownBlock≠some C):=fun e=>HN2.out (hfw2.s2 C hCz e)
      have HRW7:=aA (HRWj.out.step hfw2);have HRO7:=aA (HROj.out.below hb7 (aO _));have HB7:=aA (HBj.out.trans (hb7.mono (by omega)));have hCz7:C<w7.heap.size:=by have:=hfw2.size;omega
      clear hwk2 hnu2 hfw2 hb7 htc HOC HWKj HN1 HN2 HRWj HROj HBj HNUj ca;go_wp2_with (first | (at_builtin;refine eI w7 rfl _ _ 59 rfl C 3 (.int .i64 0) 1 8 Tryz.underlying59 Tryz.infoInt C j K (jP acc) [.int .i64 y] _ rfl HO7.out _ rfl rfl rfl (by simp[Value.oneCell']) (by omega) ?_;intro w8 hown8 hgrow8) | fail);go_roundg j'
      case measure=>omega
      case rel=>
       have hg1:=World.grownBy_alloc w7 (.cells #[.int .i64 y] 3) (some C);have hg8:=aH hg1 hgrow8;refine⟨j+1,acc++ [y],S2,num2,vs2,vst2,rfl,by go_num,by omega,by simp[HAC.out],by omega,htp.1,HNU7.out,HRP2.out,by rw[nB];exact hown8,HW7.out.other hg8 (fun k hk=> ?_),HN17.out,HN27.out,HRW7.out.other hg8 (fun k hk i hi=> ?_),HRO7.out.below (⟨hg8.os,hg8.tape,hg8.output,hg8.size,fun k hk=>hg8.block k (by omega) (fun e=>by injection e;omega)⟩:Below (n0+1+1) w7 w8) (aO _),HB7.out.trans (⟨hg8.os,hg8.tape,hg8.output,hg8.size,fun k hk=>hg8.block k (by omega) (fun e=>by injection e;omega)⟩:Below n0 w7 w8)⟩
       ·injection hk with hk;subst hk;exact⟨by omega,HN17.out,HN27.out⟩
       ·injection hk with hk;subst hk;have:=hzC.out i hi;omega
     ·have e:gk=0:=by omega
      subst e;have ejk:j=K:=by omega
      subst ejk;have hdj:decide ((j:Int)<(j:Int))=false:=by simp
      have HRP2:Hid (RP=(acc,S')):=by unfold Hid;rw[HRP.out,←hK.out,List.drop_length];rfl
      have hS0':0<S'.length:=by omega
      obtain⟨tg2,tcap2,hvt2,_,_⟩:=HWKj.out.rt.form (by rw[nG];exact hS0');subst hvt2;have c2:=HWKj.out.c2;rw[nG]at c2;have hsS':s<S'.length:=by omega
      have hEs:(enE lasts S' s zb j)[s]? =some (rR lasts (S'.getD s 0),.slice none 0 0):=by unfold enE;rw[aT,bS hsS',eN,if_neg (by omega)]
      have cst:wr.cell? ⟨tg2,s*2+1,none⟩=some (.slice none 0 0):=by
       have:=HWKj.out.rt.cells rfl (s*2+1) _ (Y8 _ s _ _ hEs).1;simpa[Addr.add]using this
      have fst':wr.frozen? ⟨tg2,s*2+1,none⟩=false:=lF HWKj.out.rt _;have HSET:=aA (HWKj.out.setNext hEs (.slice (some ⟨C,0,none⟩) j j));rw[←Vb hsS',nG]at HSET;have htw:=(HWKj.out.rt.lt tg2 rfl).1;have HFR:Hid (∀i,i<R.length->tg2≠zb i):=fun i hi e=>(HRWj.out i hi).2.2.2.1 (by simp[cO];exact e)
      have hsI:(0:Int)<=(s:Int)/\(s:Int)<(S'.length:Int):=by omega
      have HRC:=aA (lQ HOC.out);clear hEs hS0';go_wp2;go_roundg d
      case measure=>omega
      case rel=>
       have hbs:Below (n0+1+1) wr (wr.setCell ⟨tg2,s*2+1,none⟩ (.slice (some ⟨C,0,none⟩) j j)):=(eL _ _).setCell (p:=⟨tg2,s*2+1,none⟩) (by show n0+1+1<=tg2;omega) _;have hnC:C≠tg2:=fun e=>HN2.out (by rw[e];rfl)
       refine⟨s+1,S',R++ [acc],num',fun i=>if i=s then C else zb i,vs',_,by go_num,by omega,by simp[HRS.out],by omega,HOKj.out,HNUj.out, ?_,fun r hr=> ?_,HSET.out,fun i hi=> ?_,HROj.out.below hbs (aO _),HBj.out.trans (hbs.mono (by omega))⟩
       ·have:=HQ2.out;rw[HRP2.out]at this;exact this
       ·rcases eM.1 hr with h1 | h1
        ·exact HRK.out r h1
        ·rw[bT]at h1;rw[h1];exact HAC.out
       ·simp[HRS.out]at hi;by_cases e:i=s
        ·subst e;simp only[if_pos];refine⟨by omega,by simp[cP];omega,HN1.out, ?_, ?_⟩
         ·have:=HN2.out;rw[nG]at this;exact this
         ·have h1:(R++ [acc]).getD i []=acc:=by rw[aL,bM (by rw[HRS.out];exact aO _),HRS.out];simp
          rw[h1];exact aC HRC.out (cF _ _ _ _ hnC)
        ·have hiR:i<R.length:=by rw[HRS.out];omega
         simp only[if_neg e];obtain⟨q1,q2,q3,q4,q5⟩:=HRWj.out i hiR;have h1:(R++ [acc]).getD i []=R.getD i []:=by rw[aL,aL,bC hiR]
         refine⟨q1,by simp[cP];omega,q3, ?_, ?_⟩
         ·rw[nG]at q4;exact q4
         ·rw[h1];exact aC q5 (cF _ _ _ _ (fun e=>HFR.out i hiR e.symm))
  ·have HE:Hid (PP=(S,R)):=by unfold Hid;rw[HQ.out,iB,if_neg hlt]
   have hsl:s=S.length:=by omega
   have hd1:decide ((s:Int)<(S.length:Int))=false:=by simp;omega
   have c2:=HWK.out.c2;rw[nG]at c2;go_wp2;go_ret;rw[EPP.out,HE.out];refine⟨tg,tcap,zb,rfl,by rw[hn0];exact HB.out, ?_⟩;have hrt:=HWK.out.rt;rw[nG]at hrt;have hEg:∀i,i<S.length->(enE lasts S s zb K)[i]? =some (rR lasts (S.getD i 0),.slice (some ⟨zb i,0,none⟩) K K):=fun i hi=>by
    unfold enE;rw[aT,bS hi,eN,if_pos (by omega)]
   have hrg:∀j v,(enC (enE lasts S s zb K))[j]? =some v->wr.cell? ⟨tg,j,none⟩=some v:=fun j v hj=>by
    have:=hrt.cells rfl j v hj;by_cases h0:j=0
    ·subst h0;simpa[Addr.add]using this
    ·simpa[Addr.add,h0]using this
   refine⟨fun i hi=>hrg _ _ (Y8 _ i _ _ (hEg i hi)).2,fun i hi=>hrg _ _ (Y8 _ i _ _ (hEg i hi)).1,fun i k hi hk=> ?_,(hrt.lt tg rfl).2,fun i hi=>(HROW.out i (by rw[HRS.out,hsl];exact hi)).2.1⟩;have hr:=(HROW.out i (by rw[HRS.out,hsl];exact hi)).2.2.2.2;have hlen:(R.getD i []).length=K:=by
    have hiR:i<R.length:=by rw[HRS.out,hsl];exact hi
    rw[aL,aR hiR];exact HRK.out _ (List.getElem_mem hiR)
   have:=hr k (.int .i64 ((R.getD i []).getD k 0)) (by
    unfold jP;rw[aT,aR (by rw[hlen];exact hk)]
    conv=>rhs;rw[aL,aR (by rw[hlen];exact hk)]
    rfl)
   rw[eS]at this;exact this
end Go.Proofs.YtgjgjgihceijnaaGreat
