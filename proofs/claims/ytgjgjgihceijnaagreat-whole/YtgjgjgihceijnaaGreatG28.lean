import Derived.Test.YtgjgjgihceijnaaGreatG27
open List renaming getElem?_eq_getElem->aL,getD_eq_getElem?_getD->aO,getElem?_eq_some_iff->aR,mem_cons_of_mem->aT,mem_of_getElem?->bC,mem_cons_self->bD,getElem_mem->bK,getElem?_cons_succ->bN,getElem?_map->bO,mem_map->bS,length_append->bT,getElem?_cons_zero->cL,map_cons->cO,length_cons->cR,append_nil->cT
open Classical renaming byContradiction->bM
open Int renaming toNat_natCast->cF
open Nat renaming zero_add->cN,lt_trichotomy->cP,le_of_lt->eM,le_refl->eN,zero_le->eO
open Option renaming map_some->eL
namespace Go.Stn
def gK (A:Nat->Nat->Bool)(F:Nat->Nat->Prop):(Nat->Prop)->List Nat->Nat->Prop
 | P,[]=>P
 | P,b::u=>gK A F (fun q=>∃p,P p/\F p q/\A q b=true) u
theorem qS {A:Nat->Nat->Bool}{F F':Nat->Nat->Prop}(hF:∀p q,F p q->F' p q):∀(u:List Nat) (P P':Nat->Prop),(∀p,P p->P' p)->∀q,gK A F P u q->gK A F' P' u q
 | [],_,_,h,q,hq=>h q hq
 | _::u,_,_,h,q,hq=>qS hF u _ _ (fun q ⟨p,h1,h2,h3⟩=>⟨p,h p h1,hF p q h2,h3⟩) q hq
theorem qK {A:Nat->Nat->Bool}{F:Nat->Nat->Prop}:∀(u:List Nat) (P:Nat->Prop),(∀p,¬P p)->∀q,¬gK A F P u q
 | [],_,h,q,hq=>h q hq
 | _::u,_,h,q,hq=>qK u _ (fun _ ⟨p,h1,_⟩=>h p h1) q hq
theorem F6 {A:Nat->Nat->Bool}{F:Nat->Nat->Prop}(u:List Nat){P P':Nat->Prop}(h:∀p,P p↔P' p)(q:Nat):gK A F P u q↔gK A F P' u q:=
 ⟨qS (fun _ _ h=>h) u P P' (fun p=>(h p).1) q,qS (fun _ _ h=>h) u P' P (fun p=>(h p).2) q⟩
theorem sP {A:Nat->Nat->Bool}(r:Rx)(k:Nat)(hA:r.says A k):∀(u:List Nat) (P:Nat->Prop) (v:List Nat),eE 256 u->((∃p,P p/\r.rest k p (u++v))↔∃q,gK A (r.fol k) P u q/\r.rest k q v)
 | [],_,_,_=>Iff.rfl
 | b::u,P,v,hu=>by
  have hb:=hu b bD;have ih:=sP r k hA u (fun q=>∃p,P p/\r.fol k p q/\A q b=true) v (fun c hc=>hu c (aT _ hc));rw[gK,←ih];constructor
  ·rintro⟨p,h1,h2⟩;obtain⟨q,a1,a2,a3,a4⟩:=(r.goes k hA p b (u++v)).1 h2;exact⟨q,⟨p,h1,a1,a3⟩,a4⟩
  ·rintro⟨q,⟨p,h1,h2,h3⟩,h4⟩;exact⟨p,h1,(r.goes k hA p b (u++v)).2 ⟨q,h2,hb,h3,h4⟩⟩
def FOL (l:List aY)(p q:Nat):Prop:=∃y∈eB 0 l,y.1.fol y.2 p q
theorem R2 {l:List aY}{y z:Rx×Nat}{r r' q:Nat}(hy:(eB 0 l)[r]? =some y)(hz:(eB 0 l)[r']? =some z)(h1:y.2<=q/\q<y.2+y.1.np)(h2:z.2<=q/\q<z.2+z.1.np):r=r':=by
 rcases cP r r' with h | h | h
 ·have:=tD l 0 r r' y z hy hz h;omega
 ·exact h
 ·have:=tD l 0 r' r z y hz hy h;omega
theorem B9:∀(l:List aY) (k p:Nat),k<=p->p<k+fZ l->∃(r:Nat) (y:Rx×Nat),(eB k l)[r]? =some y/\y.2<=p/\p<y.2+y.1.np
 | [],k,p,h1,h2=>by have h2:p<k+0:=h2;omega
 | x::l,k,p,h1,h2=>by
  have h2:p<k+(x.2.2.np+fZ l):=h2;by_cases e:p<k+x.2.2.np
  ·exact⟨0,(x.2.2,k),rfl,h1,e⟩
  ·obtain⟨r,y,a,b⟩:=B9 l (k+x.2.2.np) p (by omega) (by omega);exact⟨r+1,y,by rw[eB,bN];exact a,b⟩
theorem F0 {A:Nat->Nat->Bool}{l:List aY}{r:Nat}{y:Rx×Nat}(hy:(eB 0 l)[r]? =some y):∀(u:List Nat) (P P':Nat->Prop),(∀q,y.2<=q->q<y.2+y.1.np->(P q↔P' q))->(∀q,P' q->y.2<=q/\q<y.2+y.1.np)->
  ∀q,y.2<=q->q<y.2+y.1.np->(gK A (FOL l) P u q↔gK A (y.1.fol y.2) P' u q)
 | [],P,P',h,_,q,h1,h2=>h q h1 h2
 | b::u,P,P',h,hin,q,h1,h2=>by
  refine F0 hy u _ _ (fun q h3 h4=> ?_) (fun q ⟨p,_,h5,_⟩=>(y.1.fol_in y.2 p q h5).2) q h1 h2;constructor
  ·rintro⟨p,a1,⟨z,hz,a2⟩,a3⟩;obtain⟨r',hr',he⟩:=List.getElem_of_mem hz;have hz':(eB 0 l)[r']? =some z:=by rw[aL hr',he]
   have hq:=z.1.fol_in z.2 p q a2;have:=R2 hy hz' ⟨h3,h4⟩ hq.2;subst this;rw[hy]at hz';injection hz' with hz';subst hz';exact⟨p,(h p hq.1.1 hq.1.2).1 a1,a2,a3⟩
  ·rintro⟨p,a1,a2,a3⟩;have hp:=hin p a1;exact⟨p,(h p hp.1 hp.2).2 a1,⟨y,bC hy,a2⟩,a3⟩
theorem Da {A:Nat->Nat->Bool}{r:Rx}{k:Nat}:∀(u:List Nat) (P:Nat->Prop),(∀q,P q->k<=q/\q<k+r.np)->∀q,gK A (r.fol k) P u q->k<=q/\q<k+r.np
 | [],_,h,q,hq=>h q hq
 | _::u,_,_,q,hq=>Da u _ (fun q ⟨p,_,h5,_⟩=>(r.fol_in k p q h5).2) q hq
structure Wq (places:List (Nat->Bool))(G:List Int)(of_:Nat->Nat):Prop where
 lt:∀b,b<256->of_ b<G.length
 al:∀b,b<256->G.getD (of_ b) 0=uR places b
 lo:∃lo:Nat->Nat,(∀g,g<G.length->lo g<256/\of_ (lo g)=g)/\(∀g g',g<g'->g'<G.length->lo g<lo g')/\∀b,b<256->lo (of_ b)<=b
structure GI (al:Nat->Int)(b:Nat)(ofs:List Nat)(P:List Int)(lo:Nat->Nat):Prop where
 len:ofs.length=b
 lt:∀i,i<b->ofs.getD i 0<P.length/\P.getD (ofs.getD i 0) 0=al i
 lo1:∀g,g<P.length->lo g<b/\ofs.getD (lo g) 0=g
 lo2:∀g g',g<g'->g'<P.length->lo g<lo g'
 lo3:∀i,i<b->lo (ofs.getD i 0)<=i
theorem Y6 (al:Nat->Int):∀(d b:Nat) (ofs:List Nat) (P:List Int) (lo:Nat->Nat),GI al b ofs P lo->∃lo',GI al (b+d) (yL al d b ofs P).1 (yL al d b ofs P).2 lo'
 | 0,b,ofs,P,lo,h=>⟨lo,h⟩
 | d+1,b,ofs,P,lo,h=>by
  rw[yL,show b+(d+1)=(b+1)+d by omega];by_cases hf:cY P (al b)=P.length
  ·rw[if_pos hf];refine Y6 al d (b+1) _ _ (fun g=>if g=P.length then b else lo g) ⟨by simp[h.len],fun i hi=> ?_,fun g hg=> ?_,fun g g' hgg hg'=> ?_,fun i hi=> ?_⟩
   ·by_cases e:i=b
    ·subst e;rw[hf,←h.len,lS,bT,lS,h.len];exact⟨by simp,rfl⟩
    ·have hi':i<b:=by omega
     rw[mE (by rw[h.len];exact hi'),mE (h.lt i hi').1];exact⟨by have:=(h.lt i hi').1;rw[bT];simp only[List.length_singleton];omega,(h.lt i hi').2⟩
   ·simp at hg;by_cases e:g=P.length
    ·subst e;simp only[if_pos];rw[hf,←h.len,lS];exact⟨by omega,rfl⟩
    ·simp only[if_neg e];have:=h.lo1 g (by omega);rw[mE (by rw[h.len];exact this.1)];exact⟨by omega,this.2⟩
   ·simp at hg';by_cases e:g'=P.length
    ·subst e;simp only[if_pos,if_neg (show¬g=P.length by omega)];exact(h.lo1 g hgg).1
    ·simp only[if_neg e,if_neg (show¬g=P.length by omega)];exact h.lo2 g g' hgg (by omega)
   ·by_cases e:i=b
    ·subst e;rw[hf];have:(ofs++ [P.length]).getD i 0=P.length:=by rw[←h.len,lS]
     rw[this,if_pos rfl];exact eN _
    ·have hi':i<b:=by omega
     rw[mE (by rw[h.len];exact hi')];have:=(h.lt i hi').1;rw[if_neg (by omega)];exact h.lo3 i hi'
  ·rw[if_neg hf];have hlt:cY P (al b)<P.length:=by have:=vE P (al b);omega
   have hmem:al b∈P:=by
    apply bM;intro hc;exact hf (L9 hc)
   have hget:P.getD (cY P (al b)) 0=al b:=by rw[aO,zF hmem];rfl
   refine Y6 al d (b+1) _ _ lo ⟨by simp[h.len],fun i hi=> ?_,fun g hg=> ?_,h.lo2,fun i hi=> ?_⟩
   ·by_cases e:i=b
    ·subst e;have:(ofs++ [cY P (al i)]).getD i 0=cY P (al i):=by
      have:= @lS Nat ofs (cY P (al i)) 0;rw[h.len]at this;exact this
     rw[this];exact⟨hlt,hget⟩
    ·have hi':i<b:=by omega
     rw[mE (by rw[h.len];exact hi')];exact h.lt i hi'
   ·have:=h.lo1 g hg;rw[mE (by rw[h.len];exact this.1)];exact⟨by omega,this.2⟩
   ·by_cases e:i=b
    ·subst e;have:(ofs++ [cY P (al i)]).getD i 0=cY P (al i):=by
      have:= @lS Nat ofs (cY P (al i)) 0;rw[h.len]at this;exact this
     rw[this];exact eM (h.lo1 _ hlt).1
    ·have hi':i<b:=by omega
     rw[mE (by rw[h.len];exact hi')];exact h.lo3 i hi'
theorem Pl (places:List (Nat->Bool)):Wq places (kH places).2 (fun b=>(kH places).1.getD b 0):=by
 obtain⟨lo,h⟩:=Y6 (uR places) 256 0 [] [] (fun _=>0) ⟨rfl,fun i hi=>by omega,fun g hg=>by simp at hg,fun g g' _ hg=>by simp at hg,fun i hi=>by omega⟩;rw[cN]at h;exact⟨fun b hb=>(h.lt b hb).1,fun b hb=>(h.lt b hb).2,lo,h.lo1,h.lo2,h.lo3⟩
def uU (l:List aY)(c:Nat)(w:List Nat)(v:Nat):Prop:=
 (v=0/\∀(r:Nat) (x:aY),l[r]? =some x->¬(x.1 c=true/\W x.2.2 w))\/
 ∃(r:Nat) (x:aY),v=r+1/\l[r]? =some x/\(x.1 c=true/\W x.2.2 w)/\∀(r':Nat) (x':aY),r'<r->l[r']? =some x'->¬(x'.1 c=true/\W x'.2.2 w)
theorem uL {l:List aY}{c:Nat}{w:List Nat}{v v':Nat}(h:uU l c w v)(k:uU l c w v'):v=v':=by
 rcases h with⟨h1,h2⟩ | ⟨r,x,h1,h2,h3,h4⟩<;> rcases k with⟨k1,k2⟩ | ⟨s,y,k1,k2,k3,k4⟩
 ·omega
 ·exact absurd k3 (h2 s y k2)
 ·exact absurd h3 (k2 r x h2)
 ·rcases cP r s with e | e | e
  ·exact absurd h3 (k4 r x e h2)
  ·omega
  ·exact absurd k3 (h4 s y e k2)
structure gW (l:List aY)(c:Nat)(A:Nat->Nat->Bool)(next:Nat->Int)(begin:Int)(la G:List Int)(of_:Nat->Nat):Prop where
 np:fZ l<=10
 ns:∀p,cA (next p)
 nf:∀p q,inS (next p) q=true↔FOL l p q
 bs:cA begin
 bf:∀q,inS begin q=true↔∃(r:Nat) (x:aY) (y:Rx×Nat),l[r]? =some x/\(eB 0 l)[r]? =some y/\x.1 c=true/\y.1.fst y.2 q
 ll:la.length=l.length
 ls:∀x∈la,cA x
 lf:∀(r:Nat) (y:Rx×Nat),(eB 0 l)[r]? =some y->∀p,inS (la.getD r 0) p=true↔y.1.lst y.2 p
 gs:∀g,g<G.length->cA (G.getD g 0)
 gl:∀b,b<256->of_ b<G.length
 gf:∀b,b<256->∀p,inS (G.getD (of_ b) 0) p=true↔A p b=true
 gn:∀g,g<G.length->∃b,b<256/\of_ b=g
 sy:∀y∈eB 0 l,y.1.says A y.2
 al:∀p,p<fZ l->∃b,b<256/\A p b=true
 far:∀p b,b<256->A p b=true->p<fZ l
section
variable {l:List aY} {c:Nat} {A:Nat->Nat->Bool} {next:Nat->Int} {begin:Int} {la G:List Int} {of_:Nat->Nat}
theorem gW.state (_h:gW l c A next begin la G of_){s:Nat}(hs:s<qA next begin G):cA (lI next begin G s):=by
 have hok:=(mY next begin G).1;have:lI next begin G s∈(cG next begin G).1:=by
  unfold lI;rw[aO,aL hs];exact bK hs
 exact hok.rg _ this
theorem gW.step (h:gW l c A next begin la G of_){s b:Nat}(hs:s<qA next begin G)(hb:b<256)(P:Nat->Prop)(hP:∀q,inS (if s=0 then begin else K1 next (lI next begin G s)) q=true↔P q):
  (pZ next begin G s (of_ b)= -1/\∀q,¬(P q/\A q b=true))\/
  ∃s':Nat,pZ next begin G s (of_ b)=(s':Int)/\0<s'/\s'<qA next begin G/\(∀q,inS (lI next begin G s') q=true↔(P q/\A q b=true))/\0<lI next begin G s':=by
 have hg:=h.gl b hb;have hrow:=Tj next begin G hs hg;have hset:cA (if s=0 then begin else K1 next (lI next begin G s)):=by
  split
  ·exact h.bs
  ·exact Oo (fun p _=>h.ns p) _
 have hx:=U4 hset (h.gs _ hg);have hin:∀q,inS (gZ (if s=0 then begin else K1 next (lI next begin G s)) (G.getD (of_ b) 0)) q=true↔(P q/\A q b=true):=fun q=>by
  rw[X3 hset (h.gs _ hg),Bool.and_eq_true,hP,h.gf b hb]
 rcases hrow with⟨h1,h2⟩ | ⟨q,h1,h2,h3,h4,h5⟩
 ·left;refine⟨h1,fun q hq=> ?_⟩;have:=(Y9 hx).2 ⟨q,(hin q).2 hq⟩;have:=hx.2;omega
 ·right;have hxq:lI next begin G q=gZ (if s=0 then begin else K1 next (lI next begin G s)) (G.getD (of_ b) 0):=h3;refine⟨q,h1, ?_,h2,fun p=> ?_,by rw[hxq];exact h4⟩
  ·rcases Nat.eq_zero_or_pos q with e | e
   ·exfalso;subst e;have h0:=(mY next begin G).1.zero;rw[aO,h0]at h3;have h3:(0:Int)=_:=h3;omega
   ·exact e
  ·rw[hxq];exact hin p
theorem gW.run (h:gW l c A next begin la G of_):∀(u:List Nat) (s:Nat),0<s->s<qA next begin G->eE 256 u->
  (kX (pZ next begin G) s (u.map of_)=none/\∀q,¬gK A (FOL l) (fun p=>inS (lI next begin G s) p=true) u q)\/
  ∃s',kX (pZ next begin G) s (u.map of_)=some s'/\0<s'/\s'<qA next begin G/\∀q,inS (lI next begin G s') q=true↔gK A (FOL l) (fun p=>inS (lI next begin G s) p=true) u q
 | [],s,h0,hs,_=> .inr ⟨s,rfl,h0,hs,fun q=>Iff.rfl⟩
 | b::u,s,h0,hs,hu=>by
  have hb:=hu b bD;have hu':eE 256 u:=fun d hd=>hu d (aT _ hd)
  have hstep:=h.step hs hb (fun q=>∃p,inS (lI next begin G s) p=true/\FOL l p q) (fun q=>by
   rw[if_neg (by omega),Tc (fun p _=>h.ns p) (h.state hs)];constructor
   ·rintro⟨p,_,h2,h3⟩;exact⟨p,h2,(h.nf p q).1 h3⟩
   ·rintro⟨p,h2,h3⟩;refine⟨p, ?_,h2,(h.nf p q).2 h3⟩;apply bM;intro hc;rw[Jr (h.state hs) (by omega)]at h2
    cases h2)
  have hiff:∀q,(∃p,inS (lI next begin G s) p=true/\FOL l p q/\A q b=true)↔((∃p,inS (lI next begin G s) p=true/\FOL l p q)/\A q b=true):=fun q=>
   ⟨fun⟨p,a,b,c⟩=>⟨⟨p,a,b⟩,c⟩,fun⟨⟨p,a,b⟩,c⟩=>⟨p,a,b,c⟩⟩
  rw[cO,kX];rcases hstep with⟨h1,h2⟩ | ⟨s',h1,h2,h3,h4,_⟩
  ·left;rw[if_pos h1];exact⟨rfl,qK u _ (fun q hq=>h2 q ((hiff q).1 hq))⟩
  ·rw[if_neg (by rw[h1];omega),h1,cF];have hi:∀q,gK A (FOL l) (fun p=>inS (lI next begin G s') p=true) u q↔gK A (FOL l) (fun p=>inS (lI next begin G s) p=true) (b::u) q:=fun q=>by
    rw[gK];exact F6 u (fun p=>(h4 p).trans (hiff p).symm) q
   rcases gW.run h u s' h2 h3 hu' with⟨k1,k2⟩ | ⟨s2,k1,k2,k3,k4⟩
   ·exact .inl ⟨k1,fun q hq=>k2 q ((hi q).2 hq)⟩
   ·exact .inr ⟨s2,k1,k2,k3,fun q=>(k4 q).trans (hi q)⟩
def uN (next:Nat->Int)(begin:Int)(la G:List Int):Nat->Nat:=fun s=>rR la (lI next begin G s)
theorem gW.begun (h:gW l c A next begin la G of_){r:Nat}{x:aY}{y:Rx×Nat}(hx:l[r]? =some x)(hy:(eB 0 l)[r]? =some y)(b:Nat)(u:List Nat)(q:Nat)(h1:y.2<=q)(h2:q<y.2+y.1.np):
  gK A (FOL l) (fun p=>inS begin p=true/\A p b=true) u q↔(x.1 c=true/\gK A (y.1.fol y.2) (fun p=>y.1.fst y.2 p/\A p b=true) u q):=by
 have hp:∀q,y.2<=q->q<y.2+y.1.np->(inS begin q=true↔(x.1 c=true/\y.1.fst y.2 q)):=fun q h1 h2=>by
  rw[h.bf];constructor
  ·rintro⟨r',x',y',a1,a2,a3,a4⟩;have:=R2 hy a2 ⟨h1,h2⟩ (y'.1.fst_in y'.2 q a4);subst this;rw[hy]at a2;rw[hx]at a1;injection a2 with a2;injection a1 with a1;subst a1 a2;exact⟨a3,a4⟩
  ·rintro⟨a3,a4⟩;exact⟨r,x,y,hx,hy,a3,a4⟩
 rw[F0 hy u (fun p=>inS begin p=true/\A p b=true) (fun p=>x.1 c=true/\(y.1.fst y.2 p/\A p b=true)) (fun q h1 h2=>by rw[hp q h1 h2,and_assoc]) (fun q hq=>y.1.fst_in y.2 q hq.2.1) q h1 h2];by_cases hc:x.1 c=true
 ·simp only[hc,true_and]
 ·simp only[hc,false_and,Bool.false_eq_true];constructor
  ·intro hq;exact absurd hq (qK u _ (fun p hp=>hp) q)
  ·intro hq;exact hq.elim
theorem gW.tok (h:gW l c A next begin la G of_)(b:Nat)(u:List Nat)(hw:eE 256 (b::u)):uU l c (b::u) (cI (uN next begin la G) (pZ next begin G) 0 ((b::u).map of_)):=by
 have hb:=hw b bD;have hu:eE 256 u:=fun d hd=>hw d (aT _ hd)
 have hn:=(G6 next begin G).pos;have hword:∀(r:Nat) (x:aY) (y:Rx×Nat),l[r]? =some x->(eB 0 l)[r]? =some y->((x.1 c=true/\W x.2.2 (b::u))↔∃q,gK A (FOL l) (fun p=>inS begin p=true/\A p b=true) u q/\y.1.lst y.2 q):=fun r x y hx hy=>by
  have hyx:y.1=x.2.2:=by
   have:∀(l:List aY) (k r:Nat) (x:aY) (y:Rx×Nat),l[r]? =some x->(eB k l)[r]? =some y->y.1=x.2.2:=by
    intro l
    induction l with
    | nil=>intro k r x y h _;simp at h
    | cons z l ih=>
     intro k r x y h1 h2
     cases r with
     | zero=>
      rw[cL]at h1;rw[eB,cL]at h2;injection h1 with h1;injection h2 with h2;rw[←h1,←h2]
     | succ j=>
      rw[bN]at h1;rw[eB,bN]at h2;exact ih _ _ _ _ h1 h2
   exact this l 0 r x y hx hy
  have hsy:=h.sy y (bC hy);have hrest:=sP y.1 y.2 hsy u (fun p=>y.1.fst y.2 p/\A p b=true) [] hu;rw[cT]at hrest;have hW:W x.2.2 (b::u)↔∃q,gK A (y.1.fol y.2) (fun p=>y.1.fst y.2 p/\A p b=true) u q/\y.1.rest y.2 q []:=by
   rw[←hrest,←hyx,y.1.begins y.2 hsy b u];constructor
   ·rintro⟨p,a1,_,a3,a4⟩;exact⟨p,⟨a1,a3⟩,a4⟩
   ·rintro⟨p,⟨a1,a3⟩,a4⟩;exact⟨p,a1,hb,a3,a4⟩
  rw[hW];constructor
  ·rintro⟨a1,q,a2,a3⟩;have hq:=Da u _ (fun q hq=>y.1.fst_in y.2 q hq.1) q a2;exact⟨q,(h.begun hx hy b u q hq.1 hq.2).2 ⟨a1,a2⟩,(y.1.ends y.2 q).1 a3⟩
  ·rintro⟨q,a2,a3⟩;have hq:=y.1.lst_in y.2 q a3;obtain⟨k1,k2⟩:=(h.begun hx hy b u q hq.1 hq.2).1 a2;exact⟨k1,q,k2,(y.1.ends y.2 q).2 a3⟩
 have hpair:∀(r:Nat) (x:aY),l[r]? =some x->∃y,(eB 0 l)[r]? =some y:=fun r x hx=>by
  have:r<(eB 0 l).length:=by rw[mW];exact(aR.1 hx).1
  exact⟨_,aL this⟩
 have hstep:=h.step hn hb (fun q=>inS begin q=true) (fun q=>by rw[if_pos rfl]);rw[cO];rcases hstep with⟨h1,h2⟩ | ⟨s',h1,h2,h3,h4,_⟩
 ·rw[fB h1];refine .inl ⟨rfl,fun r x hx hno=> ?_⟩;obtain⟨y,hy⟩:=hpair r x hx;obtain⟨q,a1,_⟩:=(hword r x y hx hy).1 hno;exact qK u _ (fun p hp=>h2 p hp) q a1
 ·rw[bQ (by rw[h1];omega),h1,cF];have hi:∀q,gK A (FOL l) (fun p=>inS (lI next begin G s') p=true) u q↔gK A (FOL l) (fun p=>inS begin p=true/\A p b=true) u q:=fun q=>F6 u h4 q
  rcases h.run u s' h2 h3 hu with⟨k1,k2⟩ | ⟨s2,k1,k2,k3,k4⟩
  ·have:cI (uN next begin la G) (pZ next begin G) s' (u.map of_)=0:=by unfold cI;rw[k1]
   rw[this];refine .inl ⟨rfl,fun r x hx hno=> ?_⟩;obtain⟨y,hy⟩:=hpair r x hx;obtain⟨q,a1,_⟩:=(hword r x y hx hy).1 hno;exact k2 q ((hi q).2 a1)
  ·have hobs:cI (uN next begin la G) (pZ next begin G) s' (u.map of_)=rR la (lI next begin G s2):=by unfold cI;rw[k1];rfl
   rw[hobs];have hset:=h.state k3;have hmeet:∀(r:Nat) (x:aY) (y:Rx×Nat),l[r]? =some x->(eB 0 l)[r]? =some y->((x.1 c=true/\W x.2.2 (b::u))↔∃p,inS (lI next begin G s2) p=true/\inS (la.getD r 0) p=true):=fun r x y hx hy=>by
    rw[hword r x y hx hy];constructor
    ·rintro⟨q,a1,a2⟩;exact⟨q,(k4 q).2 ((hi q).2 a1),(h.lf r y hy q).2 a2⟩
    ·rintro⟨q,a1,a2⟩;exact⟨q,(hi q).1 ((k4 q).1 a1),(h.lf r y hy q).1 a2⟩
   rcases yP hset la 0 h.ls with⟨t1,t2⟩ | ⟨r,t1,t2,t3,t4⟩
   ·refine .inl ⟨t1,fun r x hx hno=> ?_⟩;obtain⟨y,hy⟩:=hpair r x hx;have hr:r<la.length:=by rw[h.ll];exact(aR.1 hx).1
    refine t2 (la.getD r 0) ?_ ((hmeet r x y hx hy).1 hno);rw[aO,aL hr];exact bK hr
   ·have hr:r<l.length:=by rw[←h.ll];exact t2
    obtain⟨y,hy⟩:=hpair r _ (aL hr);refine .inr ⟨r,l[r],by show wF la _ 0=_;omega,aL hr,(hmeet r _ y (aL hr) hy).2 t3,fun r' x' hr' hx' hno=> ?_⟩;obtain⟨y',hy'⟩:=hpair r' x' hx';exact t4 r' hr' ((hmeet r' x' y' hx' hy').1 hno)
theorem gW.lively (h:gW l c A next begin la G of_):K8 (qA next begin G) G.length (uN next begin la G) (pZ next begin G):=by
 intro s g hs hg hne;obtain⟨b,hb,rfl⟩:=h.gn g hg;have hstep:=h.step hs hb (fun q=>inS (if s=0 then begin else K1 next (lI next begin G s)) q=true) (fun q=>Iff.rfl);rcases hstep with⟨h1,_⟩ | ⟨s',h1,h2,h3,h4,hpos⟩
 ·exact absurd h1 hne
 ·rw[h1,cF];have hset:=h.state h3;obtain⟨q,hq⟩:=(Y9 hset).1 hpos;have hqA:=((h4 q).1 hq).2;have hql:=h.far q b hb hqA;obtain⟨r,y,hy,y1,y2⟩:=B9 l 0 q (eO _) (by omega);have hsy:=h.sy y (bC hy);have hyl:=L2 l 0 y (bC hy);obtain⟨v,hv⟩:=y.1.alive y.2 hsy (fun p p1 p2=>h.al p (by omega)) q y1 y2;have hlv:=y.1.rest_lets y.2 hsy v q hv;have hrest:=(sP y.1 y.2 hsy v (fun p=>p=q) [] hlv).1 ⟨q,rfl,by rw[cT];exact hv⟩;obtain⟨q',a1,a2⟩:=hrest;have a2:=(y.1.ends y.2 q').1 a2;have hre:gK A (FOL l) (fun p=>inS (lI next begin G s') p=true) v q':=qS (fun p q hpq=>⟨y,bC hy,hpq⟩) v _ _ (fun p hp=>by rw[hp];exact hq) q' a1;refine⟨v.map of_,fun d hd=> ?_, ?_⟩
  ·rw[bS]at hd;obtain⟨e,he,rfl⟩:=hd;exact h.gl e (hlv e he)
  ·rcases h.run v s' h2 h3 hlv with⟨_,k2⟩ | ⟨s2,k1,k2,k3,k4⟩
   ·exact absurd hre (k2 q')
   ·have hobs:cI (uN next begin la G) (pZ next begin G) s' (v.map of_)=rR la (lI next begin G s2):=by unfold cI;rw[k1];rfl
    rw[hobs];have hmeet:∃p,inS (lI next begin G s2) p=true/\inS (la.getD r 0) p=true:=⟨q',(k4 q').2 hre,(h.lf r y hy q').2 a2⟩
    have hr:r<la.length:=by rw[h.ll,←mW l 0];exact(aR.1 hy).1
    rcases yP (h.state k3) la 0 h.ls with⟨_,t2⟩ | ⟨r',t1,_⟩
    ·exact absurd hmeet (t2 (la.getD r 0) (by rw[aO,aL hr];exact bK hr))
    ·show wF la _ 0≠0;omega
theorem gW.zero (h:gW l c A next begin la G of_):uN next begin la G 0=0:=by
 have hz:=(mY next begin G).1.zero;have e:lI next begin G 0=0:=by unfold lI;rw[aO,hz];rfl
 unfold uN;rw[e];rcases yP mU la 0 h.ls with⟨t1,_⟩ | ⟨r,_,_,⟨p,hp,_⟩,_⟩
 ·exact t1
 ·rw[nX]at hp;cases hp
end
end Go.Stn
namespace Go.Stn
open Go.Proofs.YtgjgjgihceijnaaGreat (kU rD mO iQ)
theorem I9 {n L:Nat}{tr tr':Nat->Nat->Int}(h:iX n L tr)(he:∀p b,p<n->b<L->tr p b=tr' p b):∀(w:List Nat) (p:Nat),p<n->eE L w->kX tr p w=kX tr' p w
 | [],_,_,_=>rfl
 | b::w,p,hp,hl=>by
  have hb:=hl b bD;rw[kX,kX,←he p b hp hb];split
  ·rfl
  ·rename_i hn;have:=h.rng p b hp hb;exact I9 h he w _ (by omega) (fun c hc=>hl c (aT _ hc))
theorem sI {n L:Nat}{mk mk':Nat->Nat}{tr tr':Nat->Nat->Int}(h:iX n L tr)(hm:∀p,p<n->mk p=mk' p)(he:∀p b,p<n->b<L->tr p b=tr' p b)(w:List Nat)(p:Nat)(hp:p<n)(hl:eE L w):cI mk tr p w=cI mk' tr' p w:=by
 unfold cI;rw[←I9 h he w p hp hl]
 cases e:kX tr p w with
 | none=>rfl
 | some q=>exact hm q (oP h w p q hp hl e)
theorem nI.congr {n L:Nat}{mk mk':Nat->Nat}{tr tr':Nat->Nat->Int}(h:nI n L mk tr)(hm:∀p,p<n->mk p=mk' p)(he:∀p b,p<n->b<L->tr p b=tr' p b):nI n L mk' tr':=by
 have ho:=fun w p hp hl=>sI (mk:=mk) (mk':=mk') h.au hm he w p hp hl
 refine⟨⟨h.au.pos,fun p b hp hb=>by rw[←he p b hp hb];exact h.au.rng p b hp hb⟩,⟨fun p b q hp hb hq hle=> ?_,fun q hq hqn=> ?_⟩,fun p b hp hb hne=> ?_,fun p q hp hq hne=> ?_⟩
 ·rw[←he p b hp hb]at hle;obtain⟨p',b',h1,h2,h3⟩:=h.od.d1 p b q hp hb hq hle;exact⟨p',b',h1,h2,by rw[←he p' b' (by omega) h1];exact h3⟩
 ·obtain⟨p,b,h1,h2,h3⟩:=h.od.d2 q hq hqn;exact⟨p,b,h1,h2,by rw[←he p b (by omega) h2];exact h3⟩
 ·rw[←he p b hp hb]at hne ⊢;obtain⟨z,hz,h1⟩:=h.li p b hp hb hne;have:=h.au.rng p b hp hb;exact⟨z,hz,by rw[←ho z _ (by omega) hz];exact h1⟩
 ·obtain⟨z,hz,h1⟩:=h.ap p q hp hq hne;exact⟨z,hz,by rw[←ho z p hp hz,←ho z q hq hz];exact h1⟩
theorem Eqv.congr {n K:Nat}{tk tk':Nat->Nat}{nx nx':Nat->Nat->Int}(h:iX n K nx)(hm:∀p,p<n->tk p=tk' p)(he:∀p b,p<n->b<K->nx p b=nx' p b):∀(r s t:Nat),s<n->t<n->Eqv tk nx K r s t->Eqv tk' nx' K r s t
 | 0,_,_,_,_,_=>trivial
 | r+1,s,t,hs,ht,hE=>by
  refine⟨Eqv.congr h hm he r s t hs ht hE.1,by rw[←hm s hs,←hm t ht];exact hE.2.1,fun g hg=> ?_⟩;rw[←he s g hs hg,←he t g ht hg];obtain⟨h1,h2⟩:=hE.2.2 g hg;refine⟨h1,fun e=> ?_⟩;have r1:=h.rng s g hs hg;have r2:=h.rng t g ht hg;have:nx t g≠ -1:=fun e2=>e (h1.2 e2)
  exact Eqv.congr h hm he r _ _ (by omega) (by omega) (h2 e)
def vP (n:Nat)(tk:Nat->Nat)(nx:Nat->Nat->Int)(K:Nat):Option (List Nat×List Nat):=mJ n tk nx K 102 (List.replicate n 0) 0
theorem Pk (n:Nat)(tk:Nat->Nat)(nx:Nat->Nat->Int)(K:Nat):rV n tk nx K=(vP n tk nx K).map fun x=>iD tk nx K x.1 x.2:=by unfold rV vP;rfl
theorem U8 {n:Nat}{tk:Nat->Nat}{nx:Nat->Nat->Int}{K:Nat}(hn:0<n)(hrng:∀s g,s<n->g<K->nx s g= -1\/(0<=nx s g/\nx s g<(n:Int))):
  (∀x,vP n tk nx K=some x->∃r',dK n tk nx K x.1 x.2 r')/\(vP n tk nx K=none->Vj n tk nx K):=by
 unfold vP;exact An hn hrng
theorem Fx (next:Nat->Int)(begin:Int)(G la:List Int):V2 next begin G la=rV (qA next begin G) (uN next begin la G) (pZ next begin G) G.length:=by
 unfold V2 Jk qA uN pZ lI
 dsimp only
theorem sV (mk:Nat->Nat)(tr:Nat->Nat->Int)(of_:Nat->Nat):∀(w:List Nat) (p:Nat),cI mk (fun p b=>tr p (of_ b)) p w=cI mk tr p (w.map of_)
 | [],_=>rfl
 | b::w,p=>by
  rw[cO];by_cases e:tr p (of_ b)= -1
  ·rw[fB e,fB (tr:=fun p b=>tr p (of_ b)) e]
  ·rw[bQ e,bQ (tr:=fun p b=>tr p (of_ b)) e];exact sV mk tr of_ w _
theorem nI.bytes {n K:Nat}{mk:Nat->Nat}{tr:Nat->Nat->Int}(h:nI n K mk tr){of_:Nat->Nat}(h1:∀b,b<256->of_ b<K){lo:Nat->Nat}(h2:∀g,g<K->lo g<256/\of_ (lo g)=g)(h3:∀g g',g<g'->g'<K->lo g<lo g')(h4:∀b,b<256->lo (of_ b)<=b):
  nI n 256 mk (fun p b=>tr p (of_ b)):=by
 have hz:∀z,eE K z->∃w,eE 256 w/\w.map of_=z:=fun z hz=>by
  refine⟨z.map lo,fun b hb=> ?_, ?_⟩
  ·rw[bS]at hb;obtain⟨g,hg,rfl⟩:=hb;exact(h2 g (hz g hg)).1
  ·rw[List.map_map];have:∀g∈z,(of_ ∘ lo) g=g:=fun g hg=>(h2 g (hz g hg)).2
   rw[List.map_congr_left this,List.map_id']
 have hlo:∀g g',g<=g'->g'<K->lo g<=lo g':=fun g g' hle hg=>by
  by_cases e:g=g'
  ·rw[e];exact eN _
  ·exact eM (h3 g g' (by omega) hg)
 refine⟨⟨h.au.pos,fun p b hp hb=>h.au.rng p (of_ b) hp (h1 b hb)⟩,⟨fun p b q hp hb hq hle=> ?_,fun q hq hqn=> ?_⟩,fun p b hp hb hne=> ?_,fun p q hp hq hne=> ?_⟩
 ·obtain⟨p',g',a1,a2,a3⟩:=h.od.d1 p (of_ b) q hp (h1 b hb) hq hle;refine⟨p',lo g',(h2 g' a1).1, ?_,by simp only[(h2 g' a1).2];exact a3⟩;rcases a2 with a2 | ⟨a2,a4⟩
  ·exact .inl a2
  ·exact .inr ⟨a2,Nat.le_trans (hlo g' (of_ b) a4 (h1 b hb)) (h4 b hb)⟩
 ·obtain⟨p,g,a1,a2,a3⟩:=h.od.d2 q hq hqn;exact⟨p,lo g,a1,(h2 g a2).1,by simp only[(h2 g a2).2];exact a3⟩
 ·obtain⟨z,hzK,hne2⟩:=h.li p (of_ b) hp (h1 b hb) hne;obtain⟨w,hw,e⟩:=hz z hzK;exact⟨w,hw,by rw[sV,e];exact hne2⟩
 ·obtain⟨z,hzK,hne2⟩:=h.ap p q hp hq hne;obtain⟨w,hw,e⟩:=hz z hzK;exact⟨w,hw,by rw[sV mk tr of_ w p,sV mk tr of_ w q,e];exact hne2⟩
def ofB (l:List aY)(b:Nat):Nat:=(kH (jZ l)).1.getD b 0
def eU (l:List aY):List Int:=(kH (jZ l)).2
def jW (l:List aY)(c:Nat):Int:=lN (fun r=>(rD (aB st0 l).nodes (aB st0 l).rules).getD r 0) c (aB st0 l).rules 0 0
theorem I2:∀(l:List aY),(∀x∈l,mZ x)->∀f∈jZ l,Ch f
 | [],_,f,hf=>absurd hf List.not_mem_nil
 | x::l,h,f,hf=>by
  rcases List.mem_append.1 hf with h1 | h1
  ·exact(h x bD).g f h1
  ·exact I2 l (fun y hy=>h y (aT _ hy)) f h1
theorem tU:∀(l:List aY),(jZ l).length=fZ l
 | []=>rfl
 | x::l=>by show(x.2.2.fns++jZ l).length=x.2.2.np+fZ l;rw[bT,Rx.fns_len,tU l]
theorem Bm (l:List aY)(hl:∀x∈l,mZ x)(hn:fZ l<=10)(c:Nat)(hc:c<4):
  gW l c (plA (jZ l)) (kU (aB st0 l).nodes) (jW l c) (mO (aB st0 l).nodes (aB st0 l).rules) (eU l) (ofB l):=by
 obtain⟨hnet,hru⟩:=U9 l hn;have hgrp:=Pl (jZ l);have hpl:(jZ l).length<=10:=by rw[tU];exact hn
 have hrl:(aB st0 l).rules.length=l.length:=by rw[kF];show 0+l.length=l.length;omega
 have hal:=fun b=>Tp hpl b
 obtain⟨lo,lo1,lo2,lo3⟩:=hgrp.lo;have hGset:∀g,g<(eU l).length->cA ((eU l).getD g 0):=fun g hg=>by
  obtain⟨h1,h2⟩:=lo1 g hg;have:=hgrp.al (lo g) h1;rw[h2]at this;show cA ((kH (jZ l)).2.getD g 0);rw[this];exact(hal _).1
 have hbeg:=S5 (fun r=>(rD (aB st0 l).nodes (aB st0 l).rules).getD r 0) c (aB st0 l).rules 0 0 mU (fun i hi=>by
  rw[cN];have hi2:i<(rD (aB st0 l).nodes (aB st0 l).rules).length:=by rw[hnet.fl,←hrl];exact hi
  refine hnet.fs _ ?_;rw[aO,aL hi2];exact bK hi2)
 refine⟨hn,hnet.s,hnet.f,hbeg.1,fun q=> ?_,hnet.ll,hnet.ls,hnet.lf,hGset,hgrp.lt,fun b hb p=> ?_,fun g hg=>⟨lo g,(lo1 g hg).1,(lo1 g hg).2⟩,fun y hy=> ?_,fun p hp=> ?_,fun p b hb hA=> ?_⟩
 ·show inS (lN _ c _ 0 0) q=true↔_;rw[hbeg.2,nX];constructor
  ·rintro(h | ⟨i,x,h1,h2,h3⟩)
   ·cases h
   ·have hi:i<l.length:=by rw[←hrl];exact(aR.1 h1).1
    have hbl:i<(eB 0 l).length:=by rw[mW];exact hi
    refine⟨i,l[i],(eB 0 l)[i],aL hi,aL hbl, ?_, ?_⟩
    ·have:=congrArg (fun m=>m[i]?) hru;simp only[bO,h1,aL hi,eL]at this;injection this with this;injection this with this _;rw[←this];exact h2.2
    ·rw[cN]at h3;exact(hnet.ff i _ (aL hbl) q).1 h3
  ·rintro⟨r,x,y,h1,h2,h3,h4⟩;have hr:r<(aB st0 l).rules.length:=by rw[hrl];exact(aR.1 h1).1
   refine .inr ⟨r,(aB st0 l).rules[r],aL hr,⟨hc, ?_⟩, ?_⟩
   ·have:=congrArg (fun m=>m[r]?) hru;simp only[bO,h1,aL hr,eL]at this;injection this with this;injection this with this _;rw[this];exact h3
   ·rw[cN];exact(hnet.ff r y h2 q).2 h4
 ·have:=hgrp.al b hb;show inS ((kH (jZ l)).2.getD ((kH (jZ l)).1.getD b 0) 0) p=true↔_;rw[this];exact(hal b).2 p
 ·have:=E2 l [] y hy;rw[List.nil_append]at this;exact this
 ·have hp2:p<(jZ l).length:=by rw[tU];exact hp
  obtain⟨b,h1,h2⟩:=I2 l hl _ (bK hp2);refine⟨b,h1, ?_⟩;unfold plA;rw[aO,aL hp2];exact h2
 ·rw[←tU];apply bM;intro hcon;unfold plA at hA;rw[aO,List.getElem?_eq_none (by omega)]at hA
  cases hA
structure Vq (l:List aY)(c:Nat)(tab:List (Nat×List Int)):Prop where
 cn:nI tab.length (eU l).length (fun s=>(tab.getD s (0,[])).1) (fun s g=>(tab.getD s (0,[])).2.getD g 0)
 few:tab.length<=100
 apr:∃r,r<=tab.length/\∀p q,p<tab.length->q<tab.length->p≠q->¬Eqv (fun s=>(tab.getD s (0,[])).1) (fun s g=>(tab.getD s (0,[])).2.getD g 0) (eU l).length r p q
 z:(tab.getD 0 (0,[])).1=0
 tok:∀b u,eE 256 (b::u)->uU l c (b::u) (cI (fun s=>(tab.getD s (0,[])).1) (fun s g=>(tab.getD s (0,[])).2.getD g 0) 0 ((b::u).map (ofB l)))
 len:∀x∈tab,x.2.length=(eU l).length
 rul:∀x∈tab,x.1<=l.length
def uJ (l:List aY)(c:Nat):Prop:=Vj (qA (kU (aB st0 l).nodes) (jW l c) (eU l)) (uN (kU (aB st0 l).nodes) (jW l c) (mO (aB st0 l).nodes (aB st0 l).rules) (eU l)) (pZ (kU (aB st0 l).nodes) (jW l c) (eU l)) (eU l).length
theorem Q6 (l:List aY)(hl:∀x∈l,mZ x)(hn:fZ l<=10)(c:Nat)(hc:c<4):
  (∀tab,iQ (aB st0 l).nodes (aB st0 l).rules (eU l) c=some tab->Vq l c tab)/\(iQ (aB st0 l).nodes (aB st0 l).rules (eU l) c=none->uJ l c):=by
 have hcn:=Bm l hl hn c hc;have hau:=G6 (kU (aB st0 l).nodes) (jW l c) (eU l);have hor:=yJ (kU (aB st0 l).nodes) (jW l c) (eU l);have hms:=U8 (tk:=uN (kU (aB st0 l).nodes) (jW l c) (mO (aB st0 l).nodes (aB st0 l).rules) (eU l)) hau.pos hau.rng;have hst:iQ (aB st0 l).nodes (aB st0 l).rules (eU l) c=rV (qA (kU (aB st0 l).nodes) (jW l c) (eU l)) (uN (kU (aB st0 l).nodes) (jW l c) (mO (aB st0 l).nodes (aB st0 l).rules) (eU l)) (pZ (kU (aB st0 l).nodes) (jW l c) (eU l)) (eU l).length:=by
  unfold Go.Proofs.YtgjgjgihceijnaaGreat.iQ;rw[Fx];unfold jW
  rfl
 rw[Pk]at hst;rw[hst];have hli:=hcn.lively;have htk:=hcn.tok;have hzz:=hcn.zero;have hrul:∀s,uN (kU (aB st0 l).nodes) (jW l c) (mO (aB st0 l).nodes (aB st0 l).rules) (eU l) s<=l.length:=fun s=>by
  show wF _ _ 0<=_;have:∀(m:List Int) (pl:Int) (k:Nat),wF m pl k<=k+m.length:=by
   intro m
   induction m with
   | nil=>intro pl k;exact eO _
   | cons a m ih=>
    intro pl k;rw[wF];split
    ·have:=ih pl (k+1);simp only[cR];omega
    ·simp only[cR];omega
  have h1:=this (mO (aB st0 l).nodes (aB st0 l).rules) (lI (kU (aB st0 l).nodes) (jW l c) (eU l) s) 0;rw[hcn.ll]at h1;omega
 unfold uJ;generalize qA (kU (aB st0 l).nodes) (jW l c) (eU l)=n at*;generalize uN (kU (aB st0 l).nodes) (jW l c) (mO (aB st0 l).nodes (aB st0 l).rules) (eU l)=tk at*;generalize pZ (kU (aB st0 l).nodes) (jW l c) (eU l)=nx at*;refine⟨fun tab ht=> ?_,fun ht=> ?_⟩
 ·cases hm:vP n tk nx (eU l).length with
  | none=>rw[hm]at ht;cases ht
  | some x=>
   rw[hm]at ht;obtain⟨r,hM⟩:=hms.1 x hm;injection ht with ht;subst ht;have hz:=hM.zero hau.pos;have hlen:(iD tk nx (eU l).length x.1 x.2).length=x.2.length:=by simp[iD]
   have hget:∀p,p<x.2.length->(iD tk nx (eU l).length x.1 x.2).getD p (0,[])=(tk (x.2.getD p 0),(List.range (eU l).length).map fun g=>jF (bW x.1) (nx (x.2.getD p 0) g)):=fun p hp=>by
    unfold iD;rw[aO,bO,aL hp,aO,aL hp]
    rfl
   have hm1:∀p,p<x.2.length->qmk tk x.2 p=((iD tk nx (eU l).length x.1 x.2).getD p (0,[])).1:=fun p hp=>by rw[hget p hp];rfl
   have hm2:∀p g,p<x.2.length->g<(eU l).length->qtr nx x.1 x.2 p g=((iD tk nx (eU l).length x.1 x.2).getD p (0,[])).2.getD g 0:=fun p g hp hg=>by
    rw[hget p hp]
    dsimp only
    rw[aO,bO,List.getElem?_range hg]
    rfl
   have hcan:=hM.canon hau hor hli;refine⟨?_,by rw[hlen];exact hM.few,⟨r,by rw[hlen];exact hM.rd,fun p q hp hq hne hE=> ?_⟩, ?_,fun b u hw=> ?_,fun y hy=> ?_,fun y hy=> ?_⟩
   ·rw[hlen];exact hcan.congr hm1 hm2
   ·rw[hlen]at hp hq;refine hM.qapart hau hp hq hne ?_;refine Eqv.congr (n:=x.2.length) ?_ (fun p hp=>(hm1 p hp).symm) (fun p g hp hg=>(hm2 p g hp hg).symm) r p q hp hq hE;have:=(hcan.congr hm1 hm2).au;exact this
   ·rw[hget 0 hz.1,hz.2];exact hzz
   ·have h1:=htk b u hw;have h2:eE (eU l).length ((b::u).map (ofB l)):=fun d hd=>by
     rw[bS]at hd;obtain⟨e,he,rfl⟩:=hd;exact hcn.gl e (hw e he)
    have h3:=hM.qobs hau ((b::u).map (ofB l)) 0 hz.1 h2;rw[hz.2]at h3;rw[←sI hcan.au hm1 hm2 _ 0 hz.1 h2,h3];exact h1
   ·unfold iD at hy;rw[bS]at hy;obtain⟨s,_,rfl⟩:=hy;simp
   ·unfold iD at hy;rw[bS]at hy;obtain⟨s,_,rfl⟩:=hy;exact hrul s
 ·cases hm:vP n tk nx (eU l).length with
  | none=>exact hms.2 hm
  | some x=>rw[hm]at ht;cases ht
end Go.Stn
