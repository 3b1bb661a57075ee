import Derived.Test.YtgjgjgihceijnaaGreatG31
open List renaming mem_cons_self->aL,mem_cons_of_mem->aO,mem_singleton->aR,not_mem_nil->aT,mem_append->bC,mem_map->bK,getElem?_append_left->bM,length_append->bN,append_nil->bO,flatMap_cons->bS,mem_cons->bT,getElem?_eq_getElem->cF,mem_flatMap->cL,length_map->cO,append_assoc->cR,all_eq_true->cT,any_eq_true->eL,flatMap_nil->eM,length_cons->eN
open Nat renaming strongRecOn->cN,le_refl->cP
open Bool renaming eq_iff_iff->eO
namespace Go.Stn
def bD (N:List RN)(c n:Nat):List (List Nat):=oQ N c (n+1) n
def rM (P:Nat->List (List Nat)):List Nat->List (List Nat)
 | []=>[]
 | m::l=>(P m).map (·++l)++rM P l
def pdF (N:List RN):Nat->Nat->List (List Nat)
 | 0,_=>[]
 | f+1,n=>match N[n]? with
  | none=>[]
  | some x=>if x.k=0 then [[]]
   else if x.k=1 then rM (pdF N f) x.l
   else if x.k=2\/x.k=4 then x.l.flatMap (pdF N f)
   else match x.l with
    | []=>[]
    | m::_=>(pdF N f m).map (·++ [n])
def pD (N:List RN)(n:Nat):List (List Nat):=pdF N (n+1) n
theorem mN {B B':Nat->List (List Nat)}{N N':List RN}:∀(l:List Nat),(∀m,m∈l->B m=B' m)->(∀m,m∈l->emB N m=emB N' m)->hO B N l=hO B' N' l
 | [],_,_=>rfl
 | m::l,h,k=>by
  unfold hO;rw[h m aL,k m aL,mN l (fun x hx=>h x (aO _ hx)) (fun x hx=>k x (aO _ hx))]
theorem rU {B B':Nat->List (List Nat)}:∀(l:List Nat),(∀m,m∈l->B m=B' m)->rM B l=rM B' l
 | [],_=>rfl
 | m::l,h=>by
  unfold rM;rw[h m aL,rU l (fun x hx=>h x (aO _ hx))]
theorem nZ {B B':Nat->List (List Nat)}:∀(l:List Nat),(∀m,m∈l->B m=B' m)->l.flatMap B=l.flatMap B'
 | [],_=>rfl
 | m::l,h=>by
  rw[bS,bS,h m aL,nZ l (fun x hx=>h x (aO _ hx))]
theorem Pj {N M:List RN}(hc:aN N):∀(f n:Nat),n<N.length->emF (N++M) f n=emF N f n:=by
 intro f
 induction f with
 | zero=>intro n _;rfl
 | succ f ih=>
  intro n hn;unfold emF;rw[bM hn]
  cases hx:N[n]? with
  | none=>rfl
  | some x=>
   have go:∀m,m∈x.l->emF (N++M) f m=emF N f m:=fun m hm=>ih m (by have:=hc n x hx m hm;omega)
   have ga:x.l.all (emF (N++M) f)=x.l.all (emF N f):=by
    rw[eO,cT,cT];exact⟨fun h m hm=>by rw[←go m hm];exact h m hm,fun h m hm=>by rw[go m hm];exact h m hm⟩
   have gy:x.l.any (emF (N++M) f)=x.l.any (emF N f):=by
    rw[eO,eL,eL];exact⟨fun⟨m,hm,h⟩=>⟨m,hm,by rw[←go m hm];exact h⟩,fun⟨m,hm,h⟩=>⟨m,hm,by rw[go m hm];exact h⟩⟩
   simp only[ga,gy]
theorem Bg {N M:List RN}(hc:aN N){n:Nat}(hn:n<N.length):emB (N++M) n=emB N n:=Pj hc (n+1) n hn
theorem Jh {N N':List RN}{c f f' n:Nat}(hx:N[n]? =N'[n]?)(h:∀x,N[n]? =some x->∀m,m∈x.l->oQ N c f m=oQ N' c f' m/\emB N m=emB N' m):oQ N c (f+1) n=oQ N' c (f'+1) n:=by
 unfold oQ;rw[←hx]
 cases e:N[n]? with
 | none=>rfl
 | some x=>
  have h1:=fun m hm=>(h x e m hm).1
  have h2:=fun m hm=>(h x e m hm).2
  simp only[mN x.l h1 h2,nZ x.l h1]
  cases hl:x.l with
  | nil=>rfl
  | cons m l=>
   rw[hl]at h1;simp only[h1 m aL]
theorem Rj {N N':List RN}{f f' n:Nat}(hx:N[n]? =N'[n]?)(h:∀x,N[n]? =some x->∀m,m∈x.l->pdF N f m=pdF N' f' m):pdF N (f+1) n=pdF N' (f'+1) n:=by
 unfold pdF;rw[←hx]
 cases e:N[n]? with
 | none=>rfl
 | some x=>
  have h1:=h x e;simp only[rU x.l h1,nZ x.l h1]
  cases hl:x.l with
  | nil=>rfl
  | cons m l=>
   rw[hl]at h1;simp only[h1 m aL]
theorem Mo {N:List RN}(hc:aN N){c:Nat}:∀(n f f':Nat),n<f->n<f'->oQ N c f n=oQ N c f' n:=by
 intro n
 induction n using cN with
 | ind n ih=>
  intro f f' hf hf';obtain⟨f,rfl⟩:∃g,f=g+1:=⟨f - 1,by omega⟩
  obtain⟨f',rfl⟩:∃g,f'=g+1:=⟨f' - 1,by omega⟩
  exact Jh rfl (fun x hx m hm=>by
   have:=hc n x hx m hm;exact⟨ih m this f f' (by omega) (by omega),rfl⟩)
theorem Po {N:List RN}(hc:aN N):∀(n f f':Nat),n<f->n<f'->pdF N f n=pdF N f' n:=by
 intro n
 induction n using cN with
 | ind n ih=>
  intro f f' hf hf';obtain⟨f,rfl⟩:∃g,f=g+1:=⟨f - 1,by omega⟩
  obtain⟨f',rfl⟩:∃g,f'=g+1:=⟨f' - 1,by omega⟩
  exact Rj rfl (fun x hx m hm=>by
   have:=hc n x hx m hm;exact ih m this f f' (by omega) (by omega))
theorem Kx {N M:List RN}(hc:aN N){c:Nat}:∀(f n:Nat),n<N.length->oQ (N++M) c f n=oQ N c f n:=by
 intro f
 induction f with
 | zero=>intro n _;rfl
 | succ f ih=>
  intro n hn;have e:=bM (l₂:=M) hn;exact Jh e (fun x hx m hm=>by
   rw[e]at hx;have:=hc n x hx m hm;exact⟨ih m (by omega),Bg hc (by omega)⟩)
theorem Pn {N M:List RN}(hc:aN N):∀(f n:Nat),n<N.length->pdF (N++M) f n=pdF N f n:=by
 intro f
 induction f with
 | zero=>intro n _;rfl
 | succ f ih=>
  intro n hn;have e:=bM (l₂:=M) hn;exact Rj e (fun x hx m hm=>by
   rw[e]at hx;have:=hc n x hx m hm;exact ih m (by omega))
theorem uA {N M:List RN}(hc:aN N){c n:Nat}(hn:n<N.length):bD (N++M) c n=bD N c n:=Kx hc (n+1) n hn
theorem wT {N M:List RN}(hc:aN N){n:Nat}(hn:n<N.length):pD (N++M) n=pD N n:=Pn hc (n+1) n hn
theorem wW {N:List RN}(hc:aN N){c n:Nat}{x:RN}(hx:N[n]? =some x):bD N c n=if x.k=0 then(if x.f c=true then [[]]else [])
   else if x.k=1 then hO (bD N c) N x.l
   else if x.k=2\/x.k=4 then x.l.flatMap (bD N c)
   else match x.l with
    | []=>[]
    | m::_=>(bD N c m).map (·++ [n]):=by
 have h1:∀m,m∈x.l->oQ N c n m=bD N c m:=fun m hm=>by
  have:=hc n x hx m hm;exact Mo hc m n (m+1) this (by omega)
 show oQ N c (n+1) n=_;unfold oQ;rw[hx];simp only[mN (N:=N) (N':=N) x.l h1 (fun _ _=>rfl),nZ x.l h1]
 cases hl:x.l with
 | nil=>rfl
 | cons m l=>
  rw[hl]at h1;simp only[h1 m aL]
theorem uS {N:List RN}(hc:aN N){n:Nat}{x:RN}(hx:N[n]? =some x):pD N n=if x.k=0 then [[]]
   else if x.k=1 then rM (pD N) x.l
   else if x.k=2\/x.k=4 then x.l.flatMap (pD N)
   else match x.l with
    | []=>[]
    | m::_=>(pD N m).map (·++ [n]):=by
 have h1:∀m,m∈x.l->pdF N n m=pD N m:=fun m hm=>by
  have:=hc n x hx m hm;exact Po hc m n (m+1) this (by omega)
 show pdF N (n+1) n=_;unfold pdF;rw[hx];simp only[rU x.l h1,nZ x.l h1]
 cases hl:x.l with
 | nil=>rfl
 | cons m l=>
  rw[hl]at h1;simp only[h1 m aL]
def Few (l:List (List Nat))(k:Nat):Prop:=∃S:List (List Nat),S.length<=k/\∀y,y∈l->y∈S
theorem Few.nil:Few [] 0:=⟨[],cP _,fun _ hy=>hy⟩
theorem Few.map {l:List (List Nat)}{k:Nat}(h:Few l k)(g:List Nat->List Nat):Few (l.map g) k:=by
 obtain⟨S,h1,h2⟩:=h;refine⟨S.map g,by rw[cO];exact h1,fun y hy=> ?_⟩;obtain⟨z,hz,rfl⟩:=bK.1 hy;exact bK.2 ⟨z,h2 z hz,rfl⟩
theorem Few.app {l m:List (List Nat)}{k j:Nat}(h:Few l k)(h':Few m j):Few (l++m) (k+j):=by
 obtain⟨S,h1,h2⟩:=h;obtain⟨T,h3,h4⟩:=h';refine⟨S++T,by rw[bN];omega,fun y hy=> ?_⟩;rcases bC.1 hy with e | e
 ·exact bC.2 (.inl (h2 y e))
 ·exact bC.2 (.inr (h4 y e))
theorem Few.sub {l m:List (List Nat)}{k:Nat}(h:Few l k)(hs:∀y,y∈m->y∈l):Few m k:=by
 obtain⟨S,h1,h2⟩:=h;exact⟨S,h1,fun y hy=>h2 y (hs y hy)⟩
inductive Und (N:List RN) (n:Nat):Nat->Prop
 | refl:Und N n n
 | step {m j:Nat} {x:RN}:Und N n m->N[m]? =some x->j∈x.l->Und N n j
theorem Und.trans {N:List RN}{n m k:Nat}(h:Und N n m)(h2:Und N m k):Und N n k:=by
 induction h2 with
 | refl=>exact h
 | step _ e hj ih=>exact .step ih e hj
theorem Und.less {N M:List RN}(hc:aN N){n m:Nat}(hn:n<N.length)(h:Und (N++M) n m):m<N.length/\Und N n m:=by
 induction h with
 | refl=>exact⟨hn,.refl⟩
 | step _ e hj ih=>
  obtain⟨h1,h2⟩:=ih;rw[bM h1]at e;have:=hc _ _ e _ hj;exact⟨by omega,.step h2 e hj⟩
theorem Und.new {N:List RN}(hc:aN N){x:RN}(hl:∀m,m∈x.l->m<N.length){m:Nat}(h:Und (N++ [x]) N.length m):m=N.length\/∃j,j∈x.l/\m<N.length/\Und N j m:=by
 induction h with
 | refl=>exact .inl rfl
 | @step m k y _ e hk ih=>
  right;rcases ih with ih | ⟨j,h1,h2,h3⟩
  ·rw[ih,fS]at e;injection e with e;subst e;exact⟨k,hk,hl k hk,.refl⟩
  ·rw[bM h2]at e;have:=hc _ _ e _ hk;exact⟨j,h1,by omega,.step h3 e hk⟩
theorem Und.lt {N:List RN}(hc:aN N){n m:Nat}(hn:n<N.length)(h:Und N n m):m<N.length:=(Und.less (M:= []) hc hn (by rw[bO];exact h)).1
def Tr (N:List RN)(n k:Nat):Prop:=Few (pD N n) k/\∀m,Und N n m->∀c,(bD N c m).length<=k
inductive TrL (N:List RN):List Nat->Nat->Prop
 | nil:TrL N [] 0
 | cons {n k j:Nat} {l:List Nat}:Tr N n k->TrL N l j->TrL N (n::l) (k+j)
theorem Tr.more {N:List RN}{n k:Nat}(h:Tr N n k)(hc:aN N)(M:List RN)(hn:n<N.length):Tr (N++M) n k:=by
 refine⟨by rw[wT hc hn];exact h.1,fun m hm c=> ?_⟩;obtain⟨h1,h2⟩:=hm.less hc hn;rw[uA hc h1];exact h.2 m h2 c
theorem yR {N:List RN}(hc:aN N){x:RN}(hl:∀m,m∈x.l->m<N.length){k:Nat}(h:∀j,j∈x.l->∀m,Und N j m->∀c,(bD N c m).length<=k)(h0:∀c,(bD (N++ [x]) c N.length).length<=k):
  ∀m,Und (N++ [x]) N.length m->∀c,(bD (N++ [x]) c m).length<=k:=fun m hm c=>by
 rcases hm.new hc hl with e | ⟨j,h1,h2,h3⟩
 ·rw[e];exact h0 c
 ·rw[uA hc h2];exact h j h1 m h3 c
theorem Rh (N:List RN)(hc:aN N)(f:Nat->Bool):Tr (N++ [⟨0,[],f⟩]) N.length 1:=by
 refine⟨⟨[[]],cP _,fun y hy=> ?_⟩,yR hc (fun m hm=>absurd hm aT) (fun m hm=>absurd hm aT) (fun c=> ?_)⟩
 ·unfold pD pdF at hy;rw[fS]at hy;exact hy
 ·unfold bD oQ;rw[fS];simp only[if_true];split<;> simp
section
variable {N:List RN}
theorem S7 (hc:aN N){M:List RN}{c:Nat}{l:List Nat}(hl:∀m,m∈l->m<N.length):hO (bD (N++M) c) (N++M) l=hO (bD N c) N l:=
 mN l (fun m hm=>uA hc (hl m hm)) (fun m hm=>Bg hc (hl m hm))
theorem T0 (hc:aN N){M:List RN}{l:List Nat}(hl:∀m,m∈l->m<N.length):rM (pD (N++M)) l=rM (pD N) l:=rU l (fun m hm=>wT hc (hl m hm))
theorem Vf (hc:aN N){n k:Nat}(hn:n<N.length)(h:Tr N n k)(f:Nat->Bool):Tr (N++ [⟨3,[n],f⟩]) N.length k:=by
 have hc':=hc.snoc (x:=⟨3,[n],f⟩) (fun m hm=>by rw[aR.1 hm];exact hn);refine⟨?_,yR hc (fun m hm=>by rw[aR.1 hm];exact hn) (fun j hj=>by rw[aR.1 hj];exact h.2) (fun c=> ?_)⟩
 ·rw[uS hc' (fS _)];simp only[show¬(3:Nat)=0 by decide,show¬(3:Nat)=1 by decide,show¬((3:Nat)=2\/(3:Nat)=4) by decide,if_false,wT hc hn];exact h.1.map _
 ·rw[wW hc' (fS _)];simp only[show¬(3:Nat)=0 by decide,show¬(3:Nat)=1 by decide,show¬((3:Nat)=2\/(3:Nat)=4) by decide,if_false,uA hc hn,cO];exact h.2 n .refl c
theorem Wc (hc:aN N){n k:Nat}(hn:n<N.length)(h:Tr N n k)(f:Nat->Bool):Tr (N++ [⟨4,[n],f⟩]) N.length k:=by
 have hc':=hc.snoc (x:=⟨4,[n],f⟩) (fun m hm=>by rw[aR.1 hm];exact hn);refine⟨?_,yR hc (fun m hm=>by rw[aR.1 hm];exact hn) (fun j hj=>by rw[aR.1 hj];exact h.2) (fun c=> ?_)⟩
 ·rw[uS hc' (fS _)];simp only[show¬(4:Nat)=0 by decide,show¬(4:Nat)=1 by decide,if_false,bS,eM,bO,wT hc hn];exact h.1
 ·rw[wW hc' (fS _)];simp only[show¬(4:Nat)=0 by decide,show¬(4:Nat)=1 by decide,if_false,bS,eM,bO,uA hc hn];exact h.2 n .refl c
theorem TrL.row {l:List Nat}{k:Nat}(h:TrL N l k):Few (rM (pD N) l) k/\∀c,(hO (bD N c) N l).length<=k:=by
 induction h with
 | nil=>exact⟨Few.nil,fun _=>cP _⟩
 | cons h1 _ ih=>
  refine⟨(h1.1.map _).app ih.1,fun c=> ?_⟩;unfold hO;rw[bN,cO];have a:=h1.2 _ .refl c;have b:=ih.2 c;split
  ·omega
  ·simp only[List.length_nil];omega
theorem TrL.or {l:List Nat}{k:Nat}(h:TrL N l k):Few (l.flatMap (pD N)) k/\∀c,(l.flatMap (bD N c)).length<=k:=by
 induction h with
 | nil=>exact⟨Few.nil,fun _=>cP _⟩
 | cons h1 _ ih=>
  refine⟨by rw[bS];exact h1.1.app ih.1,fun c=> ?_⟩;rw[bS,bN];have a:=h1.2 _ .refl c;have b:=ih.2 c;omega
theorem TrL.all {l:List Nat}{k:Nat}(h:TrL N l k):∀j,j∈l->∀m,Und N j m->∀c,(bD N c m).length<=k:=by
 induction h with
 | nil=>intro j hj;exact absurd hj aT
 | cons h1 _ ih=>
  intro j hj m hm c;rcases bT.1 hj with e | e
  ·rw[e]at hm;have:=h1.2 m hm c;omega
  ·have:=ih j e m hm c;omega
theorem Vx (hc:aN N){l:List Nat}{k:Nat}(hl:∀m,m∈l->m<N.length)(h:TrL N l k)(f:Nat->Bool):Tr (N++ [⟨1,l,f⟩]) N.length k:=by
 have hc':=hc.snoc (x:=⟨1,l,f⟩) hl;refine⟨?_,yR hc hl h.all (fun c=> ?_)⟩
 ·rw[uS hc' (fS _)];simp only[show¬(1:Nat)=0 by decide,if_false,if_true,T0 hc hl];exact h.row.1
 ·rw[wW hc' (fS _)];simp only[show¬(1:Nat)=0 by decide,if_false,if_true,S7 hc hl];exact h.row.2 c
theorem Wu (hc:aN N){l:List Nat}{k:Nat}(hl:∀m,m∈l->m<N.length)(h:TrL N l k)(f:Nat->Bool):Tr (N++ [⟨2,l,f⟩]) N.length k:=by
 have hc':=hc.snoc (x:=⟨2,l,f⟩) hl;refine⟨?_,yR hc hl h.all (fun c=> ?_)⟩
 ·rw[uS hc' (fS _)];simp only[show¬(2:Nat)=0 by decide,show¬(2:Nat)=1 by decide,if_false,nZ l (fun m hm=>wT hc (hl m hm))];exact h.or.1
 ·rw[wW hc' (fS _)];simp only[show¬(2:Nat)=0 by decide,show¬(2:Nat)=1 by decide,if_false,nZ l (fun m hm=>uA hc (hl m hm))];exact h.or.2 c
theorem Sy (hc:aN N){n s k:Nat}(hn:n<N.length)(h:Tr N n k)(hs:s<N.length)(h':Tr N s k)(hx:∃f,N[s]? =some ⟨3,[n],f⟩)(he:emB N n=false)(f:Nat->Bool):Tr (N++ [⟨1,[n,s],f⟩]) N.length k:=by
 have hl:∀m,m∈ [n,s]->m<N.length:=fun m hm=>by
  rcases bT.1 hm with e | e
  ·rw[e];exact hn
  ·rw[aR.1 e];exact hs
 have hc':=hc.snoc (x:=⟨1,[n,s],f⟩) hl;obtain⟨g,hx⟩:=hx;refine⟨?_,yR hc hl (fun j hj=>by
  rcases bT.1 hj with e | e
  ·rw[e];exact h.2
  ·rw[aR.1 e];exact h'.2) (fun c=> ?_)⟩
 ·rw[uS hc' (fS _)];simp only[show¬(1:Nat)=0 by decide,if_false,if_true,T0 hc hl];refine(h.1.map (·++ [s])).sub (fun y hy=> ?_);have hps:=uS hc hx;simp only[show¬(3:Nat)=0 by decide,show¬(3:Nat)=1 by decide,show¬((3:Nat)=2\/(3:Nat)=4) by decide,if_false]at hps;simp only[rM,hps,bO,List.map_id']at hy;rcases bC.1 hy with e | e
  ·exact e
  ·exact e
 ·rw[wW hc' (fS _)];simp only[show¬(1:Nat)=0 by decide,if_false,if_true,S7 hc hl];unfold hO;rw[he];simp only[Bool.false_eq_true,if_false,bO,cO];exact h.2 n .refl c
theorem K0 {B P:Nat->List (List Nat)}:∀(l:List Nat),(∀m,m∈l->∀y,y∈B m->y∈P m)->∀y,y∈hO B N l->y∈rM P l
 | [],_,y,hy=>hy
 | m::l,h,y,hy=>by
  unfold hO at hy;unfold rM;rcases bC.1 hy with e | e
  ·obtain⟨z,hz,rfl⟩:=bK.1 e;exact bC.2 (.inl (bK.2 ⟨z,h m aL z hz,rfl⟩))
  ·split at e
   ·exact bC.2 (.inr (K0 l (fun x hx=>h x (aO _ hx)) y e))
   ·exact absurd e aT
theorem E9 (hc:aN N){c:Nat}:∀n,n<N.length->∀y,y∈bD N c n->y∈pD N n:=by
 intro n
 induction n using cN with
 | ind n ih=>
  intro hn y hy;obtain⟨x,hx⟩:∃x,N[n]? =some x:=⟨N[n],cF hn⟩
  rw[wW hc hx]at hy;rw[uS hc hx];have hm:∀m,m∈x.l->∀y,y∈bD N c m->y∈pD N m:=fun m hm=>by
   have:=hc n x hx m hm;exact ih m this (by omega)
  split at hy
  ·rename_i e;rw[if_pos e];split at hy
   ·exact hy
   ·exact absurd hy aT
  ·rename_i e;rw[if_neg e];split at hy
   ·rename_i e;rw[if_pos e];exact K0 x.l hm y hy
   ·rename_i e;rw[if_neg e];split at hy
    ·rename_i e;rw[if_pos e];obtain⟨m,h1,h2⟩:=cL.1 hy;exact cL.2 ⟨m,h1,hm m h1 y h2⟩
    ·rename_i e;rw[if_neg e]
     cases hl:x.l with
     | nil=>rw[hl]at hy;exact hy
     | cons m l=>
      rw[hl]at hy;simp only at hy ⊢;obtain⟨z,hz,rfl⟩:=bK.1 hy;exact bK.2 ⟨z,hm m (by rw[hl];exact aL) z hz,rfl⟩
theorem L3 {B:Nat->List (List Nat)}:∀(a b:List Nat) (z:List Nat),z∈hO B N (a++b)->(∃z1,z1∈hO B N a/\z=z1++b)\/z∈hO B N b
 | [],b,z,h=> .inr h
 | m::a,b,z,h=>by
  rw[List.cons_append]at h;unfold hO at h;rcases bC.1 h with e | e
  ·obtain⟨y,hy,rfl⟩:=bK.1 e;refine .inl ⟨y++a, ?_,by rw[cR]⟩;unfold hO;exact bC.2 (.inl (bK.2 ⟨y,hy,rfl⟩))
  ·split at e
   ·rename_i he;rcases L3 a b z e with⟨z1,h1,h2⟩ | h1
    ·refine .inl ⟨z1, ?_,h2⟩;unfold hO;rw[if_pos he];exact bC.2 (.inr h1)
    ·exact .inr h1
   ·exact absurd e aT
theorem T3 {B P:Nat->List (List Nat)}:∀(l:List Nat),(∀m,m∈l->∀y,y∈B m->y∈P m)->(∀m,m∈l->∀y,y∈P m->∀z,z∈hO B N y->z∈P m)->∀y,y∈rM P l->∀z,z∈hO B N y->z∈rM P l
 | [],_,_,y,hy,z,_=>absurd hy aT
 | m::l,h,k,y,hy,z,hz=>by
  unfold rM at hy;unfold rM;rcases bC.1 hy with e | e
  ·obtain⟨y1,hy1,rfl⟩:=bK.1 e;rcases L3 y1 l z hz with⟨z1,h1,h2⟩ | h1
   ·rw[h2];exact bC.2 (.inl (bK.2 ⟨z1,k m aL y1 hy1 z1 h1,rfl⟩))
   ·exact bC.2 (.inr (K0 l (fun x hx=>h x (aO _ hx)) z h1))
  ·exact bC.2 (.inr (T3 l (fun x hx=>h x (aO _ hx)) (fun x hx=>k x (aO _ hx)) y e z hz))
theorem Uh (hc:aN N){c:Nat}:∀n,n<N.length->∀y,y∈pD N n->∀z,z∈hO (bD N c) N y->z∈pD N n:=by
 intro n
 induction n using cN with
 | ind n ih=>
  intro hn y hy z hz;obtain⟨x,hx⟩:∃x,N[n]? =some x:=⟨N[n],cF hn⟩
  have hm:∀m,m∈x.l->∀y,y∈bD N c m->y∈pD N m:=fun m hm=>by
   have:=hc n x hx m hm;exact E9 hc m (by omega)
  have hk:∀m,m∈x.l->∀y,y∈pD N m->∀z,z∈hO (bD N c) N y->z∈pD N m:=fun m hm=>by
   have:=hc n x hx m hm;exact ih m this (by omega)
  have hs:=E9 hc (c:=c) n hn;rw[uS hc hx]at hy hs ⊢;split at hy
  ·rename_i e;rw[aR.1 hy]at hz;exact absurd hz aT
  ·rename_i e;rw[if_neg e]at hs ⊢;split at hy
   ·rename_i e;rw[if_pos e];exact T3 x.l hm hk y hy z hz
   ·rename_i e;rw[if_neg e]at hs ⊢;split at hy
    ·rename_i e;rw[if_pos e];obtain⟨m,h1,h2⟩:=cL.1 hy;exact cL.2 ⟨m,h1,hk m h1 y h2 z hz⟩
    ·rename_i e;rw[if_neg e]at hs ⊢
     cases hl:x.l with
     | nil=>rw[hl]at hy;exact absurd hy aT
     | cons m l=>
      rw[hl]at hy hs;simp only at hy hs ⊢;obtain⟨y1,hy1,rfl⟩:=bK.1 hy;rcases L3 y1 [n] z hz with⟨z1,h1,h2⟩ | h1
      ·rw[h2];exact bK.2 ⟨z1,hk m (by rw[hl];exact aL) y1 hy1 z1 h1,rfl⟩
      ·have h1:z∈bD N c n:=by
        unfold hO at h1;rcases bC.1 h1 with e | e
        ·simpa using e
        ·unfold hO at e;split at e<;> exact absurd e aT
       exact hs z h1
theorem Cq {P:Nat->List (List Nat)}{n:Nat}:∀(l:List Nat),(∀m,m∈l->Und N n m)->(∀m,m∈l->∀y,y∈P m->∀k,k∈y->Und N m k)->∀y,y∈rM P l->∀k,k∈y->Und N n k
 | [],_,_,y,hy=>absurd hy aT
 | m::l,h,h2,y,hy=>fun k hk=>by
  unfold rM at hy;rcases bC.1 hy with e | e
  ·obtain⟨y1,hy1,rfl⟩:=bK.1 e;rcases bC.1 hk with e | e
   ·exact(h m aL).trans (h2 m aL y1 hy1 k e)
   ·exact h k (aO _ e)
  ·exact Cq l (fun x hx=>h x (aO _ hx)) (fun x hx=>h2 x (aO _ hx)) y e k hk
theorem Se (hc:aN N):∀n,n<N.length->∀y,y∈pD N n->∀k,k∈y->Und N n k:=by
 intro n
 induction n using cN with
 | ind n ih=>
  intro hn y hy k hk;obtain⟨x,hx⟩:∃x,N[n]? =some x:=⟨N[n],cF hn⟩
  have hu:∀m,m∈x.l->Und N n m:=fun m hm=> .step .refl hx hm
  have hm:∀m,m∈x.l->∀y,y∈pD N m->∀k,k∈y->Und N m k:=fun m hm=>by
   have:=hc n x hx m hm;exact ih m this (by omega)
  rw[uS hc hx]at hy;split at hy
  ·rw[aR.1 hy]at hk;exact absurd hk aT
  ·split at hy
   ·exact Cq x.l hu hm y hy k hk
   ·split at hy
    ·obtain⟨m,h1,h2⟩:=cL.1 hy;exact(hu m h1).trans (hm m h1 y h2 k hk)
    ·cases hl:x.l with
     | nil=>rw[hl]at hy;exact absurd hy aT
     | cons m l=>
      rw[hl]at hy;simp only at hy;obtain⟨y1,hy1,rfl⟩:=bK.1 hy;have hmm:m∈x.l:=by rw[hl];exact aL
      rcases bC.1 hk with e | e
      ·exact(hu m hmm).trans (hm m hmm y1 hy1 k e)
      ·rw[aR.1 e];exact .refl
theorem Ba {P:Nat->List (List Nat)}{n B:Nat}:∀(l:List Nat),(∀m,m∈l->m<n)->(∀m,m∈l->∀y,y∈P m->(∀k,k∈y->k<=m)/\y.length<=B)->∀y,y∈rM P l->(∀k,k∈y->k<n)/\y.length<=B+l.length
 | [],_,_,y,hy=>absurd hy aT
 | m::l,h,k,y,hy=>by
  unfold rM at hy;rcases bC.1 hy with e | e
  ·obtain⟨y1,hy1,rfl⟩:=bK.1 e;obtain⟨a,b⟩:=k m aL y1 hy1;refine⟨fun q hq=> ?_,by simp only[bN,eN];omega⟩;rcases bC.1 hq with e | e
   ·have:=a q e;have:=h m aL;omega
   ·exact h q (aO _ e)
  ·obtain⟨a,b⟩:=Ba l (fun x hx=>h x (aO _ hx)) (fun x hx=>k x (aO _ hx)) y e;exact⟨a,by rw[eN];omega⟩
theorem Ij (hc:aN N)(hs:kP N):∀n,n<N.length->∀y,y∈pD N n->(∀k,k∈y->k<=n)/\y.length<=201*(n+1):=by
 intro n
 induction n using cN with
 | ind n ih=>
  intro hn y hy;obtain⟨x,hx⟩:∃x,N[n]? =some x:=⟨N[n],cF hn⟩
  have hk:∀m,m∈x.l->∀y,y∈pD N m->(∀k,k∈y->k<=m)/\y.length<=201*n:=fun m hm y hy=>by
   have:=hc n x hx m hm;obtain⟨a,b⟩:=ih m this (by omega) y hy;exact⟨a,by omega⟩
  have hm:=hc n x hx;have hl2:=(hs n x hx).2.2;rw[uS hc hx]at hy;split at hy
  ·rw[aR.1 hy];exact⟨fun k hk=>absurd hk aT,by simp⟩
  ·split at hy
   ·obtain⟨a,b⟩:=Ba x.l hm hk y hy;exact⟨fun k hk=>Nat.le_of_lt (a k hk),by omega⟩
   ·split at hy
    ·obtain⟨m,h1,h2⟩:=cL.1 hy;obtain⟨a,b⟩:=hk m h1 y h2;have:=hm m h1;exact⟨fun k hk=>by have:=a k hk;omega,by omega⟩
    ·cases hl:x.l with
     | nil=>rw[hl]at hy;exact absurd hy aT
     | cons m l=>
      rw[hl]at hy;simp only at hy;obtain⟨y1,hy1,rfl⟩:=bK.1 hy;have hmm:m∈x.l:=by rw[hl];exact aL
      obtain⟨a,b⟩:=hk m hmm y1 hy1;have:=hm m hmm;refine⟨fun q hq=> ?_,by rw[bN,List.length_singleton];omega⟩;rcases bC.1 hq with e | e
      ·have:=a q e;omega
      ·rw[aR.1 e];exact cP _
end
end Go.Stn
namespace Go.Stn
def tG (N:List RN)(n:Nat)(r:Rx):Prop:=n<N.length/\∀w,WN N n w↔W r w
theorem tG.more {N:List RN}(hc:aN N){n:Nat}{r:Rx}(h:tG N n r)(M:List RN):tG (N++M) n r:=
 ⟨by rw[bN];have:=h.1;omega,fun w=>(Uq hc h.1 w).trans (h.2 w)⟩
theorem Ia {N:List RN}(hc:aN N)(f:Nat->Bool):tG (N++ [⟨0,[],f⟩]) N.length (.pl f):=by
 have hc':=hc.snoc (x:=⟨0,[],f⟩) (fun m hm=>absurd hm aT);refine⟨by simp,fun w=> ?_⟩;rw[wH hc' (fS _)];constructor
 ·rintro(⟨_,h⟩ | ⟨h,_⟩ | ⟨h,_⟩ | ⟨h,_⟩ | ⟨h,_⟩)
  ·exact h
  ·cases h
  ·cases h
  ·cases h
  ·cases h
 ·intro h;exact .inl ⟨rfl,h⟩
theorem Mu {N:List RN}(hc:aN N){n:Nat}{r:Rx}(h:tG N n r)(f:Nat->Bool):tG (N++ [⟨3,[n],f⟩]) N.length (.star r):=by
 have hc':=hc.snoc (x:=⟨3,[n],f⟩) (fun m hm=>by rw[aR.1 hm];exact h.1);have hm:=h.more hc [⟨3,[n],f⟩];refine⟨by simp,fun w=> ?_⟩;rw[wH hc' (fS _)];constructor
 ·rintro(⟨h,_⟩ | ⟨h,_⟩ | ⟨h,_⟩ | ⟨_,h⟩ | ⟨h,_⟩)
  ·cases h
  ·cases h
  ·cases h
  ·rcases h with h | ⟨m,hm',h⟩
   ·exact .inl h
   ·rw[aR.1 hm']at h;exact .inr (h.congr (fun u hu=>(hm.2 u).1 hu))
  ·cases h
 ·intro h;refine .inr (.inr (.inr (.inl ⟨rfl, ?_⟩)));rcases h with h | h
  ·exact .inl h
  ·exact .inr ⟨n,aR.2 rfl,h.congr (fun u hu=>(hm.2 u).2 hu)⟩
theorem Pe {N:List RN}(hc:aN N){n:Nat}{r:Rx}(h:tG N n r)(f:Nat->Bool):tG (N++ [⟨4,[n],f⟩]) N.length (.opt r):=by
 have hc':=hc.snoc (x:=⟨4,[n],f⟩) (fun m hm=>by rw[aR.1 hm];exact h.1);have hm:=h.more hc [⟨4,[n],f⟩];refine⟨by simp,fun w=> ?_⟩;rw[wH hc' (fS _)];constructor
 ·rintro(⟨h,_⟩ | ⟨h,_⟩ | ⟨h,_⟩ | ⟨h,_⟩ | ⟨_,h⟩)
  ·cases h
  ·cases h
  ·cases h
  ·cases h
  ·rcases h with h | ⟨m,hm',h⟩
   ·exact .inl h
   ·rw[aR.1 hm']at h;exact .inr ((hm.2 w).1 h)
 ·intro h;refine .inr (.inr (.inr (.inr ⟨rfl, ?_⟩)));rcases h with h | h
  ·exact .inl h
  ·exact .inr ⟨n,aR.2 rfl,(hm.2 w).2 h⟩
def rE:Rx->List Rx->Rx
 | r,[]=>r
 | r,r2::l=>rE (.cat r r2) l
def uP:Rx->List Rx->Rx
 | r,[]=>r
 | r,r2::l=>uP (.alt r r2) l
inductive pK (N:List RN):List Nat->List Rx->Prop
 | nil:pK N [] []
 | cons {n:Nat} {r:Rx} {l:List Nat} {rs:List Rx}:tG N n r->pK N l rs->pK N (n::l) (r::rs)
theorem pK.more {N:List RN}(hc:aN N){l:List Nat}{rs:List Rx}(h:pK N l rs)(M:List RN):pK (N++M) l rs:=by
 induction h with
 | nil=>exact .nil
 | cons h1 _ ih=>exact .cons (h1.more hc M) ih
theorem pK.lt {N:List RN}{l:List Nat}{rs:List Rx}(h:pK N l rs):∀m,m∈l->m<N.length:=by
 induction h with
 | nil=>intro m hm;exact absurd hm aT
 | cons h1 _ ih=>
  intro m hm;rcases bT.1 hm with e | e
  ·rw[e];exact h1.1
  ·exact ih m e
theorem Rl:∀(rs:List Rx) (r:Rx) (w:List Nat),W (rE r rs) w↔∃u v,w=u++v/\W r u/\(rs.foldr (fun(x:Rx) (P:List Nat->Prop)=>fun z=>∃a b,z=a++b/\W x a/\P b) (fun z=>z= [])) v
 | [],r,w=>by
  constructor
  ·intro h;exact⟨w,[],by simp,h,rfl⟩
  ·rintro⟨u,v,e,h1,h2⟩;have h2:v= []:=h2;subst h2;rw[e,bO];exact h1
 | r2::l,r,w=>by
  show W (rE (.cat r r2) l) w↔_;rw[Rl l];constructor
  ·rintro⟨u,v,e,⟨a,b,e2,h1,h2⟩,h3⟩;exact⟨a,b++v,by rw[e,e2,cR],h1,b,v,rfl,h2,h3⟩
  ·rintro⟨u,v,e,h1,b,c,e2,h2,h3⟩;exact⟨u++b,c,by rw[e,e2,cR],⟨u,b,rfl,h1,h2⟩,h3⟩
theorem pK.cat {N:List RN}{l:List Nat}{rs:List Rx}(h:pK N l rs):∀v,kS (WN N) l v↔(rs.foldr (fun(x:Rx) (P:List Nat->Prop)=>fun z=>∃a b,z=a++b/\W x a/\P b) (fun z=>z= [])) v:=by
 induction h with
 | nil=>intro v;exact Iff.rfl
 | cons h1 _ ih=>
  intro v;constructor
  ·rintro⟨a,b,e,x,y⟩;exact⟨a,b,e,(h1.2 a).1 x,(ih b).1 y⟩
  ·rintro⟨a,b,e,x,y⟩;exact⟨a,b,e,(h1.2 a).2 x,(ih b).2 y⟩
theorem As {N:List RN}(hc:aN N){l:List Nat}{r:Rx}{rs:List Rx}(h:pK N l (r::rs))(f:Nat->Bool):tG (N++ [⟨1,l,f⟩]) N.length (rE r rs):=by
 have hc':=hc.snoc (x:=⟨1,l,f⟩) h.lt;have hm:=h.more hc [⟨1,l,f⟩];refine⟨by simp,fun w=> ?_⟩;rw[wH hc' (fS _),Rl];have e:=hm.cat w;constructor
 ·rintro(⟨h,_⟩ | ⟨_,h⟩ | ⟨h,_⟩ | ⟨h,_⟩ | ⟨h,_⟩)
  ·cases h
  ·exact e.1 h
  ·cases h
  ·cases h
  ·cases h
 ·intro h;exact .inr (.inl ⟨rfl,e.2 h⟩)
theorem Rz:∀(rs:List Rx) (r:Rx) (w:List Nat),W (uP r rs) w↔W r w\/∃x,x∈rs/\W x w
 | [],r,w=>by
  constructor
  ·intro h;exact .inl h
  ·rintro(h | ⟨x,hx,_⟩)
   ·exact h
   ·exact absurd hx aT
 | r2::l,r,w=>by
  show W (uP (.alt r r2) l) w↔_;rw[Rz l];constructor
  ·rintro((h | h) | ⟨x,hx,h⟩)
   ·exact .inl h
   ·exact .inr ⟨r2,aL,h⟩
   ·exact .inr ⟨x,aO _ hx,h⟩
  ·rintro(h | ⟨x,hx,h⟩)
   ·exact .inl (.inl h)
   ·rcases bT.1 hx with e | e
    ·subst e;exact .inl (.inr h)
    ·exact .inr ⟨x,e,h⟩
theorem pK.any {N:List RN}{l:List Nat}{rs:List Rx}(h:pK N l rs)(w:List Nat):(∃m,m∈l/\WN N m w)↔∃x,x∈rs/\W x w:=by
 induction h with
 | nil=>exact⟨fun⟨m,hm,_⟩=>absurd hm aT,fun⟨m,hm,_⟩=>absurd hm aT⟩
 | @cons n r l rs h1 _ ih=>
  constructor
  ·rintro⟨m,hm,h⟩;rcases bT.1 hm with e | e
   ·subst e;exact⟨r,aL,(h1.2 w).1 h⟩
   ·obtain⟨x,hx,h⟩:=ih.1 ⟨m,e,h⟩;exact⟨x,aO _ hx,h⟩
  ·rintro⟨m,hm,h⟩;rcases bT.1 hm with e | e
   ·subst e;exact⟨n,aL,(h1.2 w).2 h⟩
   ·obtain⟨x,hx,h⟩:=ih.2 ⟨m,e,h⟩;exact⟨x,aO _ hx,h⟩
theorem Tb {N:List RN}(hc:aN N){l:List Nat}{r:Rx}{rs:List Rx}(h:pK N l (r::rs))(f:Nat->Bool):tG (N++ [⟨2,l,f⟩]) N.length (uP r rs):=by
 have hc':=hc.snoc (x:=⟨2,l,f⟩) h.lt;have hm:=h.more hc [⟨2,l,f⟩];refine⟨by simp,fun w=> ?_⟩;rw[wH hc' (fS _),Rz];have e:=hm.any w;constructor
 ·rintro(⟨h,_⟩ | ⟨h,_⟩ | ⟨_,h⟩ | ⟨h,_⟩ | ⟨h,_⟩)
  ·cases h
  ·cases h
  ·obtain⟨x,hx,hw⟩:=e.1 h;rcases bT.1 hx with e2 | e2
   ·rw[e2]at hw;exact .inl hw
   ·exact .inr ⟨x,e2,hw⟩
  ·cases h
  ·cases h
 ·rintro(h | ⟨x,hx,h⟩)
  ·exact .inr (.inr (.inl ⟨rfl,e.2 ⟨r,aL,h⟩⟩))
  ·exact .inr (.inr (.inl ⟨rfl,e.2 ⟨x,aO _ hx,h⟩⟩))
theorem Si {r:Rx}(h:W r [])(w:List Nat):W (.plus r) w↔W (.star r) w:=
 ⟨fun h1=> .inr h1,fun h1=>by
  rcases h1 with h1 | h1
  ·rw[h1];exact .one h
  ·exact h1⟩
theorem Oa (r:Rx)(w:List Nat):W (.plus r) w↔W (.cat r (.star r)) w:=by
 constructor
 ·intro h;have h:nS (W r) w:=h
  cases h with
  | one h=>exact⟨w,[],by simp,h,.inl rfl⟩
  | more hu hv=>exact⟨_,_,rfl,hu,.inr hv⟩
 ·rintro⟨u,v,e,h1,h2⟩;rcases h2 with h2 | h2
  ·rw[e,h2,bO];exact .one h1
  ·rw[e];exact .more h1 h2
theorem tG.congr {N:List RN}{n:Nat}{r r':Rx}(h:tG N n r)(he:∀w,W r w↔W r' w):tG N n r':=⟨h.1,fun w=>(h.2 w).trans (he w)⟩
def Sem (N:List RN)(n:Nat)(r:Rx):Prop:=n<N.length/\(∀w,WN N n w↔W r w)/\Tr N n r.np
theorem Sem.w {N:List RN}{n:Nat}{r:Rx}(h:Sem N n r):tG N n r:=⟨h.1,h.2.1⟩
theorem tG.tr {N:List RN}{n:Nat}{r:Rx}(h:tG N n r)(ht:Tr N n r.np):Sem N n r:=⟨h.1,h.2,ht⟩
theorem Sem.more {N:List RN}(hc:aN N){n:Nat}{r:Rx}(h:Sem N n r)(M:List RN):Sem (N++M) n r:=(h.w.more hc M).tr (h.2.2.more hc M h.1)
theorem Nm {N:List RN}(hc:aN N)(f:Nat->Bool):Sem (N++ [⟨0,[],f⟩]) N.length (.pl f):=(Ia hc f).tr (Rh N hc f)
theorem Az {N:List RN}(hc:aN N){n:Nat}{r:Rx}(h:Sem N n r)(f:Nat->Bool):Sem (N++ [⟨3,[n],f⟩]) N.length (.star r):=(Mu hc h.w f).tr (Vf hc h.1 h.2.2 f)
theorem Ug {N:List RN}(hc:aN N){n:Nat}{r:Rx}(h:Sem N n r)(f:Nat->Bool):Sem (N++ [⟨4,[n],f⟩]) N.length (.opt r):=(Pe hc h.w f).tr (Wc hc h.1 h.2.2 f)
inductive mH (N:List RN):List Nat->List Rx->Prop
 | nil:mH N [] []
 | cons {n:Nat} {r:Rx} {l:List Nat} {rs:List Rx}:Sem N n r->mH N l rs->mH N (n::l) (r::rs)
theorem mH.w {N:List RN}{l:List Nat}{rs:List Rx}(h:mH N l rs):pK N l rs:=by
 induction h with
 | nil=>exact .nil
 | cons h1 _ ih=>exact .cons h1.w ih
theorem mH.more {N:List RN}(hc:aN N){l:List Nat}{rs:List Rx}(h:mH N l rs)(M:List RN):mH (N++M) l rs:=by
 induction h with
 | nil=>exact .nil
 | cons h1 _ ih=>exact .cons (h1.more hc M) ih
theorem mH.snoc {N:List RN}{l:List Nat}{rs:List Rx}(h:mH N l rs){n:Nat}{r:Rx}(hn:Sem N n r):mH N (l++ [n]) (rs++ [r]):=by
 induction h with
 | nil=>exact .cons hn .nil
 | cons h1 _ ih=>exact .cons h1 ih
theorem mH.lt {N:List RN}{l:List Nat}{rs:List Rx}(h:mH N l rs):∀m,m∈l->m<N.length:=h.w.lt
def npZ:List Rx->Nat
 | []=>0
 | r::l=>r.np+npZ l
theorem mH.tr {N:List RN}{l:List Nat}{rs:List Rx}(h:mH N l rs):TrL N l (npZ rs):=by
 induction h with
 | nil=>exact .nil
 | cons h1 _ ih=>exact .cons h1.2.2 ih
theorem Cn:∀(ps:List Rx) (p:Rx),(rE p ps).np=p.np+npZ ps
 | [],p=>by simp[npZ,rE]
 | x::ps,p=>by show(rE (.cat p x) ps).np=_;rw[Cn ps];show p.np+x.np+npZ ps=p.np+(x.np+npZ ps);omega
theorem Br:∀(ps:List Rx) (p:Rx),(uP p ps).np=p.np+npZ ps
 | [],p=>by simp[npZ,uP]
 | x::ps,p=>by show(uP (.alt p x) ps).np=_;rw[Br ps];show p.np+x.np+npZ ps=p.np+(x.np+npZ ps);omega
theorem Io {N:List RN}(hc:aN N){l:List Nat}{r:Rx}{rs:List Rx}(h:mH N l (r::rs))(f:Nat->Bool):Sem (N++ [⟨1,l,f⟩]) N.length (rE r rs):=(As hc h.w f).tr (by rw[Cn];exact Vx hc h.lt h.tr f)
theorem Wo {N:List RN}(hc:aN N){l:List Nat}{r:Rx}{rs:List Rx}(h:mH N l (r::rs))(f:Nat->Bool):Sem (N++ [⟨2,l,f⟩]) N.length (uP r rs):=(Tb hc h.w f).tr (by rw[Br];exact Wu hc h.lt h.tr f)
theorem Sem.congr {N:List RN}{n:Nat}{r r':Rx}(h:Sem N n r)(he:∀w,W r w↔W r' w)(hn:r.np=r'.np):Sem N n r':=⟨h.1,fun w=>(h.2.1 w).trans (he w),by rw[←hn];exact h.2.2⟩
theorem Qw {N:List RN}(hc:aN N){n s:Nat}{r:Rx}(h:Sem N n r)(hs:Sem N s (.star r))(hx:∃f,N[s]? =some ⟨3,[n],f⟩)(he:emB N n=false)(f:Nat->Bool):Sem (N++ [⟨1,[n,s],f⟩]) N.length (.plus r):=
 ((As (rs:= [.star r]) hc (.cons h.w (.cons hs.w .nil)) f).congr (fun u=>(Oa r u).symm)).tr (Sy hc h.1 h.2.2 hs.1 hs.2.2 hx he f)
end Go.Stn
