/- Texts put together: RtTree, RtLang. -/
import Derived.Test.YtgjgjgihceijnaaG26
namespace Go.Stn
def bD (N:List RN)(c n:Nat):List (List Nat):=behD N c (n+1) n
def rowQ (P:Nat→List (List Nat)):List Nat→List (List Nat)
 | []=>[]
 | m::l=>(P m).map (·++l)++rowQ P l
def pdF (N:List RN):Nat→Nat→List (List Nat)
 | 0,_=>[]
 | f+1,n=>match N[n]? with
  | none=>[]
  | some x=>if x.k=0 then [[]]
   else if x.k=1 then rowQ (pdF N f) x.l
   else if x.k=2∨x.k=4 then x.l.flatMap (pdF N f)
   else match x.l with
    | []=>[]
    | m::_=>(pdF N f m).map (·++ [n])
def pD (N:List RN)(n:Nat):List (List Nat):=pdF N (n+1) n
theorem rowD_congr {B B':Nat→List (List Nat)}{N N':List RN}:∀(l:List Nat),(∀m,m∈l→B m=B' m)→(∀m,m∈l→emB N m=emB N' m)→rowD B N l=rowD B' N' l
 | [],_,_=>rfl
 | m::l,h,k=>by
  unfold rowD
  rw[h m List.mem_cons_self,k m List.mem_cons_self,rowD_congr l (fun x hx=>h x (List.mem_cons_of_mem _ hx)) (fun x hx=>k x (List.mem_cons_of_mem _ hx))]
theorem rowQ_congr {B B':Nat→List (List Nat)}:∀(l:List Nat),(∀m,m∈l→B m=B' m)→rowQ B l=rowQ B' l
 | [],_=>rfl
 | m::l,h=>by
  unfold rowQ
  rw[h m List.mem_cons_self,rowQ_congr l (fun x hx=>h x (List.mem_cons_of_mem _ hx))]
theorem fm_congr {B B':Nat→List (List Nat)}:∀(l:List Nat),(∀m,m∈l→B m=B' m)→l.flatMap B=l.flatMap B'
 | [],_=>rfl
 | m::l,h=>by
  rw[List.flatMap_cons,List.flatMap_cons,h m List.mem_cons_self,fm_congr l (fun x hx=>h x (List.mem_cons_of_mem _ hx))]
theorem emF_more {N M:List RN}(hc:ClosedN N):∀(f n:Nat),n<N.length→emF (N++M) f n=emF N f n:=by
 intro f
 induction f with
 | zero=>intro n _;rfl
 | succ f ih=>
  intro n hn
  unfold emF
  rw[List.getElem?_append_left hn]
  cases hx:N[n]? with
  | none=>rfl
  | some x=>
   have go:∀m,m∈x.l→emF (N++M) f m=emF N f m:=fun m hm=>ih m (by have:=hc n x hx m hm;omega)
   have ga:x.l.all (emF (N++M) f)=x.l.all (emF N f):=by
    rw[Bool.eq_iff_iff,List.all_eq_true,List.all_eq_true]
    exact⟨fun h m hm=>by rw[←go m hm];exact h m hm,fun h m hm=>by rw[go m hm];exact h m hm⟩
   have gy:x.l.any (emF (N++M) f)=x.l.any (emF N f):=by
    rw[Bool.eq_iff_iff,List.any_eq_true,List.any_eq_true]
    exact⟨fun⟨m,hm,h⟩=>⟨m,hm,by rw[←go m hm];exact h⟩,fun⟨m,hm,h⟩=>⟨m,hm,by rw[go m hm];exact h⟩⟩
   simp only[ga,gy]
theorem emB_more {N M:List RN}(hc:ClosedN N){n:Nat}(hn:n<N.length):emB (N++M) n=emB N n:=emF_more hc (n+1) n hn
theorem behD_go {N N':List RN}{c f f' n:Nat}(hx:N[n]? =N'[n]?)(h:∀x,N[n]? =some x→∀m,m∈x.l→behD N c f m=behD N' c f' m∧emB N m=emB N' m):behD N c (f+1) n=behD N' c (f'+1) n:=by
 unfold behD
 rw[←hx]
 cases e:N[n]? with
 | none=>rfl
 | some x=>
  have h1:=fun m hm=>(h x e m hm).1
  have h2:=fun m hm=>(h x e m hm).2
  simp only[rowD_congr x.l h1 h2,fm_congr x.l h1]
  cases hl:x.l with
  | nil=>rfl
  | cons m l=>
   rw[hl]at h1
   simp only[h1 m List.mem_cons_self]
theorem pdF_go {N N':List RN}{f f' n:Nat}(hx:N[n]? =N'[n]?)(h:∀x,N[n]? =some x→∀m,m∈x.l→pdF N f m=pdF N' f' m):pdF N (f+1) n=pdF N' (f'+1) n:=by
 unfold pdF
 rw[←hx]
 cases e:N[n]? with
 | none=>rfl
 | some x=>
  have h1:=h x e
  simp only[rowQ_congr x.l h1,fm_congr x.l h1]
  cases hl:x.l with
  | nil=>rfl
  | cons m l=>
   rw[hl]at h1
   simp only[h1 m List.mem_cons_self]
theorem behD_fuel {N:List RN}(hc:ClosedN N){c:Nat}:∀(n f f':Nat),n<f→n<f'→behD N c f n=behD N c f' n:=by
 intro n
 induction n using Nat.strongRecOn with
 | ind n ih=>
  intro f f' hf hf'
  obtain⟨f,rfl⟩:∃g,f=g+1:=⟨f - 1,by omega⟩
  obtain⟨f',rfl⟩:∃g,f'=g+1:=⟨f' - 1,by omega⟩
  exact behD_go rfl (fun x hx m hm=>by
   have:=hc n x hx m hm
   exact⟨ih m this f f' (by omega) (by omega),rfl⟩)
theorem pdF_fuel {N:List RN}(hc:ClosedN N):∀(n f f':Nat),n<f→n<f'→pdF N f n=pdF N f' n:=by
 intro n
 induction n using Nat.strongRecOn with
 | ind n ih=>
  intro f f' hf hf'
  obtain⟨f,rfl⟩:∃g,f=g+1:=⟨f - 1,by omega⟩
  obtain⟨f',rfl⟩:∃g,f'=g+1:=⟨f' - 1,by omega⟩
  exact pdF_go rfl (fun x hx m hm=>by
   have:=hc n x hx m hm
   exact ih m this f f' (by omega) (by omega))
theorem behD_more {N M:List RN}(hc:ClosedN N){c:Nat}:∀(f n:Nat),n<N.length→behD (N++M) c f n=behD N c f n:=by
 intro f
 induction f with
 | zero=>intro n _;rfl
 | succ f ih=>
  intro n hn
  have e:=List.getElem?_append_left (l₂:=M) hn
  exact behD_go e (fun x hx m hm=>by
   rw[e]at hx
   have:=hc n x hx m hm
   exact⟨ih m (by omega),emB_more hc (by omega)⟩)
theorem pdF_more {N M:List RN}(hc:ClosedN N):∀(f n:Nat),n<N.length→pdF (N++M) f n=pdF N f n:=by
 intro f
 induction f with
 | zero=>intro n _;rfl
 | succ f ih=>
  intro n hn
  have e:=List.getElem?_append_left (l₂:=M) hn
  exact pdF_go e (fun x hx m hm=>by
   rw[e]at hx
   have:=hc n x hx m hm
   exact ih m (by omega))
theorem bD_more {N M:List RN}(hc:ClosedN N){c n:Nat}(hn:n<N.length):bD (N++M) c n=bD N c n:=behD_more hc (n+1) n hn
theorem pD_more {N M:List RN}(hc:ClosedN N){n:Nat}(hn:n<N.length):pD (N++M) n=pD N n:=pdF_more hc (n+1) n hn
theorem bD_eq {N:List RN}(hc:ClosedN N){c n:Nat}{x:RN}(hx:N[n]? =some x):bD N c n=if x.k=0 then(if x.f c=true then [[]]else [])
   else if x.k=1 then rowD (bD N c) N x.l
   else if x.k=2∨x.k=4 then x.l.flatMap (bD N c)
   else match x.l with
    | []=>[]
    | m::_=>(bD N c m).map (·++ [n]):=by
 have h1:∀m,m∈x.l→behD N c n m=bD N c m:=fun m hm=>by
  have:=hc n x hx m hm
  exact behD_fuel hc m n (m+1) this (by omega)
 show behD N c (n+1) n=_
 unfold behD
 rw[hx]
 simp only[rowD_congr (N:=N) (N':=N) x.l h1 (fun _ _=>rfl),fm_congr x.l h1]
 cases hl:x.l with
 | nil=>rfl
 | cons m l=>
  rw[hl]at h1
  simp only[h1 m List.mem_cons_self]
theorem pD_eq {N:List RN}(hc:ClosedN N){n:Nat}{x:RN}(hx:N[n]? =some x):pD N n=if x.k=0 then [[]]
   else if x.k=1 then rowQ (pD N) x.l
   else if x.k=2∨x.k=4 then x.l.flatMap (pD N)
   else match x.l with
    | []=>[]
    | m::_=>(pD N m).map (·++ [n]):=by
 have h1:∀m,m∈x.l→pdF N n m=pD N m:=fun m hm=>by
  have:=hc n x hx m hm
  exact pdF_fuel hc m n (m+1) this (by omega)
 show pdF N (n+1) n=_
 unfold pdF
 rw[hx]
 simp only[rowQ_congr x.l h1,fm_congr x.l h1]
 cases hl:x.l with
 | nil=>rfl
 | cons m l=>
  rw[hl]at h1
  simp only[h1 m List.mem_cons_self]
def Few (l:List (List Nat))(k:Nat):Prop:=∃S:List (List Nat),S.length≤k∧∀y,y∈l→y∈S
theorem Few.nil:Few [] 0:=⟨[],Nat.le_refl _,fun _ hy=>hy⟩
theorem Few.map {l:List (List Nat)}{k:Nat}(h:Few l k)(g:List Nat→List Nat):Few (l.map g) k:=by
 obtain⟨S,h1,h2⟩:=h
 refine⟨S.map g,by rw[List.length_map];exact h1,fun y hy=> ?_⟩
 obtain⟨z,hz,rfl⟩:=List.mem_map.1 hy
 exact List.mem_map.2 ⟨z,h2 z hz,rfl⟩
theorem Few.app {l m:List (List Nat)}{k j:Nat}(h:Few l k)(h':Few m j):Few (l++m) (k+j):=by
 obtain⟨S,h1,h2⟩:=h
 obtain⟨T,h3,h4⟩:=h'
 refine⟨S++T,by rw[List.length_append];omega,fun y hy=> ?_⟩
 rcases List.mem_append.1 hy with e | e
 ·exact List.mem_append.2 (.inl (h2 y e))
 ·exact List.mem_append.2 (.inr (h4 y e))
theorem Few.sub {l m:List (List Nat)}{k:Nat}(h:Few l k)(hs:∀y,y∈m→y∈l):Few m k:=by
 obtain⟨S,h1,h2⟩:=h
 exact⟨S,h1,fun y hy=>h2 y (hs y hy)⟩
inductive Und (N:List RN) (n:Nat):Nat→Prop
 | refl:Und N n n
 | step {m j:Nat} {x:RN}:Und N n m→N[m]? =some x→j∈x.l→Und N n j
theorem Und.trans {N:List RN}{n m k:Nat}(h:Und N n m)(h2:Und N m k):Und N n k:=by
 induction h2 with
 | refl=>exact h
 | step _ e hj ih=>exact .step ih e hj
theorem Und.less {N M:List RN}(hc:ClosedN N){n m:Nat}(hn:n<N.length)(h:Und (N++M) n m):m<N.length∧Und N n m:=by
 induction h with
 | refl=>exact⟨hn,.refl⟩
 | step _ e hj ih=>
  obtain⟨h1,h2⟩:=ih
  rw[List.getElem?_append_left h1]at e
  have:=hc _ _ e _ hj
  exact⟨by omega,.step h2 e hj⟩
theorem Und.new {N:List RN}(hc:ClosedN N){x:RN}(hl:∀m,m∈x.l→m<N.length){m:Nat}(h:Und (N++ [x]) N.length m):m=N.length∨∃j,j∈x.l∧m<N.length∧Und N j m:=by
 induction h with
 | refl=>exact .inl rfl
 | @step m k y _ e hk ih=>
  right
  rcases ih with ih | ⟨j,h1,h2,h3⟩
  ·rw[ih,snoc_at]at e
   injection e with e
   subst e
   exact⟨k,hk,hl k hk,.refl⟩
  ·rw[List.getElem?_append_left h2]at e
   have:=hc _ _ e _ hk
   exact⟨j,h1,by omega,.step h3 e hk⟩
theorem Und.lt {N:List RN}(hc:ClosedN N){n m:Nat}(hn:n<N.length)(h:Und N n m):m<N.length:=(Und.less (M:= []) hc hn (by rw[List.append_nil];exact h)).1
def Tr (N:List RN)(n k:Nat):Prop:=Few (pD N n) k∧∀m,Und N n m→∀c,(bD N c m).length≤k
inductive TrL (N:List RN):List Nat→Nat→Prop
 | nil:TrL N [] 0
 | cons {n k j:Nat} {l:List Nat}:Tr N n k→TrL N l j→TrL N (n::l) (k+j)
theorem Tr.more {N:List RN}{n k:Nat}(h:Tr N n k)(hc:ClosedN N)(M:List RN)(hn:n<N.length):Tr (N++M) n k:=by
 refine⟨by rw[pD_more hc hn];exact h.1,fun m hm c=> ?_⟩
 obtain⟨h1,h2⟩:=hm.less hc hn
 rw[bD_more hc h1];exact h.2 m h2 c
theorem tr_new {N:List RN}(hc:ClosedN N){x:RN}(hl:∀m,m∈x.l→m<N.length){k:Nat}(h:∀j,j∈x.l→∀m,Und N j m→∀c,(bD N c m).length≤k)(h0:∀c,(bD (N++ [x]) c N.length).length≤k):
  ∀m,Und (N++ [x]) N.length m→∀c,(bD (N++ [x]) c m).length≤k:=fun m hm c=>by
 rcases hm.new hc hl with e | ⟨j,h1,h2,h3⟩
 ·rw[e];exact h0 c
 ·rw[bD_more hc h2];exact h j h1 m h3 c
theorem tr_place (N:List RN)(hc:ClosedN N)(f:Nat→Bool):Tr (N++ [⟨0,[],f⟩]) N.length 1:=by
 refine⟨⟨[[]],Nat.le_refl _,fun y hy=> ?_⟩,tr_new hc (fun m hm=>absurd hm List.not_mem_nil) (fun m hm=>absurd hm List.not_mem_nil) (fun c=> ?_)⟩
 ·unfold pD pdF at hy
  rw[snoc_at]at hy
  exact hy
 ·unfold bD behD
  rw[snoc_at]
  simp only[if_true]
  split<;> simp
section
variable {N:List RN}
theorem rowD_more (hc:ClosedN N){M:List RN}{c:Nat}{l:List Nat}(hl:∀m,m∈l→m<N.length):rowD (bD (N++M) c) (N++M) l=rowD (bD N c) N l:=
 rowD_congr l (fun m hm=>bD_more hc (hl m hm)) (fun m hm=>emB_more hc (hl m hm))
theorem rowQ_more (hc:ClosedN N){M:List RN}{l:List Nat}(hl:∀m,m∈l→m<N.length):rowQ (pD (N++M)) l=rowQ (pD N) l:=rowQ_congr l (fun m hm=>pD_more hc (hl m hm))
theorem tr_star (hc:ClosedN N){n k:Nat}(hn:n<N.length)(h:Tr N n k)(f:Nat→Bool):Tr (N++ [⟨3,[n],f⟩]) N.length k:=by
 have hc':=hc.snoc (x:=⟨3,[n],f⟩) (fun m hm=>by rw[List.mem_singleton.1 hm];exact hn)
 refine⟨?_,tr_new hc (fun m hm=>by rw[List.mem_singleton.1 hm];exact hn) (fun j hj=>by rw[List.mem_singleton.1 hj];exact h.2) (fun c=> ?_)⟩
 ·rw[pD_eq hc' (snoc_at _)]
  simp only[show¬(3:Nat)=0 by decide,show¬(3:Nat)=1 by decide,show¬((3:Nat)=2∨(3:Nat)=4) by decide,if_false,pD_more hc hn]
  exact h.1.map _
 ·rw[bD_eq hc' (snoc_at _)]
  simp only[show¬(3:Nat)=0 by decide,show¬(3:Nat)=1 by decide,show¬((3:Nat)=2∨(3:Nat)=4) by decide,if_false,bD_more hc hn,List.length_map]
  exact h.2 n .refl c
theorem tr_opt (hc:ClosedN N){n k:Nat}(hn:n<N.length)(h:Tr N n k)(f:Nat→Bool):Tr (N++ [⟨4,[n],f⟩]) N.length k:=by
 have hc':=hc.snoc (x:=⟨4,[n],f⟩) (fun m hm=>by rw[List.mem_singleton.1 hm];exact hn)
 refine⟨?_,tr_new hc (fun m hm=>by rw[List.mem_singleton.1 hm];exact hn) (fun j hj=>by rw[List.mem_singleton.1 hj];exact h.2) (fun c=> ?_)⟩
 ·rw[pD_eq hc' (snoc_at _)]
  simp only[show¬(4:Nat)=0 by decide,show¬(4:Nat)=1 by decide,if_false,List.flatMap_cons,List.flatMap_nil,List.append_nil,pD_more hc hn]
  exact h.1
 ·rw[bD_eq hc' (snoc_at _)]
  simp only[show¬(4:Nat)=0 by decide,show¬(4:Nat)=1 by decide,if_false,List.flatMap_cons,List.flatMap_nil,List.append_nil,bD_more hc hn]
  exact h.2 n .refl c
theorem TrL.row {l:List Nat}{k:Nat}(h:TrL N l k):Few (rowQ (pD N) l) k∧∀c,(rowD (bD N c) N l).length≤k:=by
 induction h with
 | nil=>exact⟨Few.nil,fun _=>Nat.le_refl _⟩
 | cons h1 _ ih=>
  refine⟨(h1.1.map _).app ih.1,fun c=> ?_⟩
  unfold rowD
  rw[List.length_append,List.length_map]
  have a:=h1.2 _ .refl c
  have b:=ih.2 c
  split
  ·omega
  ·simp only[List.length_nil];omega
theorem TrL.or {l:List Nat}{k:Nat}(h:TrL N l k):Few (l.flatMap (pD N)) k∧∀c,(l.flatMap (bD N c)).length≤k:=by
 induction h with
 | nil=>exact⟨Few.nil,fun _=>Nat.le_refl _⟩
 | cons h1 _ ih=>
  refine⟨by rw[List.flatMap_cons];exact h1.1.app ih.1,fun c=> ?_⟩
  rw[List.flatMap_cons,List.length_append]
  have a:=h1.2 _ .refl c
  have b:=ih.2 c
  omega
theorem TrL.all {l:List Nat}{k:Nat}(h:TrL N l k):∀j,j∈l→∀m,Und N j m→∀c,(bD N c m).length≤k:=by
 induction h with
 | nil=>intro j hj;exact absurd hj List.not_mem_nil
 | cons h1 _ ih=>
  intro j hj m hm c
  rcases List.mem_cons.1 hj with e | e
  ·rw[e]at hm
   have:=h1.2 m hm c
   omega
  ·have:=ih j e m hm c
   omega
theorem tr_row (hc:ClosedN N){l:List Nat}{k:Nat}(hl:∀m,m∈l→m<N.length)(h:TrL N l k)(f:Nat→Bool):Tr (N++ [⟨1,l,f⟩]) N.length k:=by
 have hc':=hc.snoc (x:=⟨1,l,f⟩) hl
 refine⟨?_,tr_new hc hl h.all (fun c=> ?_)⟩
 ·rw[pD_eq hc' (snoc_at _)]
  simp only[show¬(1:Nat)=0 by decide,if_false,if_true,rowQ_more hc hl]
  exact h.row.1
 ·rw[bD_eq hc' (snoc_at _)]
  simp only[show¬(1:Nat)=0 by decide,if_false,if_true,rowD_more hc hl]
  exact h.row.2 c
theorem tr_or (hc:ClosedN N){l:List Nat}{k:Nat}(hl:∀m,m∈l→m<N.length)(h:TrL N l k)(f:Nat→Bool):Tr (N++ [⟨2,l,f⟩]) N.length k:=by
 have hc':=hc.snoc (x:=⟨2,l,f⟩) hl
 refine⟨?_,tr_new hc hl h.all (fun c=> ?_)⟩
 ·rw[pD_eq hc' (snoc_at _)]
  simp only[show¬(2:Nat)=0 by decide,show¬(2:Nat)=1 by decide,if_false,fm_congr l (fun m hm=>pD_more hc (hl m hm))]
  exact h.or.1
 ·rw[bD_eq hc' (snoc_at _)]
  simp only[show¬(2:Nat)=0 by decide,show¬(2:Nat)=1 by decide,if_false,fm_congr l (fun m hm=>bD_more hc (hl m hm))]
  exact h.or.2 c
theorem tr_plus (hc:ClosedN N){n s k:Nat}(hn:n<N.length)(h:Tr N n k)(hs:s<N.length)(h':Tr N s k)(hx:∃f,N[s]? =some ⟨3,[n],f⟩)(he:emB N n=false)(f:Nat→Bool):Tr (N++ [⟨1,[n,s],f⟩]) N.length k:=by
 have hl:∀m,m∈ [n,s]→m<N.length:=fun m hm=>by
  rcases List.mem_cons.1 hm with e | e
  ·rw[e];exact hn
  ·rw[List.mem_singleton.1 e];exact hs
 have hc':=hc.snoc (x:=⟨1,[n,s],f⟩) hl
 obtain⟨g,hx⟩:=hx
 refine⟨?_,tr_new hc hl (fun j hj=>by
  rcases List.mem_cons.1 hj with e | e
  ·rw[e];exact h.2
  ·rw[List.mem_singleton.1 e];exact h'.2) (fun c=> ?_)⟩
 ·rw[pD_eq hc' (snoc_at _)]
  simp only[show¬(1:Nat)=0 by decide,if_false,if_true,rowQ_more hc hl]
  refine(h.1.map (·++ [s])).sub (fun y hy=> ?_)
  have hps:=pD_eq hc hx
  simp only[show¬(3:Nat)=0 by decide,show¬(3:Nat)=1 by decide,show¬((3:Nat)=2∨(3:Nat)=4) by decide,if_false]at hps
  simp only[rowQ,hps,List.append_nil,List.map_id']at hy
  rcases List.mem_append.1 hy with e | e
  ·exact e
  ·exact e
 ·rw[bD_eq hc' (snoc_at _)]
  simp only[show¬(1:Nat)=0 by decide,if_false,if_true,rowD_more hc hl]
  unfold rowD
  rw[he]
  simp only[Bool.false_eq_true,if_false,List.append_nil,List.length_map]
  exact h.2 n .refl c
theorem rowD_sub {B P:Nat→List (List Nat)}:∀(l:List Nat),(∀m,m∈l→∀y,y∈B m→y∈P m)→∀y,y∈rowD B N l→y∈rowQ P l
 | [],_,y,hy=>hy
 | m::l,h,y,hy=>by
  unfold rowD at hy
  unfold rowQ
  rcases List.mem_append.1 hy with e | e
  ·obtain⟨z,hz,rfl⟩:=List.mem_map.1 e
   exact List.mem_append.2 (.inl (List.mem_map.2 ⟨z,h m List.mem_cons_self z hz,rfl⟩))
  ·split at e
   ·exact List.mem_append.2 (.inr (rowD_sub l (fun x hx=>h x (List.mem_cons_of_mem _ hx)) y e))
   ·exact absurd e List.not_mem_nil
theorem bD_sub (hc:ClosedN N){c:Nat}:∀n,n<N.length→∀y,y∈bD N c n→y∈pD N n:=by
 intro n
 induction n using Nat.strongRecOn with
 | ind n ih=>
  intro hn y hy
  obtain⟨x,hx⟩:∃x,N[n]? =some x:=⟨N[n],List.getElem?_eq_getElem hn⟩
  rw[bD_eq hc hx]at hy
  rw[pD_eq hc hx]
  have hm:∀m,m∈x.l→∀y,y∈bD N c m→y∈pD N m:=fun m hm=>by
   have:=hc n x hx m hm
   exact ih m this (by omega)
  split at hy
  ·rename_i e
   rw[if_pos e]
   split at hy
   ·exact hy
   ·exact absurd hy List.not_mem_nil
  ·rename_i e
   rw[if_neg e]
   split at hy
   ·rename_i e
    rw[if_pos e]
    exact rowD_sub x.l hm y hy
   ·rename_i e
    rw[if_neg e]
    split at hy
    ·rename_i e
     rw[if_pos e]
     obtain⟨m,h1,h2⟩:=List.mem_flatMap.1 hy
     exact List.mem_flatMap.2 ⟨m,h1,hm m h1 y h2⟩
    ·rename_i e
     rw[if_neg e]
     cases hl:x.l with
     | nil=>rw[hl]at hy;exact hy
     | cons m l=>
      rw[hl]at hy
      simp only at hy ⊢
      obtain⟨z,hz,rfl⟩:=List.mem_map.1 hy
      exact List.mem_map.2 ⟨z,hm m (by rw[hl];exact List.mem_cons_self) z hz,rfl⟩
theorem rowD_app {B:Nat→List (List Nat)}:∀(a b:List Nat) (z:List Nat),z∈rowD B N (a++b)→(∃z1,z1∈rowD B N a∧z=z1++b)∨z∈rowD B N b
 | [],b,z,h=> .inr h
 | m::a,b,z,h=>by
  rw[List.cons_append]at h
  unfold rowD at h
  rcases List.mem_append.1 h with e | e
  ·obtain⟨y,hy,rfl⟩:=List.mem_map.1 e
   refine .inl ⟨y++a, ?_,by rw[List.append_assoc]⟩
   unfold rowD
   exact List.mem_append.2 (.inl (List.mem_map.2 ⟨y,hy,rfl⟩))
  ·split at e
   ·rename_i he
    rcases rowD_app a b z e with⟨z1,h1,h2⟩ | h1
    ·refine .inl ⟨z1, ?_,h2⟩
     unfold rowD
     rw[if_pos he]
     exact List.mem_append.2 (.inr h1)
    ·exact .inr h1
   ·exact absurd e List.not_mem_nil
theorem rowQ_step {B P:Nat→List (List Nat)}:∀(l:List Nat),(∀m,m∈l→∀y,y∈B m→y∈P m)→(∀m,m∈l→∀y,y∈P m→∀z,z∈rowD B N y→z∈P m)→∀y,y∈rowQ P l→∀z,z∈rowD B N y→z∈rowQ P l
 | [],_,_,y,hy,z,_=>absurd hy List.not_mem_nil
 | m::l,h,k,y,hy,z,hz=>by
  unfold rowQ at hy
  unfold rowQ
  rcases List.mem_append.1 hy with e | e
  ·obtain⟨y1,hy1,rfl⟩:=List.mem_map.1 e
   rcases rowD_app y1 l z hz with⟨z1,h1,h2⟩ | h1
   ·rw[h2]
    exact List.mem_append.2 (.inl (List.mem_map.2 ⟨z1,k m List.mem_cons_self y1 hy1 z1 h1,rfl⟩))
   ·exact List.mem_append.2 (.inr (rowD_sub l (fun x hx=>h x (List.mem_cons_of_mem _ hx)) z h1))
  ·exact List.mem_append.2 (.inr (rowQ_step l (fun x hx=>h x (List.mem_cons_of_mem _ hx)) (fun x hx=>k x (List.mem_cons_of_mem _ hx)) y e z hz))
theorem pD_step (hc:ClosedN N){c:Nat}:∀n,n<N.length→∀y,y∈pD N n→∀z,z∈rowD (bD N c) N y→z∈pD N n:=by
 intro n
 induction n using Nat.strongRecOn with
 | ind n ih=>
  intro hn y hy z hz
  obtain⟨x,hx⟩:∃x,N[n]? =some x:=⟨N[n],List.getElem?_eq_getElem hn⟩
  have hm:∀m,m∈x.l→∀y,y∈bD N c m→y∈pD N m:=fun m hm=>by
   have:=hc n x hx m hm
   exact bD_sub hc m (by omega)
  have hk:∀m,m∈x.l→∀y,y∈pD N m→∀z,z∈rowD (bD N c) N y→z∈pD N m:=fun m hm=>by
   have:=hc n x hx m hm
   exact ih m this (by omega)
  have hs:=bD_sub hc (c:=c) n hn
  rw[pD_eq hc hx]at hy hs ⊢
  split at hy
  ·rename_i e
   rw[List.mem_singleton.1 hy]at hz
   exact absurd hz List.not_mem_nil
  ·rename_i e
   rw[if_neg e]at hs ⊢
   split at hy
   ·rename_i e
    rw[if_pos e]
    exact rowQ_step x.l hm hk y hy z hz
   ·rename_i e
    rw[if_neg e]at hs ⊢
    split at hy
    ·rename_i e
     rw[if_pos e]
     obtain⟨m,h1,h2⟩:=List.mem_flatMap.1 hy
     exact List.mem_flatMap.2 ⟨m,h1,hk m h1 y h2 z hz⟩
    ·rename_i e
     rw[if_neg e]at hs ⊢
     cases hl:x.l with
     | nil=>rw[hl]at hy;exact absurd hy List.not_mem_nil
     | cons m l=>
      rw[hl]at hy hs
      simp only at hy hs ⊢
      obtain⟨y1,hy1,rfl⟩:=List.mem_map.1 hy
      rcases rowD_app y1 [n] z hz with⟨z1,h1,h2⟩ | h1
      ·rw[h2]
       exact List.mem_map.2 ⟨z1,hk m (by rw[hl];exact List.mem_cons_self) y1 hy1 z1 h1,rfl⟩
      ·have h1:z∈bD N c n:=by
        unfold rowD at h1
        rcases List.mem_append.1 h1 with e | e
        ·simpa using e
        ·unfold rowD at e
         split at e<;> exact absurd e List.not_mem_nil
       exact hs z h1
theorem rowQ_und {P:Nat→List (List Nat)}{n:Nat}:∀(l:List Nat),(∀m,m∈l→Und N n m)→(∀m,m∈l→∀y,y∈P m→∀k,k∈y→Und N m k)→∀y,y∈rowQ P l→∀k,k∈y→Und N n k
 | [],_,_,y,hy=>absurd hy List.not_mem_nil
 | m::l,h,h2,y,hy=>fun k hk=>by
  unfold rowQ at hy
  rcases List.mem_append.1 hy with e | e
  ·obtain⟨y1,hy1,rfl⟩:=List.mem_map.1 e
   rcases List.mem_append.1 hk with e | e
   ·exact(h m List.mem_cons_self).trans (h2 m List.mem_cons_self y1 hy1 k e)
   ·exact h k (List.mem_cons_of_mem _ e)
  ·exact rowQ_und l (fun x hx=>h x (List.mem_cons_of_mem _ hx)) (fun x hx=>h2 x (List.mem_cons_of_mem _ hx)) y e k hk
theorem pD_und (hc:ClosedN N):∀n,n<N.length→∀y,y∈pD N n→∀k,k∈y→Und N n k:=by
 intro n
 induction n using Nat.strongRecOn with
 | ind n ih=>
  intro hn y hy k hk
  obtain⟨x,hx⟩:∃x,N[n]? =some x:=⟨N[n],List.getElem?_eq_getElem hn⟩
  have hu:∀m,m∈x.l→Und N n m:=fun m hm=> .step .refl hx hm
  have hm:∀m,m∈x.l→∀y,y∈pD N m→∀k,k∈y→Und N m k:=fun m hm=>by
   have:=hc n x hx m hm
   exact ih m this (by omega)
  rw[pD_eq hc hx]at hy
  split at hy
  ·rw[List.mem_singleton.1 hy]at hk
   exact absurd hk List.not_mem_nil
  ·split at hy
   ·exact rowQ_und x.l hu hm y hy k hk
   ·split at hy
    ·obtain⟨m,h1,h2⟩:=List.mem_flatMap.1 hy
     exact(hu m h1).trans (hm m h1 y h2 k hk)
    ·cases hl:x.l with
     | nil=>rw[hl]at hy;exact absurd hy List.not_mem_nil
     | cons m l=>
      rw[hl]at hy
      simp only at hy
      obtain⟨y1,hy1,rfl⟩:=List.mem_map.1 hy
      have hmm:m∈x.l:=by rw[hl];exact List.mem_cons_self
      rcases List.mem_append.1 hk with e | e
      ·exact(hu m hmm).trans (hm m hmm y1 hy1 k e)
      ·rw[List.mem_singleton.1 e];exact .refl
theorem rowQ_bnd {P:Nat→List (List Nat)}{n B:Nat}:∀(l:List Nat),(∀m,m∈l→m<n)→(∀m,m∈l→∀y,y∈P m→(∀k,k∈y→k≤m)∧y.length≤B)→∀y,y∈rowQ P l→(∀k,k∈y→k<n)∧y.length≤B+l.length
 | [],_,_,y,hy=>absurd hy List.not_mem_nil
 | m::l,h,k,y,hy=>by
  unfold rowQ at hy
  rcases List.mem_append.1 hy with e | e
  ·obtain⟨y1,hy1,rfl⟩:=List.mem_map.1 e
   obtain⟨a,b⟩:=k m List.mem_cons_self y1 hy1
   refine⟨fun q hq=> ?_,by simp only[List.length_append,List.length_cons];omega⟩
   rcases List.mem_append.1 hq with e | e
   ·have:=a q e
    have:=h m List.mem_cons_self
    omega
   ·exact h q (List.mem_cons_of_mem _ e)
  ·obtain⟨a,b⟩:=rowQ_bnd l (fun x hx=>h x (List.mem_cons_of_mem _ hx)) (fun x hx=>k x (List.mem_cons_of_mem _ hx)) y e
   exact⟨a,by rw[List.length_cons];omega⟩
theorem pD_bnd (hc:ClosedN N)(hs:ShapeN N):∀n,n<N.length→∀y,y∈pD N n→(∀k,k∈y→k≤n)∧y.length≤201*(n+1):=by
 intro n
 induction n using Nat.strongRecOn with
 | ind n ih=>
  intro hn y hy
  obtain⟨x,hx⟩:∃x,N[n]? =some x:=⟨N[n],List.getElem?_eq_getElem hn⟩
  have hk:∀m,m∈x.l→∀y,y∈pD N m→(∀k,k∈y→k≤m)∧y.length≤201*n:=fun m hm y hy=>by
   have:=hc n x hx m hm
   obtain⟨a,b⟩:=ih m this (by omega) y hy
   exact⟨a,by omega⟩
  have hm:=hc n x hx
  have hl2:=(hs n x hx).2.2
  rw[pD_eq hc hx]at hy
  split at hy
  ·rw[List.mem_singleton.1 hy]
   exact⟨fun k hk=>absurd hk List.not_mem_nil,by simp⟩
  ·split at hy
   ·obtain⟨a,b⟩:=rowQ_bnd x.l hm hk y hy
    exact⟨fun k hk=>Nat.le_of_lt (a k hk),by omega⟩
   ·split at hy
    ·obtain⟨m,h1,h2⟩:=List.mem_flatMap.1 hy
     obtain⟨a,b⟩:=hk m h1 y h2
     have:=hm m h1
     exact⟨fun k hk=>by have:=a k hk;omega,by omega⟩
    ·cases hl:x.l with
     | nil=>rw[hl]at hy;exact absurd hy List.not_mem_nil
     | cons m l=>
      rw[hl]at hy
      simp only at hy
      obtain⟨y1,hy1,rfl⟩:=List.mem_map.1 hy
      have hmm:m∈x.l:=by rw[hl];exact List.mem_cons_self
      obtain⟨a,b⟩:=hk m hmm y1 hy1
      have:=hm m hmm
      refine⟨fun q hq=> ?_,by rw[List.length_append,List.length_singleton];omega⟩
      rcases List.mem_append.1 hq with e | e
      ·have:=a q e;omega
      ·rw[List.mem_singleton.1 e];exact Nat.le_refl _
end
end Go.Stn

namespace Go.Stn
def SemW (N:List RN)(n:Nat)(r:Rx):Prop:=n<N.length∧∀w,WN N n w↔W r w
theorem SemW.more {N:List RN}(hc:ClosedN N){n:Nat}{r:Rx}(h:SemW N n r)(M:List RN):SemW (N++M) n r:=
 ⟨by rw[List.length_append];have:=h.1;omega,fun w=>(WN_more hc h.1 w).trans (h.2 w)⟩
theorem semW_place {N:List RN}(hc:ClosedN N)(f:Nat→Bool):SemW (N++ [⟨0,[],f⟩]) N.length (.pl f):=by
 have hc':=hc.snoc (x:=⟨0,[],f⟩) (fun m hm=>absurd hm List.not_mem_nil)
 refine⟨by simp,fun w=> ?_⟩
 rw[WN_iff hc' (snoc_at _)]
 constructor
 ·rintro(⟨_,h⟩ | ⟨h,_⟩ | ⟨h,_⟩ | ⟨h,_⟩ | ⟨h,_⟩)
  ·exact h
  ·cases h
  ·cases h
  ·cases h
  ·cases h
 ·intro h;exact .inl ⟨rfl,h⟩
theorem semW_star {N:List RN}(hc:ClosedN N){n:Nat}{r:Rx}(h:SemW N n r)(f:Nat→Bool):SemW (N++ [⟨3,[n],f⟩]) N.length (.star r):=by
 have hc':=hc.snoc (x:=⟨3,[n],f⟩) (fun m hm=>by rw[List.mem_singleton.1 hm];exact h.1)
 have hm:=h.more hc [⟨3,[n],f⟩]
 refine⟨by simp,fun w=> ?_⟩
 rw[WN_iff hc' (snoc_at _)]
 constructor
 ·rintro(⟨h,_⟩ | ⟨h,_⟩ | ⟨h,_⟩ | ⟨_,h⟩ | ⟨h,_⟩)
  ·cases h
  ·cases h
  ·cases h
  ·rcases h with h | ⟨m,hm',h⟩
   ·exact .inl h
   ·rw[List.mem_singleton.1 hm']at h
    exact .inr (h.congr (fun u hu=>(hm.2 u).1 hu))
  ·cases h
 ·intro h
  refine .inr (.inr (.inr (.inl ⟨rfl, ?_⟩)))
  rcases h with h | h
  ·exact .inl h
  ·exact .inr ⟨n,List.mem_singleton.2 rfl,h.congr (fun u hu=>(hm.2 u).2 hu)⟩
theorem semW_opt {N:List RN}(hc:ClosedN N){n:Nat}{r:Rx}(h:SemW N n r)(f:Nat→Bool):SemW (N++ [⟨4,[n],f⟩]) N.length (.opt r):=by
 have hc':=hc.snoc (x:=⟨4,[n],f⟩) (fun m hm=>by rw[List.mem_singleton.1 hm];exact h.1)
 have hm:=h.more hc [⟨4,[n],f⟩]
 refine⟨by simp,fun w=> ?_⟩
 rw[WN_iff hc' (snoc_at _)]
 constructor
 ·rintro(⟨h,_⟩ | ⟨h,_⟩ | ⟨h,_⟩ | ⟨h,_⟩ | ⟨_,h⟩)
  ·cases h
  ·cases h
  ·cases h
  ·cases h
  ·rcases h with h | ⟨m,hm',h⟩
   ·exact .inl h
   ·rw[List.mem_singleton.1 hm']at h
    exact .inr ((hm.2 w).1 h)
 ·intro h
  refine .inr (.inr (.inr (.inr ⟨rfl, ?_⟩)))
  rcases h with h | h
  ·exact .inl h
  ·exact .inr ⟨n,List.mem_singleton.2 rfl,(hm.2 w).2 h⟩
def catL:Rx→List Rx→Rx
 | r,[]=>r
 | r,r2::l=>catL (.cat r r2) l
def altL:Rx→List Rx→Rx
 | r,[]=>r
 | r,r2::l=>altL (.alt r r2) l
inductive SemWL (N:List RN):List Nat→List Rx→Prop
 | nil:SemWL N [] []
 | cons {n:Nat} {r:Rx} {l:List Nat} {rs:List Rx}:SemW N n r→SemWL N l rs→SemWL N (n::l) (r::rs)
theorem SemWL.more {N:List RN}(hc:ClosedN N){l:List Nat}{rs:List Rx}(h:SemWL N l rs)(M:List RN):SemWL (N++M) l rs:=by
 induction h with
 | nil=>exact .nil
 | cons h1 _ ih=>exact .cons (h1.more hc M) ih
theorem SemWL.lt {N:List RN}{l:List Nat}{rs:List Rx}(h:SemWL N l rs):∀m,m∈l→m<N.length:=by
 induction h with
 | nil=>intro m hm;exact absurd hm List.not_mem_nil
 | cons h1 _ ih=>
  intro m hm
  rcases List.mem_cons.1 hm with e | e
  ·rw[e];exact h1.1
  ·exact ih m e
theorem W_catL:∀(rs:List Rx) (r:Rx) (w:List Nat),W (catL r rs) w↔∃u v,w=u++v∧W r u∧(rs.foldr (fun(x:Rx) (P:List Nat→Prop)=>fun z=>∃a b,z=a++b∧W x a∧P b) (fun z=>z= [])) v
 | [],r,w=>by
  constructor
  ·intro h;exact⟨w,[],by simp,h,rfl⟩
  ·rintro⟨u,v,e,h1,h2⟩
   have h2:v= []:=h2
   subst h2
   rw[e,List.append_nil];exact h1
 | r2::l,r,w=>by
  show W (catL (.cat r r2) l) w↔_
  rw[W_catL l]
  constructor
  ·rintro⟨u,v,e,⟨a,b,e2,h1,h2⟩,h3⟩
   exact⟨a,b++v,by rw[e,e2,List.append_assoc],h1,b,v,rfl,h2,h3⟩
  ·rintro⟨u,v,e,h1,b,c,e2,h2,h3⟩
   exact⟨u++b,c,by rw[e,e2,List.append_assoc],⟨u,b,rfl,h1,h2⟩,h3⟩
theorem SemWL.cat {N:List RN}{l:List Nat}{rs:List Rx}(h:SemWL N l rs):∀v,CatW (WN N) l v↔(rs.foldr (fun(x:Rx) (P:List Nat→Prop)=>fun z=>∃a b,z=a++b∧W x a∧P b) (fun z=>z= [])) v:=by
 induction h with
 | nil=>intro v;exact Iff.rfl
 | cons h1 _ ih=>
  intro v
  constructor
  ·rintro⟨a,b,e,x,y⟩;exact⟨a,b,e,(h1.2 a).1 x,(ih b).1 y⟩
  ·rintro⟨a,b,e,x,y⟩;exact⟨a,b,e,(h1.2 a).2 x,(ih b).2 y⟩
theorem semW_row {N:List RN}(hc:ClosedN N){l:List Nat}{r:Rx}{rs:List Rx}(h:SemWL N l (r::rs))(f:Nat→Bool):SemW (N++ [⟨1,l,f⟩]) N.length (catL r rs):=by
 have hc':=hc.snoc (x:=⟨1,l,f⟩) h.lt
 have hm:=h.more hc [⟨1,l,f⟩]
 refine⟨by simp,fun w=> ?_⟩
 rw[WN_iff hc' (snoc_at _),W_catL]
 have e:=hm.cat w
 constructor
 ·rintro(⟨h,_⟩ | ⟨_,h⟩ | ⟨h,_⟩ | ⟨h,_⟩ | ⟨h,_⟩)
  ·cases h
  ·exact e.1 h
  ·cases h
  ·cases h
  ·cases h
 ·intro h;exact .inr (.inl ⟨rfl,e.2 h⟩)
theorem W_altL:∀(rs:List Rx) (r:Rx) (w:List Nat),W (altL r rs) w↔W r w∨∃x,x∈rs∧W x w
 | [],r,w=>by
  constructor
  ·intro h;exact .inl h
  ·rintro(h | ⟨x,hx,_⟩)
   ·exact h
   ·exact absurd hx List.not_mem_nil
 | r2::l,r,w=>by
  show W (altL (.alt r r2) l) w↔_
  rw[W_altL l]
  constructor
  ·rintro((h | h) | ⟨x,hx,h⟩)
   ·exact .inl h
   ·exact .inr ⟨r2,List.mem_cons_self,h⟩
   ·exact .inr ⟨x,List.mem_cons_of_mem _ hx,h⟩
  ·rintro(h | ⟨x,hx,h⟩)
   ·exact .inl (.inl h)
   ·rcases List.mem_cons.1 hx with e | e
    ·subst e;exact .inl (.inr h)
    ·exact .inr ⟨x,e,h⟩
theorem SemWL.any {N:List RN}{l:List Nat}{rs:List Rx}(h:SemWL N l rs)(w:List Nat):(∃m,m∈l∧WN N m w)↔∃x,x∈rs∧W x w:=by
 induction h with
 | nil=>exact⟨fun⟨m,hm,_⟩=>absurd hm List.not_mem_nil,fun⟨m,hm,_⟩=>absurd hm List.not_mem_nil⟩
 | @cons n r l rs h1 _ ih=>
  constructor
  ·rintro⟨m,hm,h⟩
   rcases List.mem_cons.1 hm with e | e
   ·subst e;exact⟨r,List.mem_cons_self,(h1.2 w).1 h⟩
   ·obtain⟨x,hx,h⟩:=ih.1 ⟨m,e,h⟩;exact⟨x,List.mem_cons_of_mem _ hx,h⟩
  ·rintro⟨m,hm,h⟩
   rcases List.mem_cons.1 hm with e | e
   ·subst e;exact⟨n,List.mem_cons_self,(h1.2 w).2 h⟩
   ·obtain⟨x,hx,h⟩:=ih.2 ⟨m,e,h⟩;exact⟨x,List.mem_cons_of_mem _ hx,h⟩
theorem semW_or {N:List RN}(hc:ClosedN N){l:List Nat}{r:Rx}{rs:List Rx}(h:SemWL N l (r::rs))(f:Nat→Bool):SemW (N++ [⟨2,l,f⟩]) N.length (altL r rs):=by
 have hc':=hc.snoc (x:=⟨2,l,f⟩) h.lt
 have hm:=h.more hc [⟨2,l,f⟩]
 refine⟨by simp,fun w=> ?_⟩
 rw[WN_iff hc' (snoc_at _),W_altL]
 have e:=hm.any w
 constructor
 ·rintro(⟨h,_⟩ | ⟨h,_⟩ | ⟨_,h⟩ | ⟨h,_⟩ | ⟨h,_⟩)
  ·cases h
  ·cases h
  ·obtain⟨x,hx,hw⟩:=e.1 h
   rcases List.mem_cons.1 hx with e2 | e2
   ·rw[e2]at hw;exact .inl hw
   ·exact .inr ⟨x,e2,hw⟩
  ·cases h
  ·cases h
 ·rintro(h | ⟨x,hx,h⟩)
  ·exact .inr (.inr (.inl ⟨rfl,e.2 ⟨r,List.mem_cons_self,h⟩⟩))
  ·exact .inr (.inr (.inl ⟨rfl,e.2 ⟨x,List.mem_cons_of_mem _ hx,h⟩⟩))
theorem plus_nul {r:Rx}(h:W r [])(w:List Nat):W (.plus r) w↔W (.star r) w:=
 ⟨fun h1=> .inr h1,fun h1=>by
  rcases h1 with h1 | h1
  ·rw[h1];exact .one h
  ·exact h1⟩
theorem plus_cat (r:Rx)(w:List Nat):W (.plus r) w↔W (.cat r (.star r)) w:=by
 constructor
 ·intro h
  have h:Plus (W r) w:=h
  cases h with
  | one h=>exact⟨w,[],by simp,h,.inl rfl⟩
  | more hu hv=>exact⟨_,_,rfl,hu,.inr hv⟩
 ·rintro⟨u,v,e,h1,h2⟩
  rcases h2 with h2 | h2
  ·rw[e,h2,List.append_nil];exact .one h1
  ·rw[e];exact .more h1 h2
theorem SemW.congr {N:List RN}{n:Nat}{r r':Rx}(h:SemW N n r)(he:∀w,W r w↔W r' w):SemW N n r':=⟨h.1,fun w=>(h.2 w).trans (he w)⟩
def Sem (N:List RN)(n:Nat)(r:Rx):Prop:=n<N.length∧(∀w,WN N n w↔W r w)∧Tr N n r.np
theorem Sem.w {N:List RN}{n:Nat}{r:Rx}(h:Sem N n r):SemW N n r:=⟨h.1,h.2.1⟩
theorem SemW.tr {N:List RN}{n:Nat}{r:Rx}(h:SemW N n r)(ht:Tr N n r.np):Sem N n r:=⟨h.1,h.2,ht⟩
theorem Sem.more {N:List RN}(hc:ClosedN N){n:Nat}{r:Rx}(h:Sem N n r)(M:List RN):Sem (N++M) n r:=(h.w.more hc M).tr (h.2.2.more hc M h.1)
theorem sem_place {N:List RN}(hc:ClosedN N)(f:Nat→Bool):Sem (N++ [⟨0,[],f⟩]) N.length (.pl f):=(semW_place hc f).tr (tr_place N hc f)
theorem sem_star {N:List RN}(hc:ClosedN N){n:Nat}{r:Rx}(h:Sem N n r)(f:Nat→Bool):Sem (N++ [⟨3,[n],f⟩]) N.length (.star r):=(semW_star hc h.w f).tr (tr_star hc h.1 h.2.2 f)
theorem sem_opt {N:List RN}(hc:ClosedN N){n:Nat}{r:Rx}(h:Sem N n r)(f:Nat→Bool):Sem (N++ [⟨4,[n],f⟩]) N.length (.opt r):=(semW_opt hc h.w f).tr (tr_opt hc h.1 h.2.2 f)
inductive SemL (N:List RN):List Nat→List Rx→Prop
 | nil:SemL N [] []
 | cons {n:Nat} {r:Rx} {l:List Nat} {rs:List Rx}:Sem N n r→SemL N l rs→SemL N (n::l) (r::rs)
theorem SemL.w {N:List RN}{l:List Nat}{rs:List Rx}(h:SemL N l rs):SemWL N l rs:=by
 induction h with
 | nil=>exact .nil
 | cons h1 _ ih=>exact .cons h1.w ih
theorem SemL.more {N:List RN}(hc:ClosedN N){l:List Nat}{rs:List Rx}(h:SemL N l rs)(M:List RN):SemL (N++M) l rs:=by
 induction h with
 | nil=>exact .nil
 | cons h1 _ ih=>exact .cons (h1.more hc M) ih
theorem SemL.snoc {N:List RN}{l:List Nat}{rs:List Rx}(h:SemL N l rs){n:Nat}{r:Rx}(hn:Sem N n r):SemL N (l++ [n]) (rs++ [r]):=by
 induction h with
 | nil=>exact .cons hn .nil
 | cons h1 _ ih=>exact .cons h1 ih
theorem SemL.lt {N:List RN}{l:List Nat}{rs:List Rx}(h:SemL N l rs):∀m,m∈l→m<N.length:=h.w.lt
def npZ:List Rx→Nat
 | []=>0
 | r::l=>r.np+npZ l
theorem SemL.tr {N:List RN}{l:List Nat}{rs:List Rx}(h:SemL N l rs):TrL N l (npZ rs):=by
 induction h with
 | nil=>exact .nil
 | cons h1 _ ih=>exact .cons h1.2.2 ih
theorem npZ_catL:∀(ps:List Rx) (p:Rx),(catL p ps).np=p.np+npZ ps
 | [],p=>by simp[npZ,catL]
 | x::ps,p=>by show(catL (.cat p x) ps).np=_;rw[npZ_catL ps];show p.np+x.np+npZ ps=p.np+(x.np+npZ ps);omega
theorem npZ_altL:∀(ps:List Rx) (p:Rx),(altL p ps).np=p.np+npZ ps
 | [],p=>by simp[npZ,altL]
 | x::ps,p=>by show(altL (.alt p x) ps).np=_;rw[npZ_altL ps];show p.np+x.np+npZ ps=p.np+(x.np+npZ ps);omega
theorem sem_row {N:List RN}(hc:ClosedN N){l:List Nat}{r:Rx}{rs:List Rx}(h:SemL N l (r::rs))(f:Nat→Bool):Sem (N++ [⟨1,l,f⟩]) N.length (catL r rs):=(semW_row hc h.w f).tr (by rw[npZ_catL];exact tr_row hc h.lt h.tr f)
theorem sem_or {N:List RN}(hc:ClosedN N){l:List Nat}{r:Rx}{rs:List Rx}(h:SemL N l (r::rs))(f:Nat→Bool):Sem (N++ [⟨2,l,f⟩]) N.length (altL r rs):=(semW_or hc h.w f).tr (by rw[npZ_altL];exact tr_or hc h.lt h.tr f)
theorem Sem.congr {N:List RN}{n:Nat}{r r':Rx}(h:Sem N n r)(he:∀w,W r w↔W r' w)(hn:r.np=r'.np):Sem N n r':=⟨h.1,fun w=>(h.2.1 w).trans (he w),by rw[←hn];exact h.2.2⟩
theorem sem_plus {N:List RN}(hc:ClosedN N){n s:Nat}{r:Rx}(h:Sem N n r)(hs:Sem N s (.star r))(hx:∃f,N[s]? =some ⟨3,[n],f⟩)(he:emB N n=false)(f:Nat→Bool):Sem (N++ [⟨1,[n,s],f⟩]) N.length (.plus r):=
 ((semW_row (rs:= [.star r]) hc (.cons h.w (.cons hs.w .nil)) f).congr (fun u=>(plus_cat r u).symm)).tr (tr_plus hc h.1 h.2.2 hs.1 hs.2.2 hx he f)
end Go.Stn

