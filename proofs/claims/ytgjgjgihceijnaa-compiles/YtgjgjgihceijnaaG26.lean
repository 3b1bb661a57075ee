/- Texts put together: RtLang0, RtEm, RtBnd, RsBehP. -/
import Derived.Test.YtgjgjgihceijnaaG18
import Derived.Test.YtgjgjgihceijnaaG25
import Derived.Test.YtgjgjgihceijnaaG22
namespace Go.Stn
structure RN where
 k:Nat
 l:List Nat
 f:Nat→Bool
def CatW (L:Nat→List Nat→Prop):List Nat→List Nat→Prop
 | [],w=>w= []
 | m::l,w=>∃u v,w=u++v∧L m u∧CatW L l v
theorem CatW.congr {L L':Nat→List Nat→Prop}:∀(l:List Nat) (w:List Nat),(∀m,m∈l→∀u,L m u↔L' m u)→(CatW L l w↔CatW L' l w)
 | [],w,_=>Iff.rfl
 | m::l,w,h=>by
  have ih:=fun v=>CatW.congr (L:=L) (L':=L') l v (fun x hx=>h x (List.mem_cons_of_mem _ hx))
  constructor
  ·rintro⟨u,v,e,h1,h2⟩;exact⟨u,v,e,(h m List.mem_cons_self u).1 h1,(ih v).1 h2⟩
  ·rintro⟨u,v,e,h1,h2⟩;exact⟨u,v,e,(h m List.mem_cons_self u).2 h1,(ih v).2 h2⟩
theorem CatW.app {L:Nat→List Nat→Prop}:∀(l l':List Nat) (w:List Nat),CatW L (l++l') w↔∃u v,w=u++v∧CatW L l u∧CatW L l' v
 | [],l',w=>by
  constructor
  ·intro h;exact⟨[],w,rfl,rfl,h⟩
  ·rintro⟨u,v,e,h1,h2⟩
   have h1:u= []:=h1
   subst h1
   rw[e];exact h2
 | m::l,l',w=>by
  constructor
  ·rintro⟨u,v,e,h1,h2⟩
   obtain⟨u2,v2,e2,h3,h4⟩:=(CatW.app l l' v).1 h2
   exact⟨u++u2,v2,by rw[e,e2,List.append_assoc],⟨u,u2,rfl,h1,h3⟩,h4⟩
  ·rintro⟨u,v,e,⟨u1,u2,e1,h1,h2⟩,h3⟩
   exact⟨u1,u2++v,by rw[e,e1,List.append_assoc],h1,(CatW.app l l' (u2++v)).2 ⟨u2,v,rfl,h2,h3⟩⟩
theorem Plus.congr {L L':List Nat→Prop}(h:∀u,L u→L' u){w:List Nat}(hp:Plus L w):Plus L' w:=by
 induction hp with
 | one hw=>exact .one (h _ hw)
 | more hu _ ih=>exact .more (h _ hu) ih
def WdF (N:List RN):Nat→Nat→List Nat→Prop
 | 0,_,_=>False
 | f+1,n,w=>∃x,N[n]? =some x∧
  ((x.k=0∧∃b,w= [b]∧b<256∧x.f b=true)∨(x.k=1∧CatW (WdF N f) x.l w)∨(x.k=2∧∃m,m∈x.l∧WdF N f m w)∨
   (x.k=3∧(w= []∨∃m,m∈x.l∧Plus (WdF N f m) w))∨(x.k=4∧(w= []∨∃m,m∈x.l∧WdF N f m w)))
def ClosedN (N:List RN):Prop:=∀(n:Nat) (x:RN),N[n]? =some x→∀m,m∈x.l→m<n
theorem WdF_fuel {N:List RN}(hc:ClosedN N):∀(n f f':Nat),n<f→n<f'→∀w,WdF N f n w→WdF N f' n w:=by
 intro n
 induction n using Nat.strongRecOn with
 | ind n ih=>
  intro f f' hf hf' w h
  obtain⟨f,rfl⟩:∃g,f=g+1:=⟨f - 1,by omega⟩
  obtain⟨f',rfl⟩:∃g,f'=g+1:=⟨f' - 1,by omega⟩
  obtain⟨x,hx,h⟩:=h
  have go:∀m,m∈x.l→∀u,WdF N f m u↔WdF N f' m u:=fun m hm u=>by
   have:=hc n x hx m hm
   exact⟨ih m this f f' (by omega) (by omega) u,ih m this f' f (by omega) (by omega) u⟩
  refine⟨x,hx, ?_⟩
  rcases h with h | ⟨h1,h2⟩ | ⟨h1,m,hm,h2⟩ | ⟨h1,h2⟩ | ⟨h1,h2⟩
  ·exact .inl h
  ·exact .inr (.inl ⟨h1,(CatW.congr x.l w go).1 h2⟩)
  ·exact .inr (.inr (.inl ⟨h1,m,hm,(go m hm w).1 h2⟩))
  ·refine .inr (.inr (.inr (.inl ⟨h1, ?_⟩)))
   rcases h2 with h2 | ⟨m,hm,h2⟩
   ·exact .inl h2
   ·exact .inr ⟨m,hm,h2.congr (fun u hu=>(go m hm u).1 hu)⟩
  ·refine .inr (.inr (.inr (.inr ⟨h1, ?_⟩)))
   rcases h2 with h2 | ⟨m,hm,h2⟩
   ·exact .inl h2
   ·exact .inr ⟨m,hm,(go m hm w).1 h2⟩
theorem WdF_more {N M:List RN}(hc:ClosedN N):∀(f n:Nat),n<N.length→∀w,WdF (N++M) f n w↔WdF N f n w:=by
 intro f
 induction f with
 | zero=>intro n _ w;exact Iff.rfl
 | succ f ih=>
  intro n hn w
  have hx:(N++M)[n]? =N[n]? :=List.getElem?_append_left hn
  unfold WdF
  rw[hx]
  constructor
  ·rintro⟨x,hx,h⟩
   have go:∀m,m∈x.l→∀u,WdF (N++M) f m u↔WdF N f m u:=fun m hm u=>ih m (by have:=hc n x hx m hm;omega) u
   refine⟨x,hx, ?_⟩
   rcases h with h | ⟨h1,h2⟩ | ⟨h1,m,hm,h2⟩ | ⟨h1,h2⟩ | ⟨h1,h2⟩
   ·exact .inl h
   ·exact .inr (.inl ⟨h1,(CatW.congr x.l w go).1 h2⟩)
   ·exact .inr (.inr (.inl ⟨h1,m,hm,(go m hm w).1 h2⟩))
   ·exact .inr (.inr (.inr (.inl ⟨h1,h2.imp id (fun⟨m,hm,h2⟩=>⟨m,hm,h2.congr (fun u hu=>(go m hm u).1 hu)⟩)⟩)))
   ·exact .inr (.inr (.inr (.inr ⟨h1,h2.imp id (fun⟨m,hm,h2⟩=>⟨m,hm,(go m hm w).1 h2⟩)⟩)))
  ·rintro⟨x,hx,h⟩
   have go:∀m,m∈x.l→∀u,WdF (N++M) f m u↔WdF N f m u:=fun m hm u=>ih m (by have:=hc n x hx m hm;omega) u
   refine⟨x,hx, ?_⟩
   rcases h with h | ⟨h1,h2⟩ | ⟨h1,m,hm,h2⟩ | ⟨h1,h2⟩ | ⟨h1,h2⟩
   ·exact .inl h
   ·exact .inr (.inl ⟨h1,(CatW.congr x.l w go).2 h2⟩)
   ·exact .inr (.inr (.inl ⟨h1,m,hm,(go m hm w).2 h2⟩))
   ·exact .inr (.inr (.inr (.inl ⟨h1,h2.imp id (fun⟨m,hm,h2⟩=>⟨m,hm,h2.congr (fun u hu=>(go m hm u).2 hu)⟩)⟩)))
   ·exact .inr (.inr (.inr (.inr ⟨h1,h2.imp id (fun⟨m,hm,h2⟩=>⟨m,hm,(go m hm w).2 h2⟩)⟩)))
def WN (N:List RN)(n:Nat)(w:List Nat):Prop:=WdF N (n+1) n w
theorem WN_iff {N:List RN}(hc:ClosedN N){n:Nat}{x:RN}(hx:N[n]? =some x)(w:List Nat):WN N n w↔
  ((x.k=0∧∃b,w= [b]∧b<256∧x.f b=true)∨(x.k=1∧CatW (WN N) x.l w)∨(x.k=2∧∃m,m∈x.l∧WN N m w)∨
   (x.k=3∧(w= []∨∃m,m∈x.l∧Plus (WN N m) w))∨(x.k=4∧(w= []∨∃m,m∈x.l∧WN N m w))):=by
 have go:∀m,m∈x.l→∀u,WdF N n m u↔WN N m u:=fun m hm u=>by
  have:=hc n x hx m hm
  exact⟨WdF_fuel hc m n (m+1) this (by omega) u,WdF_fuel hc m (m+1) n (by omega) this u⟩
 show WdF N (n+1) n w↔_
 constructor
 ·rintro⟨x',hx',h⟩
  rw[hx]at hx'
  injection hx' with hx'
  subst hx'
  rcases h with h | ⟨h1,h2⟩ | ⟨h1,m,hm,h2⟩ | ⟨h1,h2⟩ | ⟨h1,h2⟩
  ·exact .inl h
  ·exact .inr (.inl ⟨h1,(CatW.congr x.l w go).1 h2⟩)
  ·exact .inr (.inr (.inl ⟨h1,m,hm,(go m hm w).1 h2⟩))
  ·exact .inr (.inr (.inr (.inl ⟨h1,h2.imp id (fun⟨m,hm,h2⟩=>⟨m,hm,h2.congr (fun u hu=>(go m hm u).1 hu)⟩)⟩)))
  ·exact .inr (.inr (.inr (.inr ⟨h1,h2.imp id (fun⟨m,hm,h2⟩=>⟨m,hm,(go m hm w).1 h2⟩)⟩)))
 ·intro h
  refine⟨x,hx, ?_⟩
  rcases h with h | ⟨h1,h2⟩ | ⟨h1,m,hm,h2⟩ | ⟨h1,h2⟩ | ⟨h1,h2⟩
  ·exact .inl h
  ·exact .inr (.inl ⟨h1,(CatW.congr x.l w go).2 h2⟩)
  ·exact .inr (.inr (.inl ⟨h1,m,hm,(go m hm w).2 h2⟩))
  ·exact .inr (.inr (.inr (.inl ⟨h1,h2.imp id (fun⟨m,hm,h2⟩=>⟨m,hm,h2.congr (fun u hu=>(go m hm u).2 hu)⟩)⟩)))
  ·exact .inr (.inr (.inr (.inr ⟨h1,h2.imp id (fun⟨m,hm,h2⟩=>⟨m,hm,(go m hm w).2 h2⟩)⟩)))
theorem WN_more {N M:List RN}(hc:ClosedN N){n:Nat}(hn:n<N.length)(w:List Nat):WN (N++M) n w↔WN N n w:=WdF_more hc (n+1) n hn w
theorem ClosedN.snoc {N:List RN}(hc:ClosedN N){x:RN}(hx:∀m,m∈x.l→m<N.length):ClosedN (N++ [x]):=fun n y hy m hm=>by
 by_cases h:n<N.length
 ·rw[List.getElem?_append_left h]at hy;exact hc n y hy m hm
 ·have hl:=(List.getElem?_eq_some_iff.1 hy).1
  rw[List.length_append,List.length_singleton]at hl
  have e:n=N.length:=by omega
  subst e
  rw[List.getElem?_append_right (Nat.le_refl _),Nat.sub_self]at hy
  have e:x=y:=by simpa using hy
  subst e
  exact hx m hm
theorem snoc_at {N:List RN}(x:RN):(N++ [x])[N.length]? =some x:=by rw[List.getElem?_append_right (Nat.le_refl _),Nat.sub_self];rfl
end Go.Stn

namespace Go.Stn
def ShapeN (N:List RN):Prop:=∀(n:Nat) (x:RN),N[n]? =some x→x.k≤4∧(x.k=3→∃m,x.l= [m])∧x.l.length≤200
theorem ShapeN.snoc {N:List RN}(h:ShapeN N){x:RN}(hx:x.k≤4∧(x.k=3→∃m,x.l= [m])∧x.l.length≤200):ShapeN (N++ [x]):=fun n y hy=>by
 by_cases e:n<N.length
 ·rw[List.getElem?_append_left e]at hy;exact h n y hy
 ·have hl:=(List.getElem?_eq_some_iff.1 hy).1
  rw[List.length_append,List.length_singleton]at hl
  have e:n=N.length:=by omega
  subst e
  rw[snoc_at]at hy
  injection hy with hy
  rw[←hy];exact hx
def emF (N:List RN):Nat→Nat→Bool
 | 0,_=>false
 | f+1,n=>match N[n]? with
  | none=>false
  | some x=>if x.k=0 then false else if x.k=3∨x.k=4 then true else if x.k=1 then x.l.all (emF N f)else x.l.any (emF N f)
theorem CatW_nil {L:Nat→List Nat→Prop}:∀(l:List Nat),CatW L l []↔∀m,m∈l→L m []
 | []=>⟨fun _ m hm=>absurd hm List.not_mem_nil,fun _=>rfl⟩
 | m::l=>by
  constructor
  ·rintro⟨u,v,e,h1,h2⟩ k hk
   have e':=List.append_eq_nil_iff.1 e.symm
   rw[e'.1]at h1
   rw[e'.2]at h2
   rcases List.mem_cons.1 hk with q | q
   ·rw[q];exact h1
   ·exact(CatW_nil l).1 h2 k q
  ·intro h
   exact⟨[],[],rfl,h m List.mem_cons_self,(CatW_nil l).2 (fun k hk=>h k (List.mem_cons_of_mem _ hk))⟩
theorem emF_iff {N:List RN}(hs:ShapeN N):∀(f n:Nat),emF N f n=true↔WdF N f n []:=by
 intro f
 induction f with
 | zero=>intro n;exact⟨fun h=>(by cases h),fun h=>h.elim⟩
 | succ f ih=>
  intro n
  unfold emF WdF
  cases hx:N[n]? with
  | none=>exact⟨fun h=>(by cases h),fun⟨x,h,_⟩=>by cases h⟩
  | some x=>
   have hk:=(hs n x hx).1
   have ha:x.l.all (emF N f)=true↔CatW (WdF N f) x.l []:=by
    rw[CatW_nil,List.all_eq_true]
    exact⟨fun h m hm=>(ih m).1 (h m hm),fun h m hm=>(ih m).2 (h m hm)⟩
   have hy:x.l.any (emF N f)=true↔∃m,m∈x.l∧WdF N f m []:=by
    rw[List.any_eq_true]
    exact⟨fun⟨m,hm,h⟩=>⟨m,hm,(ih m).1 h⟩,fun⟨m,hm,h⟩=>⟨m,hm,(ih m).2 h⟩⟩
   show(if x.k=0 then false else if x.k=3∨x.k=4 then true else if x.k=1 then x.l.all (emF N f)else x.l.any (emF N f))=true↔_
   have h5:x.k=0∨x.k=1∨x.k=2∨x.k=3∨x.k=4:=by omega
   rcases h5 with e | e | e | e | e
   ·rw[if_pos e]
    refine⟨fun h=>(by cases h), ?_⟩
    rintro⟨y,hy',h⟩
    injection hy' with hy'
    subst hy'
    rcases h with⟨_,b,h,_⟩ | ⟨h,_⟩ | ⟨h,_⟩ | ⟨h,_⟩ | ⟨h,_⟩
    ·cases h
    all_goals omega
   ·rw[if_neg (by omega),if_neg (by omega),if_pos e,ha]
    refine⟨fun h=>⟨x,rfl,.inr (.inl ⟨e,h⟩)⟩, ?_⟩
    rintro⟨y,hy',h⟩
    injection hy' with hy'
    subst hy'
    rcases h with⟨h,_⟩ | ⟨_,h⟩ | ⟨h,_⟩ | ⟨h,_⟩ | ⟨h,_⟩
    ·omega
    ·exact h
    all_goals omega
   ·rw[if_neg (by omega),if_neg (by omega),if_neg (by omega),hy]
    refine⟨fun h=>⟨x,rfl,.inr (.inr (.inl ⟨e,h⟩))⟩, ?_⟩
    rintro⟨y,hy',h⟩
    injection hy' with hy'
    subst hy'
    rcases h with⟨h,_⟩ | ⟨h,_⟩ | ⟨_,h⟩ | ⟨h,_⟩ | ⟨h,_⟩
    ·omega
    ·omega
    ·exact h
    all_goals omega
   ·rw[if_neg (by omega),if_pos (by omega)]
    exact⟨fun _=>⟨x,rfl,.inr (.inr (.inr (.inl ⟨e,.inl rfl⟩)))⟩,fun _=>rfl⟩
   ·rw[if_neg (by omega),if_pos (by omega)]
    exact⟨fun _=>⟨x,rfl,.inr (.inr (.inr (.inr ⟨e,.inl rfl⟩)))⟩,fun _=>rfl⟩
def emB (N:List RN)(n:Nat):Bool:=emF N (n+1) n
theorem emB_iff {N:List RN}(hs:ShapeN N)(n:Nat):emB N n=true↔WN N n []:=emF_iff hs (n+1) n
theorem emB_eq {N:List RN}(hs:ShapeN N)(hc:ClosedN N){n:Nat}{x:RN}(hx:N[n]? =some x):
  emB N n=if x.k=0 then false else if x.k=3∨x.k=4 then true else if x.k=1 then x.l.all (emB N)else x.l.any (emB N):=by
 have go:∀m,m∈x.l→emF N n m=emB N m:=fun m hm=>by
  have hlt:=hc n x hx m hm
  rw[Bool.eq_iff_iff]
  unfold emB
  rw[emF_iff hs,emF_iff hs]
  exact⟨WdF_fuel hc m n (m+1) hlt (by omega) [],WdF_fuel hc m (m+1) n (by omega) hlt []⟩
 have ga:x.l.all (emF N n)=x.l.all (emB N):=by
  rw[Bool.eq_iff_iff,List.all_eq_true,List.all_eq_true]
  exact⟨fun h m hm=>by rw[←go m hm];exact h m hm,fun h m hm=>by rw[go m hm];exact h m hm⟩
 have gy:x.l.any (emF N n)=x.l.any (emB N):=by
  rw[Bool.eq_iff_iff,List.any_eq_true,List.any_eq_true]
  exact⟨fun⟨m,hm,h⟩=>⟨m,hm,by rw[←go m hm];exact h⟩,fun⟨m,hm,h⟩=>⟨m,hm,by rw[go m hm];exact h⟩⟩
 show emF N (n+1) n=_
 unfold emF
 rw[hx]
 show(if x.k=0 then false else if x.k=3∨x.k=4 then true else if x.k=1 then x.l.all (emF N n)else x.l.any (emF N n))=_
 rw[ga,gy]
theorem take_all (p:Nat→Bool)(l:List Nat){i m:Nat}(h:l[i]? =some m):(l.take (i+1)).all p=((l.take i).all p && p m):=by
 rw[List.take_add_one,h,List.all_append];simp
theorem take_any (p:Nat→Bool)(l:List Nat){i m:Nat}(h:l[i]? =some m):(l.take (i+1)).any p=((l.take i).any p || p m):=by
 rw[List.take_add_one,h,List.any_append];simp
end Go.Stn

namespace Go.Stn
theorem isB_in {t:ByteArray}{b:Int}{a:Nat}(hb:0≤b)(h:isB t b a=true):a<t.size:=by
 unfold isB at h
 rw[decide_eq_true_eq]at h
 apply Classical.byContradiction
 intro hn
 rw[peekP_end (by omega)]at h
 omega
theorem visB_in {t:ByteArray}{a:Nat}(h:visB (peekP t a)=true):a<t.size:=by
 apply Classical.byContradiction
 intro hn
 rw[peekP_end (by omega)]at h
 cases h
theorem plainB_in {t sp:ByteArray}{a:Nat}(h:plainB (peekP t a) sp=true):a<t.size:=by
 apply Classical.byContradiction
 intro hn
 rw[peekP_end (by omega)]at h
 cases h
def BndE {α:Type}(t:ByteArray)(ex:Nat→Option (α×Nat)):Prop:=∀a r a',ex a=some (r,a')→a<a'∧a'≤t.size
theorem escX_b (t:ByteArray):BndE t (escX t):=fun a r a' h=>by
 unfold escX at h
 split at h
 ·rename_i e;have:=isB_in (by omega) e;injection h with h;injection h with _ h;omega
 ·split at h
  ·rename_i e;have:=isB_in (by omega) e;injection h with h;injection h with _ h;omega
  ·split at h
   ·rename_i e;have:=visB_in e.1;injection h with h;injection h with _ h;omega
   ·cases h
theorem singleX_b (t sp:ByteArray):BndE t (singleX t sp):=fun a r a' h=>by
 unfold singleX at h
 split at h
 ·have:=escX_b t _ _ _ h;omega
 ·split at h
  ·rename_i e;have:=plainB_in e;injection h with h;injection h with _ h;omega
  ·cases h
theorem memberX_b (t:ByteArray)(f:Nat→Bool):BndE t (memberX t f):=fun a r a' h=>by
 unfold memberX at h
 cases e:singleX t spIn a with
 | none=>rw[e]at h;cases h
 | some y=>
  obtain⟨x,a1⟩:=y
  have h1:=singleX_b _ _ _ _ _ e
  rw[e]at h
  simp only at h
  split at h
  ·injection h with h;injection h with _ h;omega
  ·cases e2:singleX t spIn (a1+1)with
   | none=>rw[e2]at h;cases h
   | some y2=>
    obtain⟨x2,a2⟩:=y2
    have h2:=singleX_b _ _ _ _ _ e2
    rw[e2]at h
    simp only at h
    split at h
    ·cases h
    ·injection h with h;injection h with _ h;omega
theorem setLoopX_b (t:ByteArray):∀(n:Nat) (f:Nat→Bool),BndE t (setLoopX t n f):=by
 intro n
 induction n with
 | zero=>intro f a r a' h;cases h
 | succ n ih=>
  intro f a r a' h
  rw[setLoopX]at h
  split at h
  ·rename_i e;have:=isB_in (by omega) e;injection h with h;injection h with _ h;omega
  ·cases e:memberX t f a with
   | none=>rw[e]at h;cases h
   | some y=>
    obtain⟨x,a1⟩:=y
    have h1:=memberX_b _ _ _ _ _ e
    rw[e]at h
    have h2:=ih _ _ _ _ h
    omega
theorem setRX_b (t:ByteArray):BndE t (setRX t):=fun a r a' h=>by
 unfold setRX at h
 cases e:memberX t zeroF a with
 | none=>rw[e]at h;cases h
 | some y=>
  obtain⟨x,a1⟩:=y
  have h1:=memberX_b _ _ _ _ _ e
  rw[e]at h
  have h2:=setLoopX_b _ _ _ _ _ _ h
  omega
theorem setX_b (t:ByteArray):BndE t (setX t):=fun a r a' h=>by
 unfold setX at h
 split at h
 ·cases e:setRX t (a+1)with
  | none=>rw[e]at h;cases h
  | some y=>
   obtain⟨x,a1⟩:=y
   have h1:=setRX_b _ _ _ _ e
   rw[e]at h
   injection h with h;injection h with _ h;omega
 ·exact setRX_b _ _ _ _ h
theorem allowedX_b (t:ByteArray):BndE t (allowedX t):=fun a r a' h=>by
 unfold allowedX at h
 split at h
 ·have:=setX_b _ _ _ _ h;omega
 ·split at h
  ·rename_i e;have:=isB_in (by omega) e;injection h with h;injection h with _ h;omega
  ·cases e:singleX t spOut a with
   | none=>rw[e]at h;cases h
   | some y=>
    obtain⟨x,a1⟩:=y
    have h1:=singleX_b _ _ _ _ _ e
    rw[e]at h
    injection h with h;injection h with _ h;omega
theorem atomX_b {t:ByteArray}{ex:Nat→Option (Rx×Nat)}(hx:BndE t ex):BndE t (atomX t ex):=fun a r a' h=>by
 unfold atomX at h
 split at h
 ·cases e:ex (a+1)with
  | none=>rw[e]at h;cases h
  | some y=>
   obtain⟨r2,a2⟩:=y
   have h1:=hx _ _ _ e
   rw[e]at h
   simp only at h
   split at h
   ·rename_i e;have:=isB_in (by omega) e;injection h with h;injection h with _ h;omega
   ·cases h
 ·cases e:allowedX t a with
  | none=>rw[e]at h;cases h
  | some y=>
   obtain⟨f,a2⟩:=y
   have h1:=allowedX_b _ _ _ _ e
   rw[e]at h
   injection h with h;injection h with _ h;omega
theorem pieceX_b {t:ByteArray}{ex:Nat→Option (Rx×Nat)}(hx:BndE t ex):BndE t (pieceX t ex):=fun a r a' h=>by
 unfold pieceX at h
 cases e:atomX t ex a with
 | none=>rw[e]at h;cases h
 | some y=>
  obtain⟨r2,a2⟩:=y
  have hg:=atomX_b hx _ _ _ e
  rw[e]at h
  simp only at h
  split at h
  ·injection h with h;injection h with _ h;omega
  ·rename_i hm
   have:a2<t.size:=by
    apply Classical.byContradiction
    intro hn
    rw[peekP_end (by omega)]at hm
    exact hm rfl
   injection h with h;injection h with _ h;omega
theorem altLoopX_b {t:ByteArray}{ex:Nat→Option (Rx×Nat)}(hx:BndE t ex):∀(n:Nat) (r:Rx) (a:Nat) (r':Rx) (a':Nat),a≤t.size→altLoopX t ex n r a=some (r',a')→a≤a'∧a'≤t.size:=by
 intro n
 induction n with
 | zero=>intro r a r' a' _ h;cases h
 | succ k ih=>
  intro r a r' a' hr h
  rw[altLoopX]at h
  split at h
  ·injection h with h;injection h with _ h;omega
  ·cases e:pieceX t ex a with
   | none=>rw[e]at h;cases h
   | some y=>
    obtain⟨r2,a2⟩:=y
    have h1:=pieceX_b hx _ _ _ e
    rw[e]at h
    have:=ih _ _ _ _ h1.2 h
    omega
theorem altX_b {t:ByteArray}{ex:Nat→Option (Rx×Nat)}(hx:BndE t ex):BndE t (altX t ex):=fun a r a' h=>by
 unfold altX at h
 cases e:pieceX t ex a with
 | none=>rw[e]at h;cases h
 | some y=>
  obtain⟨r2,a2⟩:=y
  have h1:=pieceX_b hx _ _ _ e
  rw[e]at h
  have:=altLoopX_b hx _ _ _ _ _ h1.2 h
  omega
theorem exprLoopX_b {t:ByteArray}{ex:Nat→Option (Rx×Nat)}(hx:BndE t ex):∀(n:Nat) (r:Rx) (a:Nat) (r':Rx) (a':Nat),a≤t.size→exprLoopX t ex n r a=some (r',a')→a≤a'∧a'≤t.size:=by
 intro n
 induction n with
 | zero=>intro r a r' a' _ h;cases h
 | succ k ih=>
  intro r a r' a' hr h
  rw[exprLoopX]at h
  split at h
  ·injection h with h;injection h with _ h;omega
  ·cases e:altX t ex (a+1)with
   | none=>rw[e]at h;cases h
   | some y=>
    obtain⟨r2,a2⟩:=y
    have h1:=altX_b hx _ _ _ e
    rw[e]at h
    have:=ih _ _ _ _ h1.2 h
    omega
theorem exprX_b (t:ByteArray):∀f,BndE t (exprX t f):=by
 intro f
 induction f with
 | zero=>intro a r a' h;cases h
 | succ k ih=>
  intro a r a' h
  rw[exprX]at h
  cases e:altX t (exprX t k) a with
  | none=>rw[e]at h;cases h
  | some y=>
   obtain⟨r2,a2⟩:=y
   have h1:=altX_b ih _ _ _ e
   rw[e]at h
   have:=exprLoopX_b ih _ _ _ _ _ h1.2 h
   omega
def stopB (t:ByteArray)(a:Nat):Bool:=decide (t.size≤a∨bt t a=41)
def stopX (t:ByteArray)(ex:Nat→Option (Rx×Nat))(a:Nat):Option (Rx×Nat):=
 match ex a with
 | none=>none
 | some (r,a1)=>if stopB t a1=true then some (r,a1)else none
theorem stopX_b {t:ByteArray}{ex:Nat→Option (Rx×Nat)}(hx:BndE t ex):BndE t (stopX t ex):=fun a r a' h=>by
 unfold stopX at h
 cases e:ex a with
 | none=>rw[e]at h;cases h
 | some y=>
  obtain⟨r2,a2⟩:=y
  have h1:=hx _ _ _ e
  rw[e]at h
  simp only at h
  split at h
  ·injection h with h;injection h with _ h;omega
  ·cases h
theorem atom_stop (t:ByteArray)(ex:Nat→Option (Rx×Nat))(a:Nat):atomX t (stopX t ex) a=atomX t ex a:=by
 unfold atomX
 split
 ·unfold stopX
  cases e:ex (a+1)with
  | none=>rfl
  | some y=>
   obtain⟨r,a1⟩:=y
   simp only
   by_cases h:stopB t a1=true
   ·rw[if_pos h]
   ·rw[if_neg h]
    have:¬isB t 41 a1=true:=fun h2=>h (by
     have hlt:=isB_in (by omega) h2
     unfold isB at h2
     rw[decide_eq_true_eq,peekP_at hlt]at h2
     unfold stopB
     rw[decide_eq_true_eq]
     omega)
    rw[if_neg this]
 ·rfl
end Go.Stn

namespace Go.Stn
def rowD (B:Nat→List (List Nat))(N:List RN):List Nat→List (List Nat)
 | []=>[]
 | m::l=>(B m).map (·++l)++(if emB N m=true then rowD B N l else [])
def behD (N:List RN)(c:Nat):Nat→Nat→List (List Nat)
 | 0,_=>[]
 | f+1,n=>match N[n]? with
  | none=>[]
  | some x=>if x.k=0 then(if x.f c=true then [[]]else [])
   else if x.k=1 then rowD (behD N c f) N x.l
   else if x.k=2∨x.k=4 then x.l.flatMap (behD N c f)
   else match x.l with
    | []=>[]
    | m::_=>(behD N c f m).map (·++ [n])
theorem plus_first {L:List Nat→Prop}{c:Nat}{z w:List Nat}(hz:z=c::w)(h:Plus L z):∃u v,w=u++v∧L (c::u)∧(v= []∨Plus L v):=by
 induction h with
 | one h=>subst hz;exact⟨w,[],by simp,h,.inl rfl⟩
 | @more u v hu hv ih=>
  cases u with
  | nil=>exact ih hz
  | cons a u=>
   injection hz with h1 h2
   subst h1
   exact⟨u,v,h2.symm,hu,.inr hv⟩
theorem plusN_of {L:List Nat→Prop}{c:Nat}{u v:List Nat}(h:L (c::u))(hv:v= []∨Plus L v):Plus L (c::(u++v)):=by
 rcases hv with e | e
 ·rw[e,List.append_nil];exact .one h
 ·exact .more (u:=c::u) h e
theorem CatW_one {L:Nat→List Nat→Prop}{n:Nat}{w:List Nat}:CatW L [n] w↔L n w:=by
 constructor
 ·rintro⟨u,v,e,h1,h2⟩
  have h2:v= []:=h2
  rw[e,h2,List.append_nil];exact h1
 ·intro h;exact⟨w,[],by simp,h,rfl⟩
def LeftOk (N:List RN)(c:Nat)(B:Nat→List (List Nat))(n:Nat):Prop:=∀w,(∃y,y∈B n∧CatW (WN N) y w)↔WN N n (c::w)
theorem rowD_ok {N:List RN}(hs:ShapeN N){c:Nat}{B:Nat→List (List Nat)}:∀(l:List Nat),(∀m,m∈l→LeftOk N c B m)→∀w,(∃y,y∈rowD B N l∧CatW (WN N) y w)↔CatW (WN N) l (c::w)
 | [],_,w=>by
  constructor
  ·rintro⟨y,hy,_⟩;exact absurd hy List.not_mem_nil
  ·intro h;exact absurd (show c::w= [] from h) (by simp)
 | m::l,hB,w=>by
  have ih:=rowD_ok hs l (fun k hk=>hB k (List.mem_cons_of_mem _ hk)) w
  have hm:=hB m List.mem_cons_self
  constructor
  ·rintro⟨y,hy,hc⟩
   rcases List.mem_append.1 hy with h | h
   ·obtain⟨y2,hy2,rfl⟩:=List.mem_map.1 h
    obtain⟨u,v,e,h1,h2⟩:=(CatW.app y2 l w).1 hc
    exact⟨c::u,v,by rw[e];rfl,(hm u).1 ⟨y2,hy2,h1⟩,h2⟩
   ·by_cases he:emB N m=true
    ·rw[if_pos he]at h
     exact⟨[],c::w,rfl,(emB_iff hs m).1 he,ih.1 ⟨y,h,hc⟩⟩
    ·rw[if_neg he]at h;exact absurd h List.not_mem_nil
  ·rintro⟨u,v,e,h1,h2⟩
   cases u with
   | nil=>
    have e:c::w=v:=e
    obtain⟨y,hy,hc⟩:=ih.2 (by rw[e];exact h2)
    refine⟨y,List.mem_append.2 (.inr ?_),hc⟩
    rw[if_pos ((emB_iff hs m).2 h1)]
    exact hy
   | cons a u=>
    injection e with e1 e2
    subst e1
    obtain⟨y,hy,hc⟩:=(hm u).2 h1
    exact⟨y++l,List.mem_append.2 (.inl (List.mem_map.2 ⟨y,hy,rfl⟩)),(CatW.app y l w).2 ⟨u,v,e2,hc,h2⟩⟩
theorem behD_ok {N:List RN}(hs:ShapeN N)(hc:ClosedN N){c:Nat}(hb:c<256):∀(f n:Nat),n<f→n<N.length→LeftOk N c (behD N c f) n:=by
 intro f
 induction f with
 | zero=>intro n h;omega
 | succ f ih=>
  intro n hn hN w
  obtain⟨x,hx⟩:∃x,N[n]? =some x:=⟨N[n],List.getElem?_eq_getElem hN⟩
  have hB:∀m,m∈x.l→LeftOk N c (behD N c f) m:=fun m hm=>by
   have:=hc n x hx m hm
   exact ih m (by omega) (by omega)
  rw[WN_iff hc hx]
  have hsh:=hs n x hx
  have e0:behD N c (f+1) n=if x.k=0 then(if x.f c=true then [[]]else [])
   else if x.k=1 then rowD (behD N c f) N x.l
   else if x.k=2∨x.k=4 then x.l.flatMap (behD N c f)
   else match x.l with
    | []=>[]
    | m::_=>(behD N c f m).map (·++ [n]):=by
   show(match N[n]? with | none=>_ | some x=>_)=_
   rw[hx]
  rw[e0]
  have h5:x.k=0∨x.k=1∨x.k=2∨x.k=3∨x.k=4:=by omega
  rcases h5 with e | e | e | e | e
  ·rw[if_pos e]
   constructor
   ·rintro⟨y,hy,h⟩
    by_cases hf:x.f c=true
    ·rw[if_pos hf,List.mem_singleton]at hy
     subst hy
     have h:w= []:=h
     exact .inl ⟨e,c,by rw[h],hb,hf⟩
    ·rw[if_neg hf]at hy;exact absurd hy List.not_mem_nil
   ·rintro(⟨_,b,h1,h2,h3⟩ | ⟨h,_⟩ | ⟨h,_⟩ | ⟨h,_⟩ | ⟨h,_⟩)
    ·injection h1 with h1 h4
     subst h1
     exact⟨[],by rw[if_pos h3];exact List.mem_singleton.2 rfl,h4⟩
    all_goals omega
  ·rw[if_neg (by omega),if_pos e,rowD_ok hs x.l hB w]
   constructor
   ·intro h;exact .inr (.inl ⟨e,h⟩)
   ·rintro(⟨h,_⟩ | ⟨_,h⟩ | ⟨h,_⟩ | ⟨h,_⟩ | ⟨h,_⟩)
    ·omega
    ·exact h
    all_goals omega
  ·rw[if_neg (by omega),if_neg (by omega),if_pos (.inl e)]
   constructor
   ·rintro⟨y,hy,h⟩
    obtain⟨m,hm,hy⟩:=List.mem_flatMap.1 hy
    exact .inr (.inr (.inl ⟨e,m,hm,(hB m hm w).1 ⟨y,hy,h⟩⟩))
   ·rintro(⟨h,_⟩ | ⟨h,_⟩ | ⟨_,m,hm,h⟩ | ⟨h,_⟩ | ⟨h,_⟩)
    ·omega
    ·omega
    ·obtain⟨y,hy,hh⟩:=(hB m hm w).2 h
     exact⟨y,List.mem_flatMap.2 ⟨m,hm,hy⟩,hh⟩
    all_goals omega
  ·obtain⟨m,hl⟩:=hsh.2.1 e
   rw[if_neg (by omega),if_neg (by omega),if_neg (by omega),hl]
   have hm:m∈x.l:=by rw[hl];exact List.mem_singleton.2 rfl
   have hstar:∀v,WN N n v↔(v= []∨Plus (WN N m) v):=fun v=>by
    rw[WN_iff hc hx]
    constructor
    ·rintro(⟨h,_⟩ | ⟨h,_⟩ | ⟨h,_⟩ | ⟨_,h⟩ | ⟨h,_⟩)
     ·omega
     ·omega
     ·omega
     ·rcases h with h | ⟨k,hk,h⟩
      ·exact .inl h
      ·rw[hl,List.mem_singleton]at hk
       subst hk
       exact .inr h
     ·omega
    ·intro h
     refine .inr (.inr (.inr (.inl ⟨e, ?_⟩)))
     rcases h with h | h
     ·exact .inl h
     ·exact .inr ⟨m,hm,h⟩
   simp only
   constructor
   ·rintro⟨y,hy,h⟩
    obtain⟨y2,hy2,rfl⟩:=List.mem_map.1 hy
    obtain⟨u,v,e1,h1,h2⟩:=(CatW.app y2 [n] w).1 h
    have hu:=(hB m hm u).1 ⟨y2,hy2,h1⟩
    have hv:=(hstar v).1 (CatW_one.1 h2)
    refine .inr (.inr (.inr (.inl ⟨e,.inr ⟨m,List.mem_singleton.2 rfl, ?_⟩⟩)))
    rw[e1]
    exact plusN_of hu hv
   ·rintro(⟨h,_⟩ | ⟨h,_⟩ | ⟨h,_⟩ | ⟨_,h⟩ | ⟨h,_⟩)
    ·omega
    ·omega
    ·omega
    ·rcases h with h | ⟨k,hk,h⟩
     ·exact absurd h (by simp)
     ·rw[List.mem_singleton]at hk
      subst hk
      obtain⟨u,v,e1,h1,h2⟩:=plus_first rfl h
      obtain⟨y,hy,hh⟩:=(hB k hm u).2 h1
      exact⟨y++ [n],List.mem_map.2 ⟨y,hy,rfl⟩,(CatW.app y [n] w).2 ⟨u,v,e1,hh,CatW_one.2 ((hstar v).2 h2)⟩⟩
    ·omega
  ·rw[if_neg (by omega),if_neg (by omega),if_pos (.inr e)]
   constructor
   ·rintro⟨y,hy,h⟩
    obtain⟨m,hm,hy⟩:=List.mem_flatMap.1 hy
    exact .inr (.inr (.inr (.inr ⟨e,.inr ⟨m,hm,(hB m hm w).1 ⟨y,hy,h⟩⟩⟩)))
   ·rintro(⟨h,_⟩ | ⟨h,_⟩ | ⟨h,_⟩ | ⟨h,_⟩ | ⟨_,h⟩)
    ·omega
    ·omega
    ·omega
    ·omega
    ·rcases h with h | ⟨m,hm,h⟩
     ·exact absurd h (by simp)
     ·obtain⟨y,hy,hh⟩:=(hB m hm w).2 h
      exact⟨y,List.mem_flatMap.2 ⟨m,hm,hy⟩,hh⟩
end Go.Stn

