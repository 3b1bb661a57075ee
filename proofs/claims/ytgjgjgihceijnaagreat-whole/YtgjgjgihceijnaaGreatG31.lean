import Derived.Test.YtgjgjgihceijnaaGreatG23
import Derived.Test.YtgjgjgihceijnaaGreatG30
import Derived.Test.YtgjgjgihceijnaaGreatG27
open List renaming mem_singleton->aL,getElem?_append_left->aR,mem_cons_self->aT,not_mem_nil->bC,mem_flatMap->bD,mem_cons_of_mem->bK,getElem?_append_right->bM,getElem?_eq_some_iff->bN,all_eq_true->bO,any_eq_true->bS,mem_map->bT,mem_append->cL,length_singleton->cN,length_append->cO,append_assoc->cP,take_add_one->cR,append_nil->cT
open Classical renaming byContradiction->aO
open Bool renaming eq_iff_iff->cF
open Nat renaming sub_self->eL,le_refl->eM
namespace Go.Stn
structure RN where
 k:Nat
 l:List Nat
 f:Nat->Bool
def kS (L:Nat->List Nat->Prop):List Nat->List Nat->Prop
 | [],w=>w= []
 | m::l,w=>∃u v,w=u++v/\L m u/\kS L l v
theorem kS.congr {L L':Nat->List Nat->Prop}:∀(l:List Nat) (w:List Nat),(∀m,m∈l->∀u,L m u↔L' m u)->(kS L l w↔kS L' l w)
 | [],w,_=>Iff.rfl
 | m::l,w,h=>by
  have ih:=fun v=>kS.congr (L:=L) (L':=L') l v (fun x hx=>h x (bK _ hx))
  constructor
  ·rintro⟨u,v,e,h1,h2⟩;exact⟨u,v,e,(h m aT u).1 h1,(ih v).1 h2⟩
  ·rintro⟨u,v,e,h1,h2⟩;exact⟨u,v,e,(h m aT u).2 h1,(ih v).2 h2⟩
theorem kS.app {L:Nat->List Nat->Prop}:∀(l l':List Nat) (w:List Nat),kS L (l++l') w↔∃u v,w=u++v/\kS L l u/\kS L l' v
 | [],l',w=>by
  constructor
  ·intro h;exact⟨[],w,rfl,rfl,h⟩
  ·rintro⟨u,v,e,h1,h2⟩;have h1:u= []:=h1;subst h1;rw[e];exact h2
 | m::l,l',w=>by
  constructor
  ·rintro⟨u,v,e,h1,h2⟩;obtain⟨u2,v2,e2,h3,h4⟩:=(kS.app l l' v).1 h2;exact⟨u++u2,v2,by rw[e,e2,cP],⟨u,u2,rfl,h1,h3⟩,h4⟩
  ·rintro⟨u,v,e,⟨u1,u2,e1,h1,h2⟩,h3⟩;exact⟨u1,u2++v,by rw[e,e1,cP],h1,(kS.app l l' (u2++v)).2 ⟨u2,v,rfl,h2,h3⟩⟩
theorem nS.congr {L L':List Nat->Prop}(h:∀u,L u->L' u){w:List Nat}(hp:nS L w):nS L' w:=by
 induction hp with
 | one hw=>exact .one (h _ hw)
 | more hu _ ih=>exact .more (h _ hu) ih
def WdF (N:List RN):Nat->Nat->List Nat->Prop
 | 0,_,_=>False
 | f+1,n,w=>∃x,N[n]? =some x/\
  ((x.k=0/\∃b,w= [b]/\b<256/\x.f b=true)\/(x.k=1/\kS (WdF N f) x.l w)\/(x.k=2/\∃m,m∈x.l/\WdF N f m w)\/
   (x.k=3/\(w= []\/∃m,m∈x.l/\nS (WdF N f m) w))\/(x.k=4/\(w= []\/∃m,m∈x.l/\WdF N f m w)))
def aN (N:List RN):Prop:=∀(n:Nat) (x:RN),N[n]? =some x->∀m,m∈x.l->m<n
theorem wS {N:List RN}(hc:aN N):∀(n f f':Nat),n<f->n<f'->∀w,WdF N f n w->WdF N f' n w:=by
 intro n
 induction n using Nat.strongRecOn with
 | ind n ih=>
  intro f f' hf hf' w h;obtain⟨f,rfl⟩:∃g,f=g+1:=⟨f - 1,by omega⟩
  obtain⟨f',rfl⟩:∃g,f'=g+1:=⟨f' - 1,by omega⟩
  obtain⟨x,hx,h⟩:=h;have go:∀m,m∈x.l->∀u,WdF N f m u↔WdF N f' m u:=fun m hm u=>by
   have:=hc n x hx m hm;exact⟨ih m this f f' (by omega) (by omega) u,ih m this f' f (by omega) (by omega) u⟩
  refine⟨x,hx, ?_⟩;rcases h with h | ⟨h1,h2⟩ | ⟨h1,m,hm,h2⟩ | ⟨h1,h2⟩ | ⟨h1,h2⟩
  ·exact .inl h
  ·exact .inr (.inl ⟨h1,(kS.congr x.l w go).1 h2⟩)
  ·exact .inr (.inr (.inl ⟨h1,m,hm,(go m hm w).1 h2⟩))
  ·refine .inr (.inr (.inr (.inl ⟨h1, ?_⟩)));rcases h2 with h2 | ⟨m,hm,h2⟩
   ·exact .inl h2
   ·exact .inr ⟨m,hm,h2.congr (fun u hu=>(go m hm u).1 hu)⟩
  ·refine .inr (.inr (.inr (.inr ⟨h1, ?_⟩)));rcases h2 with h2 | ⟨m,hm,h2⟩
   ·exact .inl h2
   ·exact .inr ⟨m,hm,(go m hm w).1 h2⟩
theorem Sa {N M:List RN}(hc:aN N):∀(f n:Nat),n<N.length->∀w,WdF (N++M) f n w↔WdF N f n w:=by
 intro f
 induction f with
 | zero=>intro n _ w;exact Iff.rfl
 | succ f ih=>
  intro n hn w;have hx:(N++M)[n]? =N[n]? :=aR hn;unfold WdF;rw[hx];constructor
  ·rintro⟨x,hx,h⟩;have go:∀m,m∈x.l->∀u,WdF (N++M) f m u↔WdF N f m u:=fun m hm u=>ih m (by have:=hc n x hx m hm;omega) u
   refine⟨x,hx, ?_⟩;rcases h with h | ⟨h1,h2⟩ | ⟨h1,m,hm,h2⟩ | ⟨h1,h2⟩ | ⟨h1,h2⟩
   ·exact .inl h
   ·exact .inr (.inl ⟨h1,(kS.congr x.l w go).1 h2⟩)
   ·exact .inr (.inr (.inl ⟨h1,m,hm,(go m hm w).1 h2⟩))
   ·exact .inr (.inr (.inr (.inl ⟨h1,h2.imp id (fun⟨m,hm,h2⟩=>⟨m,hm,h2.congr (fun u hu=>(go m hm u).1 hu)⟩)⟩)))
   ·exact .inr (.inr (.inr (.inr ⟨h1,h2.imp id (fun⟨m,hm,h2⟩=>⟨m,hm,(go m hm w).1 h2⟩)⟩)))
  ·rintro⟨x,hx,h⟩;have go:∀m,m∈x.l->∀u,WdF (N++M) f m u↔WdF N f m u:=fun m hm u=>ih m (by have:=hc n x hx m hm;omega) u
   refine⟨x,hx, ?_⟩;rcases h with h | ⟨h1,h2⟩ | ⟨h1,m,hm,h2⟩ | ⟨h1,h2⟩ | ⟨h1,h2⟩
   ·exact .inl h
   ·exact .inr (.inl ⟨h1,(kS.congr x.l w go).2 h2⟩)
   ·exact .inr (.inr (.inl ⟨h1,m,hm,(go m hm w).2 h2⟩))
   ·exact .inr (.inr (.inr (.inl ⟨h1,h2.imp id (fun⟨m,hm,h2⟩=>⟨m,hm,h2.congr (fun u hu=>(go m hm u).2 hu)⟩)⟩)))
   ·exact .inr (.inr (.inr (.inr ⟨h1,h2.imp id (fun⟨m,hm,h2⟩=>⟨m,hm,(go m hm w).2 h2⟩)⟩)))
def WN (N:List RN)(n:Nat)(w:List Nat):Prop:=WdF N (n+1) n w
theorem wH {N:List RN}(hc:aN N){n:Nat}{x:RN}(hx:N[n]? =some x)(w:List Nat):WN N n w↔
  ((x.k=0/\∃b,w= [b]/\b<256/\x.f b=true)\/(x.k=1/\kS (WN N) x.l w)\/(x.k=2/\∃m,m∈x.l/\WN N m w)\/
   (x.k=3/\(w= []\/∃m,m∈x.l/\nS (WN N m) w))\/(x.k=4/\(w= []\/∃m,m∈x.l/\WN N m w))):=by
 have go:∀m,m∈x.l->∀u,WdF N n m u↔WN N m u:=fun m hm u=>by
  have:=hc n x hx m hm;exact⟨wS hc m n (m+1) this (by omega) u,wS hc m (m+1) n (by omega) this u⟩
 show WdF N (n+1) n w↔_;constructor
 ·rintro⟨x',hx',h⟩;rw[hx]at hx';injection hx' with hx';subst hx';rcases h with h | ⟨h1,h2⟩ | ⟨h1,m,hm,h2⟩ | ⟨h1,h2⟩ | ⟨h1,h2⟩
  ·exact .inl h
  ·exact .inr (.inl ⟨h1,(kS.congr x.l w go).1 h2⟩)
  ·exact .inr (.inr (.inl ⟨h1,m,hm,(go m hm w).1 h2⟩))
  ·exact .inr (.inr (.inr (.inl ⟨h1,h2.imp id (fun⟨m,hm,h2⟩=>⟨m,hm,h2.congr (fun u hu=>(go m hm u).1 hu)⟩)⟩)))
  ·exact .inr (.inr (.inr (.inr ⟨h1,h2.imp id (fun⟨m,hm,h2⟩=>⟨m,hm,(go m hm w).1 h2⟩)⟩)))
 ·intro h;refine⟨x,hx, ?_⟩;rcases h with h | ⟨h1,h2⟩ | ⟨h1,m,hm,h2⟩ | ⟨h1,h2⟩ | ⟨h1,h2⟩
  ·exact .inl h
  ·exact .inr (.inl ⟨h1,(kS.congr x.l w go).2 h2⟩)
  ·exact .inr (.inr (.inl ⟨h1,m,hm,(go m hm w).2 h2⟩))
  ·exact .inr (.inr (.inr (.inl ⟨h1,h2.imp id (fun⟨m,hm,h2⟩=>⟨m,hm,h2.congr (fun u hu=>(go m hm u).2 hu)⟩)⟩)))
  ·exact .inr (.inr (.inr (.inr ⟨h1,h2.imp id (fun⟨m,hm,h2⟩=>⟨m,hm,(go m hm w).2 h2⟩)⟩)))
theorem Uq {N M:List RN}(hc:aN N){n:Nat}(hn:n<N.length)(w:List Nat):WN (N++M) n w↔WN N n w:=Sa hc (n+1) n hn w
theorem aN.snoc {N:List RN}(hc:aN N){x:RN}(hx:∀m,m∈x.l->m<N.length):aN (N++ [x]):=fun n y hy m hm=>by
 by_cases h:n<N.length
 ·rw[aR h]at hy;exact hc n y hy m hm
 ·have hl:=(bN.1 hy).1;rw[cO,cN]at hl;have e:n=N.length:=by omega
  subst e;rw[bM (eM _),eL]at hy;have e:x=y:=by simpa using hy
  subst e;exact hx m hm
theorem fS {N:List RN}(x:RN):(N++ [x])[N.length]? =some x:=by rw[bM (eM _),eL];rfl
end Go.Stn
namespace Go.Stn
def kP (N:List RN):Prop:=∀(n:Nat) (x:RN),N[n]? =some x->x.k<=4/\(x.k=3->∃m,x.l= [m])/\x.l.length<=200
theorem kP.snoc {N:List RN}(h:kP N){x:RN}(hx:x.k<=4/\(x.k=3->∃m,x.l= [m])/\x.l.length<=200):kP (N++ [x]):=fun n y hy=>by
 by_cases e:n<N.length
 ·rw[aR e]at hy;exact h n y hy
 ·have hl:=(bN.1 hy).1;rw[cO,cN]at hl;have e:n=N.length:=by omega
  subst e;rw[fS]at hy;injection hy with hy;rw[←hy];exact hx
def emF (N:List RN):Nat->Nat->Bool
 | 0,_=>false
 | f+1,n=>match N[n]? with
  | none=>false
  | some x=>if x.k=0 then false else if x.k=3\/x.k=4 then true else if x.k=1 then x.l.all (emF N f)else x.l.any (emF N f)
theorem yC {L:Nat->List Nat->Prop}:∀(l:List Nat),kS L l []↔∀m,m∈l->L m []
 | []=>⟨fun _ m hm=>absurd hm bC,fun _=>rfl⟩
 | m::l=>by
  constructor
  ·rintro⟨u,v,e,h1,h2⟩ k hk;have e':=List.append_eq_nil_iff.1 e.symm;rw[e'.1]at h1;rw[e'.2]at h2;rcases List.mem_cons.1 hk with q | q
   ·rw[q];exact h1
   ·exact(yC l).1 h2 k q
  ·intro h;exact⟨[],[],rfl,h m aT,(yC l).2 (fun k hk=>h k (bK _ hk))⟩
theorem X9 {N:List RN}(hs:kP N):∀(f n:Nat),emF N f n=true↔WdF N f n []:=by
 intro f
 induction f with
 | zero=>intro n;exact⟨fun h=>(by cases h),fun h=>h.elim⟩
 | succ f ih=>
  intro n;unfold emF WdF
  cases hx:N[n]? with
  | none=>exact⟨fun h=>(by cases h),fun⟨x,h,_⟩=>by cases h⟩
  | some x=>
   have hk:=(hs n x hx).1;have ha:x.l.all (emF N f)=true↔kS (WdF N f) x.l []:=by
    rw[yC,bO];exact⟨fun h m hm=>(ih m).1 (h m hm),fun h m hm=>(ih m).2 (h m hm)⟩
   have hy:x.l.any (emF N f)=true↔∃m,m∈x.l/\WdF N f m []:=by
    rw[bS];exact⟨fun⟨m,hm,h⟩=>⟨m,hm,(ih m).1 h⟩,fun⟨m,hm,h⟩=>⟨m,hm,(ih m).2 h⟩⟩
   show(if x.k=0 then false else if x.k=3\/x.k=4 then true else if x.k=1 then x.l.all (emF N f)else x.l.any (emF N f))=true↔_;have h5:x.k=0\/x.k=1\/x.k=2\/x.k=3\/x.k=4:=by omega
   rcases h5 with e | e | e | e | e
   ·rw[if_pos e];refine⟨fun h=>(by cases h), ?_⟩;rintro⟨y,hy',h⟩;injection hy' with hy';subst hy';rcases h with⟨_,b,h,_⟩ | ⟨h,_⟩ | ⟨h,_⟩ | ⟨h,_⟩ | ⟨h,_⟩
    ·cases h
    all_goals omega
   ·rw[if_neg (by omega),if_neg (by omega),if_pos e,ha];refine⟨fun h=>⟨x,rfl,.inr (.inl ⟨e,h⟩)⟩, ?_⟩;rintro⟨y,hy',h⟩;injection hy' with hy';subst hy';rcases h with⟨h,_⟩ | ⟨_,h⟩ | ⟨h,_⟩ | ⟨h,_⟩ | ⟨h,_⟩
    ·omega
    ·exact h
    all_goals omega
   ·rw[if_neg (by omega),if_neg (by omega),if_neg (by omega),hy];refine⟨fun h=>⟨x,rfl,.inr (.inr (.inl ⟨e,h⟩))⟩, ?_⟩;rintro⟨y,hy',h⟩;injection hy' with hy';subst hy';rcases h with⟨h,_⟩ | ⟨h,_⟩ | ⟨_,h⟩ | ⟨h,_⟩ | ⟨h,_⟩
    ·omega
    ·omega
    ·exact h
    all_goals omega
   ·rw[if_neg (by omega),if_pos (by omega)];exact⟨fun _=>⟨x,rfl,.inr (.inr (.inr (.inl ⟨e,.inl rfl⟩)))⟩,fun _=>rfl⟩
   ·rw[if_neg (by omega),if_pos (by omega)];exact⟨fun _=>⟨x,rfl,.inr (.inr (.inr (.inr ⟨e,.inl rfl⟩)))⟩,fun _=>rfl⟩
def emB (N:List RN)(n:Nat):Bool:=emF N (n+1) n
theorem xA {N:List RN}(hs:kP N)(n:Nat):emB N n=true↔WN N n []:=X9 hs (n+1) n
theorem Wd {N:List RN}(hs:kP N)(hc:aN N){n:Nat}{x:RN}(hx:N[n]? =some x):
  emB N n=if x.k=0 then false else if x.k=3\/x.k=4 then true else if x.k=1 then x.l.all (emB N)else x.l.any (emB N):=by
 have go:∀m,m∈x.l->emF N n m=emB N m:=fun m hm=>by
  have hlt:=hc n x hx m hm;rw[cF];unfold emB;rw[X9 hs,X9 hs];exact⟨wS hc m n (m+1) hlt (by omega) [],wS hc m (m+1) n (by omega) hlt []⟩
 have ga:x.l.all (emF N n)=x.l.all (emB N):=by
  rw[cF,bO,bO];exact⟨fun h m hm=>by rw[←go m hm];exact h m hm,fun h m hm=>by rw[go m hm];exact h m hm⟩
 have gy:x.l.any (emF N n)=x.l.any (emB N):=by
  rw[cF,bS,bS];exact⟨fun⟨m,hm,h⟩=>⟨m,hm,by rw[←go m hm];exact h⟩,fun⟨m,hm,h⟩=>⟨m,hm,by rw[go m hm];exact h⟩⟩
 show emF N (n+1) n=_;unfold emF;rw[hx];show(if x.k=0 then false else if x.k=3\/x.k=4 then true else if x.k=1 then x.l.all (emF N n)else x.l.any (emF N n))=_;rw[ga,gy]
theorem Ox (p:Nat->Bool)(l:List Nat){i m:Nat}(h:l[i]? =some m):(l.take (i+1)).all p=((l.take i).all p && p m):=by
 rw[cR,h,List.all_append];simp
theorem Pw (p:Nat->Bool)(l:List Nat){i m:Nat}(h:l[i]? =some m):(l.take (i+1)).any p=((l.take i).any p || p m):=by
 rw[cR,h,List.any_append];simp
end Go.Stn
namespace Go.Stn
theorem oF {t:ByteArray}{b:Int}{a:Nat}(hb:0<=b)(h:isB t b a=true):a<t.size:=by
 unfold isB at h;rw[decide_eq_true_eq]at h;apply aO;intro hn;rw[dA (by omega)]at h;omega
theorem Sv {t:ByteArray}{a:Nat}(h:gY (aJ t a)=true):a<t.size:=by
 apply aO;intro hn;rw[dA (by omega)]at h
 cases h
theorem Ko {t sp:ByteArray}{a:Nat}(h:dY (aJ t a) sp=true):a<t.size:=by
 apply aO;intro hn;rw[dA (by omega)]at h
 cases h
def nD {α:Type}(t:ByteArray)(ex:Nat->Option (α×Nat)):Prop:=∀a r a',ex a=some (r,a')->a<a'/\a'<=t.size
theorem Vv (t:ByteArray):nD t (wD t):=fun a r a' h=>by
 unfold wD at h;split at h
 ·rename_i e;have:=oF (by omega) e;injection h with h;injection h with _ h;omega
 ·split at h
  ·rename_i e;have:=oF (by omega) e;injection h with h;injection h with _ h;omega
  ·split at h
   ·rename_i e;have:=Sv e.1;injection h with h;injection h with _ h;omega
   ·cases h
theorem tZ (t sp:ByteArray):nD t (cM t sp):=fun a r a' h=>by
 unfold cM at h;split at h
 ·have:=Vv t _ _ _ h;omega
 ·split at h
  ·rename_i e;have:=Ko e;injection h with h;injection h with _ h;omega
  ·cases h
theorem uK (t:ByteArray)(f:Nat->Bool):nD t (cW t f):=fun a r a' h=>by
 unfold cW at h
 cases e:cM t dN a with
 | none=>rw[e]at h;cases h
 | some y=>
  obtain⟨x,a1⟩:=y;have h1:=tZ _ _ _ _ _ e;rw[e]at h;simp only at h;split at h
  ·injection h with h;injection h with _ h;omega
  ·cases e2:cM t dN (a1+1)with
   | none=>rw[e2]at h;cases h
   | some y2=>
    obtain⟨x2,a2⟩:=y2;have h2:=tZ _ _ _ _ _ e2;rw[e2]at h;simp only at h;split at h
    ·cases h
    ·injection h with h;injection h with _ h;omega
theorem Hp (t:ByteArray):∀(n:Nat) (f:Nat->Bool),nD t (eV t n f):=by
 intro n
 induction n with
 | zero=>intro f a r a' h;cases h
 | succ n ih=>
  intro f a r a' h;rw[eV]at h;split at h
  ·rename_i e;have:=oF (by omega) e;injection h with h;injection h with _ h;omega
  ·cases e:cW t f a with
   | none=>rw[e]at h;cases h
   | some y=>
    obtain⟨x,a1⟩:=y;have h1:=uK _ _ _ _ _ e;rw[e]at h;have h2:=ih _ _ _ _ h;omega
theorem Jo (t:ByteArray):nD t (jX t):=fun a r a' h=>by
 unfold jX at h
 cases e:cW t aP a with
 | none=>rw[e]at h;cases h
 | some y=>
  obtain⟨x,a1⟩:=y;have h1:=uK _ _ _ _ _ e;rw[e]at h;have h2:=Hp _ _ _ _ _ _ h;omega
theorem Wk (t:ByteArray):nD t (wB t):=fun a r a' h=>by
 unfold wB at h;split at h
 ·cases e:jX t (a+1)with
  | none=>rw[e]at h;cases h
  | some y=>
   obtain⟨x,a1⟩:=y;have h1:=Jo _ _ _ _ e;rw[e]at h;injection h with h;injection h with _ h;omega
 ·exact Jo _ _ _ _ h
theorem J5 (t:ByteArray):nD t (cD t):=fun a r a' h=>by
 unfold cD at h;split at h
 ·have:=Wk _ _ _ _ h;omega
 ·split at h
  ·rename_i e;have:=oF (by omega) e;injection h with h;injection h with _ h;omega
  ·cases e:cM t dM a with
   | none=>rw[e]at h;cases h
   | some y=>
    obtain⟨x,a1⟩:=y;have h1:=tZ _ _ _ _ _ e;rw[e]at h;injection h with h;injection h with _ h;omega
theorem Ad {t:ByteArray}{ex:Nat->Option (Rx×Nat)}(hx:nD t ex):nD t (fI t ex):=fun a r a' h=>by
 unfold fI at h;split at h
 ·cases e:ex (a+1)with
  | none=>rw[e]at h;cases h
  | some y=>
   obtain⟨r2,a2⟩:=y;have h1:=hx _ _ _ e;rw[e]at h;simp only at h;split at h
   ·rename_i e;have:=oF (by omega) e;injection h with h;injection h with _ h;omega
   ·cases h
 ·cases e:cD t a with
  | none=>rw[e]at h;cases h
  | some y=>
   obtain⟨f,a2⟩:=y;have h1:=J5 _ _ _ _ e;rw[e]at h;injection h with h;injection h with _ h;omega
theorem pU {t:ByteArray}{ex:Nat->Option (Rx×Nat)}(hx:nD t ex):nD t (bY t ex):=fun a r a' h=>by
 unfold bY at h
 cases e:fI t ex a with
 | none=>rw[e]at h;cases h
 | some y=>
  obtain⟨r2,a2⟩:=y;have hg:=Ad hx _ _ _ e;rw[e]at h;simp only at h;split at h
  ·injection h with h;injection h with _ h;omega
  ·rename_i hm;have:a2<t.size:=by
    apply aO;intro hn;rw[dA (by omega)]at hm;exact hm rfl
   injection h with h;injection h with _ h;omega
theorem Ik {t:ByteArray}{ex:Nat->Option (Rx×Nat)}(hx:nD t ex):∀(n:Nat) (r:Rx) (a:Nat) (r':Rx) (a':Nat),a<=t.size->fK t ex n r a=some (r',a')->a<=a'/\a'<=t.size:=by
 intro n
 induction n with
 | zero=>intro r a r' a' _ h;cases h
 | succ k ih=>
  intro r a r' a' hr h;rw[fK]at h;split at h
  ·injection h with h;injection h with _ h;omega
  ·cases e:bY t ex a with
   | none=>rw[e]at h;cases h
   | some y=>
    obtain⟨r2,a2⟩:=y;have h1:=pU hx _ _ _ e;rw[e]at h;have:=ih _ _ _ _ h1.2 h;omega
theorem Aa {t:ByteArray}{ex:Nat->Option (Rx×Nat)}(hx:nD t ex):nD t (oV t ex):=fun a r a' h=>by
 unfold oV at h
 cases e:bY t ex a with
 | none=>rw[e]at h;cases h
 | some y=>
  obtain⟨r2,a2⟩:=y;have h1:=pU hx _ _ _ e;rw[e]at h;have:=Ik hx _ _ _ _ _ h1.2 h;omega
theorem Cg {t:ByteArray}{ex:Nat->Option (Rx×Nat)}(hx:nD t ex):∀(n:Nat) (r:Rx) (a:Nat) (r':Rx) (a':Nat),a<=t.size->dT t ex n r a=some (r',a')->a<=a'/\a'<=t.size:=by
 intro n
 induction n with
 | zero=>intro r a r' a' _ h;cases h
 | succ k ih=>
  intro r a r' a' hr h;rw[dT]at h;split at h
  ·injection h with h;injection h with _ h;omega
  ·cases e:oV t ex (a+1)with
   | none=>rw[e]at h;cases h
   | some y=>
    obtain⟨r2,a2⟩:=y;have h1:=Aa hx _ _ _ e;rw[e]at h;have:=ih _ _ _ _ h1.2 h;omega
theorem qF (t:ByteArray):∀f,nD t (dS t f):=by
 intro f
 induction f with
 | zero=>intro a r a' h;cases h
 | succ k ih=>
  intro a r a' h;rw[dS]at h
  cases e:oV t (dS t k) a with
  | none=>rw[e]at h;cases h
  | some y=>
   obtain⟨r2,a2⟩:=y;have h1:=Aa ih _ _ _ e;rw[e]at h;have:=Cg ih _ _ _ _ _ h1.2 h;omega
def oC (t:ByteArray)(a:Nat):Bool:=decide (t.size<=a\/bt t a=41)
def kL (t:ByteArray)(ex:Nat->Option (Rx×Nat))(a:Nat):Option (Rx×Nat):=
 match ex a with
 | none=>none
 | some (r,a1)=>if oC t a1=true then some (r,a1)else none
theorem Iq {t:ByteArray}{ex:Nat->Option (Rx×Nat)}(hx:nD t ex):nD t (kL t ex):=fun a r a' h=>by
 unfold kL at h
 cases e:ex a with
 | none=>rw[e]at h;cases h
 | some y=>
  obtain⟨r2,a2⟩:=y;have h1:=hx _ _ _ e;rw[e]at h;simp only at h;split at h
  ·injection h with h;injection h with _ h;omega
  ·cases h
theorem Lr (t:ByteArray)(ex:Nat->Option (Rx×Nat))(a:Nat):fI t (kL t ex) a=fI t ex a:=by
 unfold fI;split
 ·unfold kL
  cases e:ex (a+1)with
  | none=>rfl
  | some y=>
   obtain⟨r,a1⟩:=y;simp only;by_cases h:oC t a1=true
   ·rw[if_pos h]
   ·rw[if_neg h];have:¬isB t 41 a1=true:=fun h2=>h (by
     have hlt:=oF (by omega) h2;unfold isB at h2;rw[decide_eq_true_eq,eY hlt]at h2;unfold oC;rw[decide_eq_true_eq];omega)
    rw[if_neg this]
 ·rfl
end Go.Stn
namespace Go.Stn
def hO (B:Nat->List (List Nat))(N:List RN):List Nat->List (List Nat)
 | []=>[]
 | m::l=>(B m).map (·++l)++(if emB N m=true then hO B N l else [])
def oQ (N:List RN)(c:Nat):Nat->Nat->List (List Nat)
 | 0,_=>[]
 | f+1,n=>match N[n]? with
  | none=>[]
  | some x=>if x.k=0 then(if x.f c=true then [[]]else [])
   else if x.k=1 then hO (oQ N c f) N x.l
   else if x.k=2\/x.k=4 then x.l.flatMap (oQ N c f)
   else match x.l with
    | []=>[]
    | m::_=>(oQ N c f m).map (·++ [n])
theorem Hy {L:List Nat->Prop}{c:Nat}{z w:List Nat}(hz:z=c::w)(h:nS L z):∃u v,w=u++v/\L (c::u)/\(v= []\/nS L v):=by
 induction h with
 | one h=>subst hz;exact⟨w,[],by simp,h,.inl rfl⟩
 | @more u v hu hv ih=>
  cases u with
  | nil=>exact ih hz
  | cons a u=>
   injection hz with h1 h2;subst h1;exact⟨u,v,h2.symm,hu,.inr hv⟩
theorem Oy {L:List Nat->Prop}{c:Nat}{u v:List Nat}(h:L (c::u))(hv:v= []\/nS L v):nS L (c::(u++v)):=by
 rcases hv with e | e
 ·rw[e,cT];exact .one h
 ·exact .more (u:=c::u) h e
theorem xI {L:Nat->List Nat->Prop}{n:Nat}{w:List Nat}:kS L [n] w↔L n w:=by
 constructor
 ·rintro⟨u,v,e,h1,h2⟩;have h2:v= []:=h2;rw[e,h2,cT];exact h1
 ·intro h;exact⟨w,[],by simp,h,rfl⟩
def Fi (N:List RN)(c:Nat)(B:Nat->List (List Nat))(n:Nat):Prop:=∀w,(∃y,y∈B n/\kS (WN N) y w)↔WN N n (c::w)
theorem Y4 {N:List RN}(hs:kP N){c:Nat}{B:Nat->List (List Nat)}:∀(l:List Nat),(∀m,m∈l->Fi N c B m)->∀w,(∃y,y∈hO B N l/\kS (WN N) y w)↔kS (WN N) l (c::w)
 | [],_,w=>by
  constructor
  ·rintro⟨y,hy,_⟩;exact absurd hy bC
  ·intro h;exact absurd (show c::w= [] from h) (by simp)
 | m::l,hB,w=>by
  have ih:=Y4 hs l (fun k hk=>hB k (bK _ hk)) w;have hm:=hB m aT;constructor
  ·rintro⟨y,hy,hc⟩;rcases cL.1 hy with h | h
   ·obtain⟨y2,hy2,rfl⟩:=bT.1 h;obtain⟨u,v,e,h1,h2⟩:=(kS.app y2 l w).1 hc;exact⟨c::u,v,by rw[e];rfl,(hm u).1 ⟨y2,hy2,h1⟩,h2⟩
   ·by_cases he:emB N m=true
    ·rw[if_pos he]at h;exact⟨[],c::w,rfl,(xA hs m).1 he,ih.1 ⟨y,h,hc⟩⟩
    ·rw[if_neg he]at h;exact absurd h bC
  ·rintro⟨u,v,e,h1,h2⟩
   cases u with
   | nil=>
    have e:c::w=v:=e;obtain⟨y,hy,hc⟩:=ih.2 (by rw[e];exact h2);refine⟨y,cL.2 (.inr ?_),hc⟩;rw[if_pos ((xA hs m).2 h1)];exact hy
   | cons a u=>
    injection e with e1 e2;subst e1;obtain⟨y,hy,hc⟩:=(hm u).2 h1;exact⟨y++l,cL.2 (.inl (bT.2 ⟨y,hy,rfl⟩)),(kS.app y l w).2 ⟨u,v,e2,hc,h2⟩⟩
theorem Ti {N:List RN}(hs:kP N)(hc:aN N){c:Nat}(hb:c<256):∀(f n:Nat),n<f->n<N.length->Fi N c (oQ N c f) n:=by
 intro f
 induction f with
 | zero=>intro n h;omega
 | succ f ih=>
  intro n hn hN w;obtain⟨x,hx⟩:∃x,N[n]? =some x:=⟨N[n],List.getElem?_eq_getElem hN⟩
  have hB:∀m,m∈x.l->Fi N c (oQ N c f) m:=fun m hm=>by
   have:=hc n x hx m hm;exact ih m (by omega) (by omega)
  rw[wH hc hx];have hsh:=hs n x hx;have e0:oQ N c (f+1) n=if x.k=0 then(if x.f c=true then [[]]else [])
   else if x.k=1 then hO (oQ N c f) N x.l
   else if x.k=2\/x.k=4 then x.l.flatMap (oQ N c f)
   else match x.l with
    | []=>[]
    | m::_=>(oQ N c f m).map (·++ [n]):=by
   show(match N[n]? with | none=>_ | some x=>_)=_;rw[hx]
  rw[e0];have h5:x.k=0\/x.k=1\/x.k=2\/x.k=3\/x.k=4:=by omega
  rcases h5 with e | e | e | e | e
  ·rw[if_pos e];constructor
   ·rintro⟨y,hy,h⟩;by_cases hf:x.f c=true
    ·rw[if_pos hf,aL]at hy;subst hy;have h:w= []:=h;exact .inl ⟨e,c,by rw[h],hb,hf⟩
    ·rw[if_neg hf]at hy;exact absurd hy bC
   ·rintro(⟨_,b,h1,h2,h3⟩ | ⟨h,_⟩ | ⟨h,_⟩ | ⟨h,_⟩ | ⟨h,_⟩)
    ·injection h1 with h1 h4;subst h1;exact⟨[],by rw[if_pos h3];exact aL.2 rfl,h4⟩
    all_goals omega
  ·rw[if_neg (by omega),if_pos e,Y4 hs x.l hB w];constructor
   ·intro h;exact .inr (.inl ⟨e,h⟩)
   ·rintro(⟨h,_⟩ | ⟨_,h⟩ | ⟨h,_⟩ | ⟨h,_⟩ | ⟨h,_⟩)
    ·omega
    ·exact h
    all_goals omega
  ·rw[if_neg (by omega),if_neg (by omega),if_pos (.inl e)];constructor
   ·rintro⟨y,hy,h⟩;obtain⟨m,hm,hy⟩:=bD.1 hy;exact .inr (.inr (.inl ⟨e,m,hm,(hB m hm w).1 ⟨y,hy,h⟩⟩))
   ·rintro(⟨h,_⟩ | ⟨h,_⟩ | ⟨_,m,hm,h⟩ | ⟨h,_⟩ | ⟨h,_⟩)
    ·omega
    ·omega
    ·obtain⟨y,hy,hh⟩:=(hB m hm w).2 h;exact⟨y,bD.2 ⟨m,hm,hy⟩,hh⟩
    all_goals omega
  ·obtain⟨m,hl⟩:=hsh.2.1 e;rw[if_neg (by omega),if_neg (by omega),if_neg (by omega),hl];have hm:m∈x.l:=by rw[hl];exact aL.2 rfl
   have hstar:∀v,WN N n v↔(v= []\/nS (WN N m) v):=fun v=>by
    rw[wH hc hx];constructor
    ·rintro(⟨h,_⟩ | ⟨h,_⟩ | ⟨h,_⟩ | ⟨_,h⟩ | ⟨h,_⟩)
     ·omega
     ·omega
     ·omega
     ·rcases h with h | ⟨k,hk,h⟩
      ·exact .inl h
      ·rw[hl,aL]at hk;subst hk;exact .inr h
     ·omega
    ·intro h;refine .inr (.inr (.inr (.inl ⟨e, ?_⟩)));rcases h with h | h
     ·exact .inl h
     ·exact .inr ⟨m,hm,h⟩
   simp only;constructor
   ·rintro⟨y,hy,h⟩;obtain⟨y2,hy2,rfl⟩:=bT.1 hy;obtain⟨u,v,e1,h1,h2⟩:=(kS.app y2 [n] w).1 h;have hu:=(hB m hm u).1 ⟨y2,hy2,h1⟩;have hv:=(hstar v).1 (xI.1 h2);refine .inr (.inr (.inr (.inl ⟨e,.inr ⟨m,aL.2 rfl, ?_⟩⟩)));rw[e1];exact Oy hu hv
   ·rintro(⟨h,_⟩ | ⟨h,_⟩ | ⟨h,_⟩ | ⟨_,h⟩ | ⟨h,_⟩)
    ·omega
    ·omega
    ·omega
    ·rcases h with h | ⟨k,hk,h⟩
     ·exact absurd h (by simp)
     ·rw[aL]at hk;subst hk;obtain⟨u,v,e1,h1,h2⟩:=Hy rfl h;obtain⟨y,hy,hh⟩:=(hB k hm u).2 h1;exact⟨y++ [n],bT.2 ⟨y,hy,rfl⟩,(kS.app y [n] w).2 ⟨u,v,e1,hh,xI.2 ((hstar v).2 h2)⟩⟩
    ·omega
  ·rw[if_neg (by omega),if_neg (by omega),if_pos (.inr e)];constructor
   ·rintro⟨y,hy,h⟩;obtain⟨m,hm,hy⟩:=bD.1 hy;exact .inr (.inr (.inr (.inr ⟨e,.inr ⟨m,hm,(hB m hm w).1 ⟨y,hy,h⟩⟩⟩)))
   ·rintro(⟨h,_⟩ | ⟨h,_⟩ | ⟨h,_⟩ | ⟨h,_⟩ | ⟨_,h⟩)
    ·omega
    ·omega
    ·omega
    ·omega
    ·rcases h with h | ⟨m,hm,h⟩
     ·exact absurd h (by simp)
     ·obtain⟨y,hy,hh⟩:=(hB m hm w).2 h;exact⟨y,bD.2 ⟨m,hm,hy⟩,hh⟩
end Go.Stn
