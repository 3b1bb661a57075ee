import Derived.Test.YtgjgjgihceijnaaGreatG41
import Derived.Test.YtgjgjgihceijnaaGreatG44
import Derived.Test.YtgjgjgihceijnaaGreatG29
import Derived.Test.YtgjgjgihceijnaaGreatG26
import Derived.Test.YtgjgjgihceijnaaGreatG01
import Derived.Test.YtgjgjgihceijnaaGreatG02
import Derived.Test.YtgjgjgihceijnaaGreatG03
import Derived.Test.YtgjgjgihceijnaaGreatG05
import Derived.Deep.RegionLaw
import Derived.Deep.QuietTactic
import Derived.BigQuiet
import Derived.Test.YtgjgjgihceijnaaGreatChecked
import Derived.WalkKit
import Derived.WalkSpells
import Derived.WalkLawsBesides
import Derived.Test.YtgjgjgihceijnaaGreatG30
import Derived.Test.YtgjgjgihceijnaaGreatG15
import Derived.BigRegion
open List renaming getElem?_eq_some_iff->aL,getElem?_eq_getElem->aO,getElem?_append_left->bC,mem_cons_of_mem->a9,mem_cons_self->bK,getElem?_append_right->bM,getD_eq_getElem?_getD->bN,length_singleton->cN,length_append->cP
open Int renaming toNat_natCast->aR
open Nat renaming le_refl->aT,lt_trichotomy->cR,sub_self->eM,add_zero->eN,mul_one->eR
open Classical renaming byContradiction->bS
open Go.World renaming cell?_setCell_other->cF,setCell->eL
set_option maxRecDepth 100000
set_option maxHeartbeats 8000000
namespace Go.Proofs.YtgjgjgihceijnaaGreat
open Go.Stn
section
variable {n:Nat} {mk:Nat->Nat} {To:Nat->Nat->Int} {al:Nat->Bool} {d:Nat->Nat->Bool}
def vJ (mk:Nat->Nat)(To:Nat->Nat->Int)(p:Nat):Prop:=∃z,eE 256 z/\cI mk To p z≠0
theorem Fu {p b:Nat}(hb:b<256)(h:To p b≠ -1)(hl:vJ mk To (To p b).toNat):vJ mk To p:=by
 obtain⟨z,h1,h2⟩:=hl;exact⟨b::z,jL hb h1,by rw[bQ h];exact h2⟩
theorem Re {p:Nat}(h:mk p≠0):vJ mk To p:=⟨[],pN _,h⟩
structure C9 (n:Nat)(mk:Nat->Nat)(To:Nat->Nat->Int)(al:Nat->Bool):Prop where
 sd:∀p,p<n->al p=true->vJ mk To p
 mo:∀p,p<n->mk p≠0->al p=true
 st:∀p b,p<n->b<256->To p b≠ -1->al (To p b).toNat=true->al p=true
theorem C9.iff (ha:iX n 256 To)(h:C9 n mk To al){p:Nat}(hp:p<n):al p=true↔vJ mk To p:=by
 refine⟨h.sd p hp, ?_⟩;rintro⟨z,h1,h2⟩;have go:∀(z:List Nat) (p:Nat),p<n->eE 256 z->cI mk To p z≠0->al p=true:=by
  intro z
  induction z with
  | nil=>intro p hp _ h2;exact h.mo p hp h2
  | cons b z ih=>
   intro p hp h1 h2;have hb:=h1 b bK;by_cases e:To p b= -1
   ·rw[fB e]at h2;exact absurd rfl h2
   ·rw[bQ e]at h2;have hr:=ha.rng p b hp hb;exact h.st p b hp hb e (ih _ (by omega) (fun c hc=>h1 c (a9 _ hc)) h2)
 exact go z p hp h1 h2
def fU (al:Nat->Bool)(t:Int):Bool:=decide (0<=t) && al t.toNat
theorem R3 {t:Int}:fU al t=true↔0<=t/\al t.toNat=true:=by unfold fU;rw[Bool.and_eq_true,decide_eq_true_eq]
def kT (mk:Nat->Nat)(To:Nat->Nat->Int)(i j:Nat):Prop:=∃z,eE 256 z/\cI mk To i z≠cI mk To j z
theorem kT.symm {i j:Nat}(h:kT mk To i j):kT mk To j i:=by
 obtain⟨z,h1,h2⟩:=h;exact⟨z,h1,fun e=>h2 e.symm⟩
theorem rH {i j:Nat}(h:¬kT mk To i j)(z:List Nat)(hz:eE 256 z):cI mk To i z=cI mk To j z:=bS fun hn=>h ⟨z,hz,hn⟩
def iV (al:Nat->Bool)(d:Nat->Nat->Bool)(To:Nat->Nat->Int)(i j b:Nat):Bool:=
 (fU al (To i b) !=fU al (To j b)) || (fU al (To i b) && fU al (To j b) && d (To i b).toNat (To j b).toNat)
theorem rG (ha:iX n 256 To)(h:C9 n mk To al){p b:Nat}(hp:p<n)(hb:b<256)(hd:fU al (To p b)=false)(z:List Nat)(hz:eE 256 z):cI mk To p (b::z)=0:=by
 by_cases e:To p b= -1
 ·rw[fB e]
 ·rw[bQ e];have hr:=ha.rng p b hp hb;apply bS;intro hne;have:al (To p b).toNat=true:=(h.iff ha (by omega)).2 ⟨z,hz,hne⟩;have h2:fU al (To p b)=true:=R3.2 ⟨by omega,this⟩;rw[hd]at h2;cases h2
theorem iN (ha:iX n 256 To){p b:Nat}(hp:p<n)(hb:b<256)(hd:fU al (To p b)=true):(To p b).toNat<n/\To p b≠ -1/\To p b=(((To p b).toNat:Nat):Int)/\al (To p b).toNat=true:=by
 obtain⟨h1,h2⟩:=R3.1 hd;have hr:=ha.rng p b hp hb;exact⟨by omega,by omega,by omega,h2⟩
theorem Gy (ha:iX n 256 To)(h:C9 n mk To al){i j b:Nat}(hi:i<n)(hj:j<n)(hb:b<256)(hd:∀s t,s<n->t<n->d s t=true->kT mk To s t)(ht:iV al d To i j b=true):kT mk To i j:=by
 unfold iV at ht
 cases e1:fU al (To i b)with
 | true=>
  obtain⟨k1,k2,_,k3⟩:=iN ha hi hb e1
  cases e2:fU al (To j b)with
  | true=>
   obtain⟨m1,m2,_,m3⟩:=iN ha hj hb e2;rw[e1,e2]at ht;have hdt:d (To i b).toNat (To j b).toNat=true:=by simpa using ht
   obtain⟨z,hz,hne⟩:=hd _ _ k1 m1 hdt;exact⟨b::z,jL hb hz,by rw[bQ k2,bQ m2];exact hne⟩
  | false=>
   obtain⟨z,hz,hne⟩:=h.sd _ k1 k3;exact⟨b::z,jL hb hz,by rw[bQ k2,rG ha h hj hb e2 z hz];exact hne⟩
 | false=>
  cases e2:fU al (To j b)with
  | true=>
   obtain⟨m1,m2,_,m3⟩:=iN ha hj hb e2;obtain⟨z,hz,hne⟩:=h.sd _ m1 m3;exact⟨b::z,jL hb hz,by rw[bQ m2,rG ha h hi hb e1 z hz];exact fun e=>hne e.symm⟩
  | false=>rw[e1,e2]at ht;cases ht
structure C4 (n:Nat)(mk:Nat->Nat)(To:Nat->Nat->Int)(al:Nat->Bool)(d:Nat->Nat->Bool):Prop where
 sd:∀i j,i<n->j<n->d i j=true->kT mk To i j
 mo:∀i j,i<n->j<n->d i j=false->mk i=mk j
 st:∀i j,i<n->j<n->d i j=false->∀b,b<256->iV al d To i j b=false
theorem C4.iff (ha:iX n 256 To)(hl:C9 n mk To al)(h:C4 n mk To al d){i j:Nat}(hi:i<n)(hj:j<n):d i j=true↔kT mk To i j:=by
 refine⟨h.sd i j hi hj, ?_⟩;rintro⟨z,hz,hne⟩;have go:∀(z:List Nat) (i j:Nat),i<n->j<n->eE 256 z->d i j=false->cI mk To i z=cI mk To j z:=by
  intro z
  induction z with
  | nil=>intro i j hi hj _ hd;exact h.mo i j hi hj hd
  | cons b z ih=>
   intro i j hi hj hz hd;have hb:=hz b bK;have hz':eE 256 z:=fun c hc=>hz c (a9 _ hc)
   have ht:=h.st i j hi hj hd b hb;unfold iV at ht
   cases e1:fU al (To i b)with
   | true=>
    cases e2:fU al (To j b)with
    | true=>
     obtain⟨k1,k2,_,_⟩:=iN ha hi hb e1;obtain⟨m1,m2,_,_⟩:=iN ha hj hb e2;rw[e1,e2]at ht;rw[bQ k2,bQ m2];exact ih _ _ k1 m1 hz' (by simpa using ht)
    | false=>rw[e1,e2]at ht;cases ht
   | false=>
    cases e2:fU al (To j b)with
    | true=>rw[e1,e2]at ht;cases ht
    | false=>rw[rG ha hl hi hb e1 z hz',rG ha hl hj hb e2 z hz']
 cases e:d i j with
 | true=>rfl
 | false=>exact absurd (go z i j hi hj hz e) hne
structure TI (al:Nat->Bool)(d:Nat->Nat->Bool)(m:Nat)(state:Nat->Int)(first:List Nat):Prop where
 fi:∀(s f:Nat),first[s]? =some f->f<m/\(f=0\/al f=true)/\state f=(s:Int)
 mono:∀(s s' f f':Nat),s<s'->first[s]? =some f->first[s']? =some f'->f<f'/\d f f'=true
 dead:∀p,p<m->0<p->al p=false->state p= -1
 live:∀p,p<m->(p=0\/al p=true)->∃s f:Nat,state p=(s:Int)/\first[s]? =some f/\d f p=false/\f<=p
 z:0<m->first[0]? =some 0
theorem TI.start (al:Nat->Bool)(d:Nat->Nat->Bool)(state:Nat->Int):TI al d 0 state []:=⟨fun s f h=>by simp at h,fun s s' f f' _ h=>by simp at h,fun p h=>by omega,fun p h=>by omega,fun h=>by omega⟩
def G1 (state:Nat->Int)(m:Nat)(t:Int):Nat->Int:=fun p=>if p=m then t else state p
section
variable {m:Nat} {state:Nat->Int} {first:List Nat}
theorem nA (state:Nat->Int)(m:Nat)(t:Int):G1 state m t m=t:=if_pos rfl
theorem iP {p:Nat}{t:Int}(h:p≠m):G1 state m t p=state p:=if_neg h
theorem TI.skip (h:TI al d m state first)(h0:0<m)(hd:al m=false):TI al d (m+1) (G1 state m (-1)) first:=by
 refine⟨fun s f hf=> ?_,h.mono,fun p hp h1 h2=> ?_,fun p hp h1=> ?_,fun _=>h.z h0⟩
 ·obtain⟨a,b,c⟩:=h.fi s f hf;exact⟨by omega,b,by rw[iP (by omega)];exact c⟩
 ·by_cases e:p=m
  ·rw[e,nA]
  ·rw[iP e];exact h.dead p (by omega) h1 h2
 ·by_cases e:p=m
  ·rw[e]at h1;rcases h1 with h1 | h1
   ·omega
   ·rw[hd]at h1;cases h1
  ·obtain⟨s,f,a,b,c,e2⟩:=h.live p (by omega) h1;exact⟨s,f,by rw[iP e];exact a,b,c,e2⟩
theorem TI.old (h:TI al d m state first)(h0:0<m)(hl:al m=true){s f:Nat}(hf:first[s]? =some f)(hd:d f m=false):TI al d (m+1) (G1 state m (s:Int)) first:=by
 have hfm:=(h.fi s f hf).1;refine⟨fun s f hf=> ?_,h.mono,fun p hp h1 h2=> ?_,fun p hp h1=> ?_,fun _=>h.z h0⟩
 ·obtain⟨a,b,c⟩:=h.fi s f hf;exact⟨by omega,b,by rw[iP (by omega)];exact c⟩
 ·by_cases e:p=m
  ·rw[e,hl]at h2;cases h2
  ·rw[iP e];exact h.dead p (by omega) h1 h2
 ·by_cases e:p=m
  ·rw[e];exact⟨s,f,nA _ _ _,hf,hd,by omega⟩
  ·obtain⟨s,f,a,b,c,e2⟩:=h.live p (by omega) h1;exact⟨s,f,by rw[iP e];exact a,b,c,e2⟩
theorem TI.new (h:TI al d m state first)(hl:m=0\/al m=true)(hr:d m m=false)(hno:∀(s f:Nat),first[s]? =some f->d f m=true):TI al d (m+1) (G1 state m (first.length:Int)) (first++ [m]):=by
 have hget:∀(s f:Nat),(first++ [m])[s]? =some f->first[s]? =some f\/(s=first.length/\f=m):=fun s f hi=>by
  by_cases hlt:s<first.length
  ·rw[bC hlt]at hi;exact .inl hi
  ·have:=(aL.1 hi).1;rw[cP,cN]at this;have e:s=first.length:=by omega
   subst e;rw[bM (aT _),eM]at hi;exact .inr ⟨rfl,by simpa using hi.symm⟩
 have hlast:(first++ [m])[first.length]? =some m:=by rw[bM (aT _),eM];rfl
 refine⟨fun s f hf=> ?_,fun s s' f f' hss hf hf'=> ?_,fun p hp h1 h2=> ?_,fun p hp h1=> ?_,fun _=> ?_⟩
 ·rcases hget s f hf with k | ⟨k1,k2⟩
  ·obtain⟨a,b,c⟩:=h.fi s f k;exact⟨by omega,b,by rw[iP (by omega)];exact c⟩
  ·rw[k1,k2];exact⟨by omega,hl,nA _ _ _⟩
 ·have hsl:=(aL.1 hf').1;rw[cP,cN]at hsl;have k:=(hget s f hf).resolve_right (fun e=>by omega);rcases hget s' f' hf' with k' | ⟨k1,k2⟩
  ·exact h.mono s s' f f' hss k k'
  ·rw[k2];exact⟨(h.fi s f k).1,hno s f k⟩
 ·by_cases e:p=m
  ·rw[e]at h1 h2;rcases hl with hl | hl
   ·omega
   ·rw[hl]at h2;cases h2
  ·rw[iP e];exact h.dead p (by omega) h1 h2
 ·by_cases e:p=m
  ·rw[e];exact⟨first.length,m,nA _ _ _,hlast,hr,aT _⟩
  ·obtain⟨s,f,a,b,c,e2⟩:=h.live p (by omega) h1;exact⟨s,f,by rw[iP e];exact a,by rw[bC (aL.1 b).1];exact b,c,e2⟩
 ·by_cases e:0<m
  ·have hz:=h.z e;rw[bC (aL.1 hz).1];exact hz
  ·have em:m=0:=by omega
   have e2:first= []:=by
    cases hfi:first with
    | nil=>rfl
    | cons a l=>
     have:=(h.fi 0 a (by rw[hfi];rfl)).1;omega
   rw[e2,em];rfl
end
def Vu (mk:Nat->Nat)(first:List Nat)(s:Nat):Nat:=mk (first.getD s 0)
def kW (To:Nat->Nat->Int)(al:Nat->Bool)(state:Nat->Int)(first:List Nat)(s b:Nat):Int:=if fU al (To (first.getD s 0) b)=true then state (To (first.getD s 0) b).toNat else -1
section
variable {state:Nat->Int} {first:List Nat}
theorem oT {s f:Nat}(h:first[s]? =some f):first.getD s 0=f:=by rw[bN,h];rfl
theorem TI.obs (ha:iX n 256 To)(hl:C9 n mk To al)(hp:C4 n mk To al d)(h:TI al d n state first):∀(z:List Nat) (p s:Nat),p<n->(p=0\/al p=true)->state p=(s:Int)->eE 256 z->cI (Vu mk first) (kW To al state first) s z=cI mk To p z:=by
 intro z
 induction z with
 | nil=>
  intro p s hpn hq hs hz;obtain⟨s',f,h1,h2,h3,_⟩:=h.live p hpn hq;have e:s'=s:=by omega
  subst e;show mk (first.getD s' 0)=mk p;rw[oT h2];exact hp.mo f p (h.fi s' f h2).1 hpn h3
 | cons b z ih=>
  intro p s hpn hq hs hz;have hb:=hz b bK;have hz':eE 256 z:=fun c hc=>hz c (a9 _ hc)
  obtain⟨s',f,h1,h2,h3,_⟩:=h.live p hpn hq;have e:s'=s:=by omega
  subst e;have hf:=(h.fi s' f h2).1;have hfp:cI mk To f (b::z)=cI mk To p (b::z):=rH (fun ha2=>by have:=(hp.iff ha hl hf hpn).2 ha2;rw[h3]at this;cases this) _ hz;rw[←hfp];have ht:kW To al state first s' b=if fU al (To f b)=true then state (To f b).toNat else -1:=by unfold kW;rw[oT h2]
  cases e1:fU al (To f b)with
  | false=>
   rw[e1,if_neg (by decide)]at ht;rw[fB ht,rG ha hl hf hb e1 z hz']
  | true=>
   rw[e1,if_pos rfl]at ht;obtain⟨k1,k2,_,k3⟩:=iN ha hf hb e1;obtain⟨s2,f2,m1,m2,_,_⟩:=h.live _ k1 (.inr k3);have hne:kW To al state first s' b≠ -1:=by rw[ht,m1];omega
   rw[bQ hne,bQ k2,ht,m1,aR];exact ih _ s2 k1 (.inr k3) m1 hz'
theorem TI.alike (ha:iX n 256 To)(hl:C9 n mk To al)(hp:C4 n mk To al d)(h:TI al d n state first){p q:Nat}(hpn:p<n)(hqn:q<n)(h1:p=0\/al p=true)(h2:q=0\/al q=true)(hno:¬kT mk To p q):state p=state q:=by
 obtain⟨s,f,a1,a2,a3,_⟩:=h.live p hpn h1;obtain⟨s',f',b1,b2,b3,_⟩:=h.live q hqn h2;have hf:=(h.fi s f a2).1;have hf':=(h.fi s' f' b2).1;have hfp:¬kT mk To f p:=fun ha2=>by have:=(hp.iff ha hl hf hpn).2 ha2;rw[a3]at this;cases this
 have hfq:¬kT mk To f' q:=fun ha2=>by have:=(hp.iff ha hl hf' hqn).2 ha2;rw[b3]at this;cases this
 have hff:¬kT mk To f f':=by
  rintro⟨z,hz,hne⟩;exact hne (((rH hfp z hz).trans (rH hno z hz)).trans (rH hfq z hz).symm)
 rcases cR s s' with e | e | e
 ·exact absurd ((hp.iff ha hl hf hf').1 (h.mono s s' f f' e a2 b2).2) hff
 ·omega
 ·exact absurd ((hp.iff ha hl hf' hf).1 (h.mono s' s f' f e b2 a2).2).symm hff
theorem TI.canon (ha:iX n 256 To)(ho:P8 n 256 To)(hl:C9 n mk To al)(hp:C4 n mk To al d)(h:TI al d n state first):nI first.length 256 (Vu mk first) (kW To al state first):=by
 have hz:=h.z ha.pos;have hzl:=(aL.1 hz).1;have hst:∀p,p<n->(p=0\/al p=true)->∃s f:Nat,state p=(s:Int)/\s<first.length/\first[s]? =some f/\f<=p/\f<n/\¬kT mk To f p:=fun p hpn hq=>by
  obtain⟨s,f,a1,a2,a3,a4⟩:=h.live p hpn hq;have hf:=(h.fi s f a2).1;exact⟨s,f,a1,(aL.1 a2).1,a2,a4,hf,fun ha2=>by have:=(hp.iff ha hl hf hpn).2 ha2;rw[a3]at this;cases this⟩
 have hfs:∀s,s<first.length->∃f,first[s]? =some f/\f<n/\(f=0\/al f=true)/\state f=(s:Int):=fun s hs=>by
  have e:=aO hs;obtain⟨a,b,c⟩:=h.fi s _ e;exact⟨_,e,a,b,c⟩
 have hmono:∀s s' f f',first[s]? =some f->first[s']? =some f'->(f<f'->s<s')/\(f<=f'->s<=s')/\(s<=s'->f<=f'):=fun s s' f f' e1 e2=>by
  rcases cR s s' with k | k | k
  ·have:=(h.mono s s' f f' k e1 e2).1;omega
  ·subst k;rw[e1]at e2;injection e2 with e2;omega
  ·have:=(h.mono s' s f' f k e2 e1).1;omega
 -- where a state's class leads as one of its texts does
 have hlead:∀p b q:Nat,p<n->b<256->(p=0\/al p=true)->To p b=(q:Int)->al q=true->∀s:Nat,state p=(s:Int)->kW To al state first s b=state q:=fun p b q hpn hb hq hto hal s hs=>by
  obtain⟨s',f,a1,a2,a3,a4,a5,a6⟩:=hst p hpn hq;have e:s'=s:=by omega
  subst e;have hqn:q<n:=by have:=ha.rng p b hpn hb;omega
  have hne:To p b≠ -1:=by omega
  have hobs:∀z,eE 256 z->cI mk To f (b::z)=cI mk To q z:=fun z hz2=>by
   rw[rH a6 _ (jL hb hz2),bQ hne,hto,aR]
  obtain⟨z,hz2,hz3⟩:=hl.sd q hqn hal;have e1:fU al (To f b)=true:=by
   cases e1:fU al (To f b)with
   | true=>rfl
   | false=>
    have:=rG ha hl a5 hb e1 z hz2;rw[hobs z hz2]at this;exact absurd this hz3
  obtain⟨k1,k2,_,k3⟩:=iN ha a5 hb e1;unfold kW;rw[oT a3,if_pos e1];refine h.alike ha hl hp k1 hqn (.inr k3) (.inr hal) ?_;rintro⟨z,hz2,hne2⟩;apply hne2;rw[←hobs z hz2,bQ k2]
 have hau:iX first.length 256 (kW To al state first):=⟨hzl,fun s b hs hb=>by
  obtain⟨f,e,hf,_,_⟩:=hfs s hs;unfold kW;rw[oT e]
  cases e1:fU al (To f b)with
  | false=>exact .inl (if_neg (by decide))
  | true=>
   obtain⟨k1,_,_,k3⟩:=iN ha hf hb e1;obtain⟨s',_,a1,a2,_⟩:=hst _ k1 (.inr k3);rw[if_pos rfl,a1];exact .inr ⟨by omega,by omega⟩⟩
 refine⟨hau,⟨fun s b q hs hb hq0 hle=> ?_,fun q hq0 hq=> ?_⟩,fun s b hs hb hne=> ?_,fun s s' hs hs' hne=> ?_⟩
 ·obtain⟨f,e,hf,_,_⟩:=hfs s hs;have ht:kW To al state first s b=if fU al (To f b)=true then state (To f b).toNat else -1:=by unfold kW;rw[oT e]
  cases e1:fU al (To f b)with
  | false=>
   rw[e1,if_neg (by decide)]at ht;omega
  | true=>
   rw[e1,if_pos rfl]at ht;obtain⟨k1,k2,k4,k3⟩:=iN ha hf hb e1;obtain⟨s2,f2,a1,a2,a3,a4,a5,_⟩:=hst _ k1 (.inr k3);have hql:q<first.length:=by omega
   obtain⟨fq,eq,hfq,hlq,hsq⟩:=hfs q hql;have h0q:=(h.mono 0 q 0 fq hq0 hz eq).1;have hq2:=(hmono q s2 fq f2 eq a3).2.2 (by omega);obtain⟨p',b',hb',hle',hto⟩:=ho.d1 f b fq hf hb (by omega) (by omega);have hp'n:p'<n:=by omega
   have halq:al fq=true:=hlq.resolve_left (by omega);have hp'l:p'=0\/al p'=true:= .inr (hl.st p' b' hp'n hb' (by omega) (by rw[hto,aR];exact halq));obtain⟨s',f',c1,c2,c3,c4,c5,_⟩:=hst p' hp'n hp'l;have hld:=hlead p' b' fq hp'n hb' hp'l hto halq s' c1;refine⟨s',b',hb', ?_,by rw[hld];exact hsq⟩;rcases hle' with k | ⟨k,kb⟩
   ·exact .inl ((hmono s' s f' f c3 e).1 (by omega))
   ·rw[k]at c1;have:=(h.fi s f e).2.2;exact .inr ⟨by omega,kb⟩
 ·obtain⟨fq,eq,hfq,hlq,hsq⟩:=hfs q hq;have h0q:=(h.mono 0 q 0 fq hq0 hz eq).1;have halq:al fq=true:=hlq.resolve_left (by omega);obtain⟨p',b',hlt,hb',hto⟩:=ho.d2 fq h0q hfq;have hp'n:p'<n:=by omega
  have hp'l:p'=0\/al p'=true:= .inr (hl.st p' b' hp'n hb' (by omega) (by rw[hto,aR];exact halq));obtain⟨s',f',c1,c2,c3,c4,c5,_⟩:=hst p' hp'n hp'l;exact⟨s',b',(hmono s' q f' fq c3 eq).1 (by omega),hb',by rw[hlead p' b' fq hp'n hb' hp'l hto halq s' c1];exact hsq⟩
 ·obtain⟨f,e,hf,_,_⟩:=hfs s hs;have ht:kW To al state first s b=if fU al (To f b)=true then state (To f b).toNat else -1:=by unfold kW;rw[oT e]
  cases e1:fU al (To f b)with
  | false=>
   rw[e1,if_neg (by decide)]at ht;exact absurd ht hne
  | true=>
   rw[e1,if_pos rfl]at ht;obtain⟨k1,k2,k4,k3⟩:=iN ha hf hb e1;obtain⟨s2,f2,a1,_⟩:=hst _ k1 (.inr k3);obtain⟨z,hz2,hz3⟩:=hl.sd _ k1 k3;refine⟨z,hz2, ?_⟩;rw[ht,a1,aR,h.obs ha hl hp z _ s2 k1 (.inr k3) a1 hz2];exact hz3
 ·obtain⟨f,e,hf,hq,hsf⟩:=hfs s hs;obtain⟨f',e',hf',hq',hsf'⟩:=hfs s' hs';have hap:kT mk To f f':=by
   rcases Nat.lt_or_gt_of_ne hne with k | k
   ·exact(hp.iff ha hl hf hf').1 (h.mono s s' f f' k e e').2
   ·exact((hp.iff ha hl hf' hf).1 (h.mono s' s f' f k e' e).2).symm
  obtain⟨z,hz2,hz3⟩:=hap;exact⟨z,hz2,by rw[h.obs ha hl hp z f s hf hq hsf hz2,h.obs ha hl hp z f' s' hf' hq' hsf' hz2];exact hz3⟩
theorem TI.obs0 (ha:iX n 256 To)(hl:C9 n mk To al)(hp:C4 n mk To al d)(h:TI al d n state first)(z:List Nat)(hz:eE 256 z):cI (Vu mk first) (kW To al state first) 0 z=cI mk To 0 z:=
 h.obs ha hl hp z 0 0 ha.pos (.inl rfl) ((h.fi 0 0 (h.z ha.pos)).2.2) hz
end
end
end Go.Proofs.YtgjgjgihceijnaaGreat
namespace Go.Proofs.YtgjgjgihceijnaaGreat
open Go.RowKit Go.Stn
structure GV (gb:Nat)(w:World)(n gO qO gT qT:Nat)(rw:Nat->Nat)(of:Nat->Int)(To:Nat->Nat->Int):Prop where
 c1:w.cell? ⟨gb,1,none⟩=some (.slice (some ⟨gO,0,none⟩) n qO)
 c2:w.cell? ⟨gb,2,none⟩=some (.slice (some ⟨gT,0,none⟩) n qT)
 o:∀i,i<n->w.cell? ⟨gO,i,none⟩=some (.int .i64 (of i))
 t:∀i,i<n->w.cell? ⟨gT,i,none⟩=some (.slice (some ⟨rw i,0,none⟩) 256 256)
 r:∀i b,i<n->b<256->w.cell? ⟨rw i,b,none⟩=some (.int .i64 (To i b))
 b0:gb<w.heap.size
 b1:gO<w.heap.size
 b2:gT<w.heap.size
 b3:∀i,i<n->rw i<w.heap.size
theorem GV.below {gb n gO qO gT qT B:Nat}{w w':World}{rw:Nat->Nat}{of:Nat->Int}{To:Nat->Nat->Int}(h:GV gb w n gO qO gT qT rw of To)(hB:Below B w w')(hb:w.heap.size<=B):GV gb w' n gO qO gT qT rw of To:=by
 have hz:=hB.size;have k0:=h.b0;have k1:=h.b1;have k2:=h.b2;exact⟨(hB.cell (p:=⟨gb,1,none⟩) (by show gb<B;omega)).trans h.c1,(hB.cell (p:=⟨gb,2,none⟩) (by show gb<B;omega)).trans h.c2,fun i hi=>(hB.cell (p:=⟨gO,i,none⟩) (by show gO<B;omega)).trans (h.o i hi),fun i hi=>(hB.cell (p:=⟨gT,i,none⟩) (by show gT<B;omega)).trans (h.t i hi),
  fun i b hi hb'=>(hB.cell (p:=⟨rw i,b,none⟩) (by have:=h.b3 i hi;show rw i<B;omega)).trans (h.r i b hi hb'),by omega,by omega,by omega,fun i hi=>by have:=h.b3 i hi;omega⟩
theorem Iu {n:Nat}{Q:Nat->Nat->Prop}(h:∀i,i<n->∃g,Q i g):∃rw:Nat->Nat,∀i,i<n->Q i (rw i):=
 ⟨fun i=>if hi:i<n then Classical.choose (h i hi)else 0,fun i hi=>by
  simp only[dif_pos hi];exact Classical.choose_spec (h i hi)⟩
theorem X6.view {N:List RN}{tops:List Nat}{l0:List LfT}{B gb:Nat}{w:World}{Ls:List (List LfT)}{Of:List Int}{To:Nat->Nat->Int}(h:X6 N tops l0 B gb w Ls Of To):∃gO qO gT qT rw,GV gb w Ls.length gO qO gT qT rw (fun i=>Of.getD i 0) To:=by
 obtain⟨hgi,O,vL,vO,vT,rows,cL,cO,cT,hgm,hrw⟩:=h;have hz:0<Ls.length:=(aL.1 hgi.z).1;have hl:=hgi.len;have hrl:=hrw.1;obtain⟨gO,qO,_,eO,_,bO,_⟩:=hgm.rO.at (aO (i:=0) (by omega));obtain⟨gT,qT,_,eT,_,bT,_⟩:=hgm.rT.at (aO (i:=0) (by omega));have hT:∀i,i<Ls.length->∃g,w.cell? ⟨gT,i,none⟩=some (.slice (some ⟨g,0,none⟩) 256 256)/\g<w.heap.size/\∀b,b<256->w.cell? ⟨g,b,none⟩=some (.int .i64 (To i b)):=fun i hi=>by
  have hg:=aO (l:=rows) (i:=i) (by omega);obtain⟨g2,q2,c,e2,_,_,⟨g,hc,_,hg3,hg4⟩,_,hcell⟩:=hgm.rT.at hg;rw[eT]at e2;injection e2 with e3 _ _;injection e3 with e3;injection e3 with e3 _;subst e3;refine⟨g, ?_,hg3,fun b hb=> ?_⟩
  ·have:=hcell 0 _ (by rw[hc];rfl);rw[eR,eN]at this;exact this
  ·rw[hg4 b hb,hrw.2 i _ hg b hb]
 obtain⟨rw,hrw2⟩:=Iu hT;refine⟨gO,qO,gT,qT,rw, ?_, ?_,fun i hi=> ?_,fun i hi=>(hrw2 i hi).1,fun i b hi hb=>(hrw2 i hi).2.2 b hb,hgm.wt.2.1,bO,bT,fun i hi=>(hrw2 i hi).2.1⟩
 ·rw[←hl,←eO];exact hgm.c1
 ·rw[←hrl,←eT];exact hgm.c2
 ·have hg:=aO (l:=Of) (i:=i) (by omega);obtain⟨g2,q2,c,e2,_,_,hc,_,hcell⟩:=hgm.rO.at hg;rw[eO]at e2;injection e2 with e3 _ _;injection e3 with e3;injection e3 with e3 _;subst e3;have hc:c= [.int .i64 _]:=hc;have:=hcell 0 _ (by rw[hc];rfl);rw[eR,eN]at this;rw[this,bN,hg]
  rfl
def sM (al:Nat->Bool):Nat->Nat
 | 0=>0
 | n+1=>sM al n+(if al n=true then 0 else 1)
theorem mT {al al':Nat->Bool}:∀n,(∀p,p<n->al p=al' p)->sM al n=sM al' n
 | 0,_=>rfl
 | n+1,h=>by unfold sM;rw[mT n (fun p hp=>h p (by omega)),h n (by omega)]
theorem Ak (al:Nat->Bool):∀n,sM al n<=n
 | 0=>aT _
 | n+1=>by have:=Ak al n;unfold sM;split<;> omega
theorem K6 {al:Nat->Bool}{s:Nat}:∀n,s<n->al s=false->sM (fun i=>if i=s then true else al i) n+1=sM al n
 | 0,h,_=>by omega
 | n+1,h,hs=>by
  unfold sM;by_cases e:s=n
  ·subst e;have:=mT (al:=fun i=>if i=s then true else al i) (al':=al) s (fun p hp=>if_neg (by omega));rw[this,hs];simp
  ·have:=K6 n (by omega) hs;have e2:(if n=s then true else al n)=al n:=if_neg (fun h=>e h.symm);simp only[e2];omega
def Vw (To:Nat->Nat->Int)(al:Nat->Bool)(p:Nat):Prop:=∀b,b<256->To p b≠ -1->al (To p b).toNat=true->al p=true
structure AI (n:Nat)(mk:Nat->Nat)(To:Nat->Nat->Int)(al:Nat->Bool):Prop where
 sd:∀p,p<n->al p=true->vJ mk To p
 mo:∀p,p<n->mk p≠0->al p=true
theorem AI.put {n:Nat}{mk:Nat->Nat}{To:Nat->Nat->Int}{al:Nat->Bool}(h:AI n mk To al){s:Nat}(hl:vJ mk To s):AI n mk To (fun i=>if i=s then true else al i):=
 ⟨fun p hp he=>by
  by_cases e:p=s
  ·rw[e];exact hl
  ·rw[if_neg e]at he;exact h.sd p hp he,fun p hp he=>by
  by_cases e:p=s
  ·exact if_pos e
  ·rw[if_neg e];exact h.mo p hp he⟩
structure A4 (n:Nat)(mk:Nat->Nat)(To:Nat->Nat->Int)(al0 al:Nat->Bool)(mb:Bool)(s b:Nat):Prop where
 ai:AI n mk To al
 yes:mb=true->sM al n<sM al0 n
 no:mb=false->(∀p,p<n->al p=al0 p)/\(∀p,p<s->Vw To al p)/\∀b',b'<b->To s b'≠ -1->al (To s b').toNat=true->al s=true
end Go.Proofs.YtgjgjgihceijnaaGreat
namespace Go.Proofs.YtgjgjgihceijnaaGreat
open Go.RowKit Go.Stn
def mkF (of:Nat->Int)(p:Nat):Nat:=(of p+1).toNat
theorem Fb {gb n gO qO gT qT:Nat}{rw:Nat->Nat}{of:Nat->Int}{To:Nat->Nat->Int}{w:World}(h:GV gb w n gO qO gT qT rw of To)(hn:n<=2000)(hof:∀i,i<n-> -1<=of i)(hau:iX n 256 To):
  Calls Tryz.prog 47 #[.pointer (some ⟨gb,0,none⟩)] w fun e w'=>∃al,e= .returned (.slice (some ⟨w.heap.size,0,none⟩) n n)/\LV w w' n al/\C9 n (mkF of) To al:=by
 obtain⟨i0,hi0,hz0,hz1,hz2⟩:=info_parts Tryz.infoBool1;have HI:Hid (Tryz.prog.info? 4=some i0/\i0.zero=some (.bool false)/\i0.size=1/\i0.bytes=1):=⟨hi0,hz0,hz1,hz2⟩
 have HG:=aA h;have k1:=h.c1;have hb0:=h.b0;have HOF:=aA hof;have HAU:=aA hau;clear hi0 hz0 hz1 hz2 h hof hau;go_enter Tryz.func47,Tryz.ntmps47;go_upto_region 2 with(first | (at_make;refine wpList_make_full w rfl _ _ 80 rfl w.heap.size 4 i0 (.bool false) 1 Tryz.underlying80 HI.out.1 HI.out.2.1 HI.out.2.2.1 .i64 .i64 _ n n rfl rfl rfl rfl (by rw[HI.out.2.2.2];omega) (by unfold maxLen;omega) (aT _) ?_;intro w1 hown hg;have HLV:Hid (LV w w1 n (fun _=>false)):=⟨⟨hg.os,hg.tape,hg.output,hg.size,fun k hk=>hg.block k hk (by simp)⟩,BA.new hown⟩;clear hown hg))
 clear k1;go_wp2_with fail
 go_loopw [4] (fun z wr=>∃(i:Nat) (al:Nat->Bool),i<=n/\z= .int .i64 (i:Int)/\LV w wr n al/\Hid (∀p,p<i->al p=(of p != -1))) (fun z _=>n - (intOf z).toNat)
 case atStart=>exact⟨0,_,by omega,rfl,HLV.out,aA (fun p hp=>by omega)⟩
 case round=>
  clear HLV;obtain⟨i,al,hi,rfl,hlv,HA⟩:=hrel;have HL:=aA hlv;have hgv:=HG.out.below hlv.bl (aT _);have HGr:=aA hgv;by_cases hlt:i<n
  ·have c1:=hgv.c1;have y0:=hgv.o i hlt;have x0:=hlv.ba.c i hlt;have xf:=hlv.ba.f i;have hiI:(0:Int)<=(i:Int)/\(i:Int)<(n:Int):=by omega
   have HS:=aA (hlv.set hlt (of i != -1));have HA2:Hid (∀p,p<i+1->(if p=i then(of i != -1)else al p)=(of p != -1)):=fun p hp=>by
    by_cases e:p=i
    ·rw[if_pos e,e]
    ·rw[if_neg e];exact HA.out p (by omega)
   generalize al i=ai at*;generalize of i=oi at*;clear hlv hgv;go_wp2;go_roundw
   case rel=>exact⟨i+1,_,hlt,by go_num,HS.out,HA2⟩
   case measure=>simp[intOf];omega
  ·have ei:i=n:=by omega
   have dl:decide ((i:Int)<(n:Int))=false:=by simp;omega
   have HAI:Hid (AI n (mkF of) To al):=⟨fun p hp he=>Re (by
    rw[HA.out p (by omega),bne_iff_ne]at he;have:=HOF.out p hp;unfold mkF;omega),fun p hp he=>by
    rw[HA.out p (by omega),bne_iff_ne];intro e;unfold mkF at he;rw[e]at he;exact he rfl⟩
   clear hlv hgv HA ei HGr;go_wp2_with fail
   go_loopg [5] (n+1) (fun gj x wr2=>∃(mb:Bool) (al:Nat->Bool),x= .bool mb/\LV w wr2 n al/\AI n (mkF of) To al/\Hid (mb=false->∀p,p<n->Vw To al p)/\Hid (mb=true->sM al n<gj))
   case atStart=>exact⟨true,al,rfl,HL.out,HAI.out,aA (fun e=>by cases e),aA (fun _=>by have:=Ak al n;omega)⟩
   case round=>
    clear HL HAI;obtain⟨mb,al0,rfl,hl0,hai0,HC0,HM0⟩:=hrel
    cases mb with
    | false=>
     have HL0:=aA hl0;have HAC:Hid (C9 n (mkF of) To al0):=⟨hai0.sd,hai0.mo,fun p b hp hb h1 h2=>HC0.out rfl p hp b hb h1 h2⟩
     clear hl0 hai0 HC0 HM0;go_wp2;go_ret;exact⟨al0,rfl,HL0.out,HAC.out⟩
    | true=>
     have hm:=HM0.out rfl;obtain⟨d,rfl⟩:∃d,gk=d+1:=⟨gk - 1,by omega⟩
     have HL0:=aA hl0;have HA0:=aA hai0;clear hl0 hai0 HC0 HM0;go_wp2_with fail
     go_loopw [5,6] (fun x z wr3=>∃(s:Nat) (al:Nat->Bool) (mb:Bool),s<=n/\x= .bool mb/\z= .int .i64 (s:Int)/\LV w wr3 n al/\A4 n (mkF of) To al0 al mb s 0) (fun _ z _=>n - (intOf z).toNat)
     case atStart=>exact⟨0,al0,false,by omega,rfl,rfl,HL0.out,HA0.out,fun e=>(by cases e),fun _=>⟨fun _ _=>rfl,fun p hp=>by omega,fun b' hb'=>by omega⟩⟩
     case round=>
      obtain⟨s,al3,mb3,hs,rfl,rfl,hl3,ha3⟩:=hrel;have HL3:=aA hl3;have HA3:=aA ha3;clear hl3 ha3 HL0 HA0;by_cases hsn:s<n
      ·have hsI:(0:Int)<=(s:Int)/\(s:Int)<(n:Int):=by omega
       go_wp2_with fail
       go_loopw [5,7] (fun x z wr4=>∃(b:Nat) (al:Nat->Bool) (mb:Bool),b<=256/\x= .bool mb/\z= .int .i64 (b:Int)/\LV w wr4 n al/\A4 n (mkF of) To al0 al mb s b) (fun _ z _=>256 - (intOf z).toNat)
       case atStart=>exact⟨0,al3,mb3,by omega,rfl,rfl,HL3.out,HA3.out⟩
       case round=>
        obtain⟨b,al4,mb4,hb,rfl,rfl,hl4,ha4⟩:=hrel;have HL4:=aA hl4;have HA4:=aA ha4;have x0:=hl4.ba.c s hsn;have xf:=hl4.ba.f s;have hgv:=HG.out.below hl4.bl (aT _);clear HL3 HA3;by_cases hb2:b<256
        ·have hbI:(0:Int)<=(b:Int)/\(b:Int)<(256:Int):=by omega
         have db:decide ((b:Int)<(256:Int))=true:=by simp;omega
         cases hals:al4 s with
         | true=>
          rw[hals]at x0;have HN:Hid (A4 n (mkF of) To al0 al4 mb4 (s+1) 0):=⟨ha4.ai,ha4.yes,fun e=>⟨(ha4.no e).1,fun p hp=>by
           by_cases e2:p=s
           ·subst e2;exact fun _ _ _ _=>hals
           ·exact(ha4.no e).2.1 p (by omega),fun b' hb'=>by omega⟩⟩
          clear hl4 ha4 hgv hals;go_wp2;go_roundw
          case rel=>exact⟨s+1,al4,mb4,by omega,rfl,by go_num,HL4.out,HN.out⟩
          case measure=>simp[intOf];omega
         | false=>
          rw[hals]at x0;have c2:=hgv.c2;have t0:=hgv.t s hsn;have r0:=hgv.r s b hsn hb2;have hrg:=HAU.out.rng s b hsn hb2;have HPUT:Hid (∀tb:Nat,To s b=(tb:Int)->al4 tb=true->A4 n (mkF of) To al0 (fun i=>if i=s then true else al4 i) true s (b+1)):=fun tb e1 e2=>by
           have htn:tb<n:=by omega
           refine⟨ha4.ai.put (Fu hb2 (by omega) (by rw[e1,aR];exact ha4.ai.sd tb htn e2)),fun _=> ?_,fun e=>by cases e⟩;have h1:=K6 (al:=al4) n hsn hals
           cases mb4 with
           | true=>have:=ha4.yes rfl;omega
           | false=>rw[mT n (ha4.no rfl).1]at h1;omega
          have HSKIP:Hid ((To s b≠ -1->al4 (To s b).toNat=false)->A4 n (mkF of) To al0 al4 mb4 s (b+1)):=fun hh=>⟨ha4.ai,ha4.yes,fun e=>⟨(ha4.no e).1,(ha4.no e).2.1,fun b' hb' h1 h2=>by
           by_cases e2:b'=b
           ·subst e2;rw[hh h1]at h2;cases h2
           ·exact(ha4.no e).2.2 b' (by omega) h1 h2⟩⟩
          obtain⟨t,et⟩:∃t,To s b=t:=⟨_,rfl⟩
          rw[et]at r0 hrg HPUT HSKIP;clear ha4 hgv hals et;rcases hrg with ht | ht
          ·subst ht;have HN:=aA (HSKIP.out (fun e=>absurd rfl e));clear HPUT HSKIP hl4;go_wp2;go_roundw
           case rel=>exact⟨b+1,al4,mb4,by omega,rfl,by go_num,HL4.out,HN.out⟩
           case measure=>simp[intOf];omega
          ·obtain⟨tb,etb⟩:∃tb:Nat,t=(tb:Int):=⟨t.toNat,by omega⟩
           subst etb;have htn:tb<n:=by omega
           have y0:=hl4.ba.c tb htn;have htI:(0:Int)<=(tb:Int)/\(tb:Int)<(n:Int):=by omega
           have dt:decide ((0:Int)<=(tb:Int))=true:=by simp
           clear ht hl4
           cases hav:al4 tb with
           | true=>
            rw[hav]at y0;have HN:=aA (HPUT.out tb rfl hav);have HS:=aA (HL4.out.set hsn true);clear HPUT HSKIP hav;go_wp2;go_roundw
            case rel=>exact⟨b+1,_,true,by omega,rfl,by go_num,HS.out,HN.out⟩
            case measure=>simp[intOf];omega
           | false=>
            rw[hav]at y0;have HN:=aA (HSKIP.out (fun _=>by rw[aR];exact hav));clear HPUT HSKIP hav;go_wp2;go_roundw
            case rel=>exact⟨b+1,al4,mb4,by omega,rfl,by go_num,HL4.out,HN.out⟩
            case measure=>simp[intOf];omega
        ·have eb:b=256:=by omega
         have db:decide ((b:Int)<(256:Int))=false:=by simp;omega
         have HN:Hid (A4 n (mkF of) To al0 al4 mb4 (s+1) 0):=⟨ha4.ai,ha4.yes,fun e=>⟨(ha4.no e).1,fun p hp=>by
          by_cases e2:p=s
          ·subst e2;exact fun b' hb'=>(ha4.no e).2.2 b' (by omega)
          ·exact(ha4.no e).2.1 p (by omega),fun b' hb'=>by omega⟩⟩
         generalize al4 s=asv at*;clear hl4 ha4 hgv eb;go_wp2;go_roundw
         case rel=>exact⟨s+1,al4,mb4,by omega,rfl,by go_num,HL4.out,HN.out⟩
         case measure=>simp[intOf];omega
      ·have es:s=n:=by omega
       have ds:decide ((s:Int)<(n:Int))=false:=by simp;omega
       have HC:Hid (mb3=false->∀p,p<n->Vw To al3 p):=fun e p hp=>(HA3.out.no e).2.1 p (by omega)
       have HM:Hid (mb3=true->sM al3 n<d):=fun e=>by have:=HA3.out.yes e;omega
       have HAI:=aA HA3.out.ai;clear es;go_wp2;go_roundg d
       case measure=>omega
       case rel=>exact⟨mb3,al3,rfl,HL3.out,HAI.out,HC,HM⟩
end Go.Proofs.YtgjgjgihceijnaaGreat
namespace Go.Proofs.YtgjgjgihceijnaaGreat
open Go.RowKit Go.Stn
structure DAt (w:World)(dg n:Nat)(db:Nat->Nat)(d:Nat->Nat->Bool):Prop where
 r:∀i,i<n->w.cell? ⟨dg,i,none⟩=some (.slice (some ⟨db i,0,none⟩) n n)
 c:∀i j,i<n->j<n->w.cell? ⟨db i,j,none⟩=some (.bool (d i j))
 b0:dg<w.heap.size
 b1:∀i,i<n->db i<w.heap.size
theorem DAt.below {w w':World}{dg n:Nat}{db:Nat->Nat}{d:Nat->Nat->Bool}{B:Nat}(h:DAt w dg n db d)(hB:Below B w w')(hb:w.heap.size<=B):DAt w' dg n db d:=by
 have h0:=h.b0;have hz:=hB.size;exact⟨fun i hi=>(hB.cell (p:=⟨dg,i,none⟩) (by show dg<B;omega)).trans (h.r i hi),fun i j hi hj=>(hB.cell (p:=⟨db i,j,none⟩) (by show db i<B;have:=h.b1 i hi;omega)).trans (h.c i j hi hj),by omega,fun i hi=>by have:=h.b1 i hi;omega⟩
end Go.Proofs.YtgjgjgihceijnaaGreat
namespace Go.Proofs.YtgjgjgihceijnaaGreat
open Go.RowKit Go.Stn
theorem BA.block {w w':World}{ab n:Nat}{al:Nat->Bool}(h:BA w ab n al)(he:w'.heap[ab]? =w.heap[ab]?):BA w' ab n al:=
 ⟨fun i hi=>(World.cell?_of_block (w:=w) (a:=⟨ab,i,none⟩) he).trans (h.c i hi),fun i=>(World.frozen?_of_block (w:=w) (a:=⟨ab,i,none⟩) he).trans (h.f i)⟩
structure DB (W w:World)(dg n:Nat)(db:Nat->Nat)(d:Nat->Nat->Bool):Prop where
 bl:Below W.heap.size W w
 da:DAt w dg n db d
 fz:∀i j,i<n->w.frozen? ⟨db i,j,none⟩=false
 lo:∀i,i<n->W.heap.size<=db i
 ap:∀i,i<n->db i≠dg
 ij:∀i j,i<n->j<n->i≠j->db i≠db j
theorem DB.below {W w w':World}{dg n:Nat}{db:Nat->Nat}{d:Nat->Nat->Bool}(h:DB W w dg n db d)(hB:Below w.heap.size w w'):DB W w' dg n db d:=
 ⟨h.bl.trans (hB.mono h.bl.size),h.da.below hB (aT _),fun i j hi=>(hB.frozen (p:=⟨db i,j,none⟩) (h.da.b1 i hi)).trans (h.fz i j hi),h.lo,h.ap,h.ij⟩
theorem DB.set {W w:World}{dg n:Nat}{db:Nat->Nat}{d:Nat->Nat->Bool}(h:DB W w dg n db d){i j:Nat}(hi:i<n)(hj:j<n)(v:Bool):DB W (w.setCell ⟨db i,j,none⟩ (.bool v)) dg n db (fun p q=>if p=i/\q=j then v else d p q):=by
 refine⟨h.bl.setCell (p:=⟨db i,j,none⟩) (h.lo i hi) _,⟨fun p hp=> ?_,fun p q hp hq=> ?_,by simpa[eL]using h.da.b0,fun p hp=>by simpa[eL]using h.da.b1 p hp⟩,fun p q hp=>by rw[World.frozen?_setCell];exact h.fz p q hp,h.lo,h.ap,h.ij⟩
 ·rw[cF (h:=by intro e';injection e' with e1;exact h.ap i hi e1)];exact h.da.r p hp
 ·by_cases e:p=i/\q=j
  ·obtain⟨rfl,rfl⟩:=e;rw[if_pos ⟨rfl,rfl⟩];exact World.cell?_setCell_same _ _ _ (h.da.c p q hp hq)
  ·rw[if_neg e,cF (h:=by
    intro e';injection e' with e1 e2;by_cases e3:p=i
    ·subst e3;exact e ⟨rfl,e2.symm⟩
    ·exact h.ij p i hp hi e3 e1.symm)]
   exact h.da.c p q hp hq
attribute [local go_sem ↓] Go.wp_at_zero Go.wp_at_succ
end Go.Proofs.YtgjgjgihceijnaaGreat
