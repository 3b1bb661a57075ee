import Derived.Test.YtgjgjgihceijnaaGreatG38
import Derived.Test.YtgjgjgihceijnaaGreatG20
import Derived.Deep.CutBlock
import Derived.Deep.CutRange
import Derived.Deep.LoopGhost
import Derived.Test.YtgjgjgihceijnaaGreatG40
open List renaming getElem?_eq_some_iff->aL,getElem?_append_left->aO,getElem?_eq_getElem->aR,getElem?_append_right->bC,length_append->a9,length_singleton->bK,not_mem_nil->bS,getElem?_cons_succ->bT,mem_of_getElem?->cN,mem_cons_self->cO,length_cons->cT,getElem_map->eM,length_map->eN
open Nat renaming le_refl->aT,sub_self->bM,lt_of_lt_of_le->bN,le_trans->cR
open Classical renaming byContradiction->bO
open Go.RowKit.Below renaming refl->cF
open Int renaming toNat_natCast->cP
set_option maxRecDepth 100000
set_option maxHeartbeats 8000000
namespace Go.Proofs.YtgjgjgihceijnaaGreat
open Go.Stn
def C8 (N:List RN)(Ls:List (List LfT))(l:List LfT)(b:Nat)(t:Int):Prop:=
 (dE N b l= []/\t= -1)\/∃(k:Nat) (l':List LfT),t=(k:Int)/\0<k/\Ls[k]? =some l'/\dE N b l≠ []/\∀x,x∈l'↔x∈dE N b l
theorem C8.app {N:List RN}{Ls:List (List LfT)}{l:List LfT}{b:Nat}{t:Int}(h:C8 N Ls l b t)(a:List LfT):C8 N (Ls++ [a]) l b t:=by
 rcases h with h | ⟨k,l',h1,h2,h3,h4⟩
 ·exact .inl h
 ·exact .inr ⟨k,l',h1,h2,by rw[aO (aL.1 h3).1];exact h3,h4⟩
theorem C8.rng {N:List RN}{Ls:List (List LfT)}{l:List LfT}{b:Nat}{t:Int}(h:C8 N Ls l b t):t= -1\/(0<t/\t<(Ls.length:Int)):=by
 rcases h with h | ⟨k,l',h1,h2,h3,h4⟩
 ·exact .inl h.2
 ·right;have:=(aL.1 h3).1;omega
def Dn (p b i j:Nat):Prop:=j<256/\(i<p\/(i=p/\j<b))
structure GI (N:List RN)(tops:List Nat)(l0:List LfT)(Ls:List (List LfT))(Of:List Int)(To:Nat->Nat->Int)(p b:Nat):Prop where
 len:Of.length=Ls.length
 z:Ls[0]? =some l0
 zo:Of[0]? =some (-1)
 of:∀(i:Nat) (l:List LfT),0<i->Ls[i]? =some l->Of[i]? =some (eJ N l)
 ok:∀(i:Nat) (l:List LfT),0<i->Ls[i]? =some l->l≠ []/\l.Nodup/\∀x,x∈l->UL N tops x
 dif:∀(i j:Nat) (l l':List LfT),0<i->i<j->Ls[i]? =some l->Ls[j]? =some l'->¬ ∀x,x∈l↔x∈l'
 lead:∀(i j:Nat) (l:List LfT),Dn p b i j->Ls[i]? =some l->C8 N Ls l j (To i j)
 d1:∀(i j q:Nat),Dn p b i j->0<q->(q:Int)<=To i j->∃i' j':Nat,Dn p b i' j'/\(i'<i\/(i'=i/\j'<=j))/\To i' j'=(q:Int)
 d2:∀q:Nat,0<q->q<Ls.length->∃i j:Nat,Dn p b i j/\i<q/\To i j=(q:Int)
def C6 (To:Nat->Nat->Int)(p b:Nat)(t:Int):Nat->Nat->Int:=fun i j=>if i=p/\j=b then t else To i j
theorem kG (To:Nat->Nat->Int)(p b:Nat)(t:Int):C6 To p b t p b=t:=if_pos ⟨rfl,rfl⟩
theorem fT {To:Nat->Nat->Int}{p b i j:Nat}{t:Int}(h:¬(i=p/\j=b)):C6 To p b t i j=To i j:=if_neg h
section
variable {N:List RN} {tops:List Nat} {l0:List LfT} {Ls:List (List LfT)} {Of:List Int} {To:Nat->Nat->Int} {p b:Nat}
theorem Dn.old {i j:Nat}(h:Dn p b i j):¬(i=p/\j=b):=fun e=>by
 rcases h.2 with h | h
 ·omega
 ·omega
theorem Dn.more {i j:Nat}(h:Dn p b i j):Dn p (b+1) i j:=⟨h.1,h.2.imp id (fun h=>⟨h.1,by omega⟩)⟩
theorem Dn.split {i j:Nat}(h:Dn p (b+1) i j):Dn p b i j\/(i=p/\j=b):=by
 rcases h.2 with h1 | h1
 ·exact .inl ⟨h.1,.inl h1⟩
 ·by_cases e:j=b
  ·exact .inr ⟨h1.1,e⟩
  ·exact .inl ⟨h.1,.inr ⟨h1.1,by omega⟩⟩
theorem GI.start (N:List RN)(tops:List Nat)(l0:List LfT)(To:Nat->Nat->Int):GI N tops l0 [l0] [-1] To 0 0:=
 ⟨rfl,rfl,rfl,fun i l h1 h2=>(by have:=(aL.1 h2).1;simp at this;omega),fun i l h1 h2=>(by have:=(aL.1 h2).1;simp at this;omega),
  fun i j l l' h1 h2 _ h3=>(by have:=(aL.1 h3).1;simp at this;omega),fun i j l h=>(by rcases h.2 with h | h<;> omega),fun i j q h=>(by rcases h.2 with h | h<;> omega),fun q h1 h2=>(by simp at h2;omega)⟩
theorem GI.old (h:GI N tops l0 Ls Of To p b)(hb:b<256){l:List LfT}(hl:Ls[p]? =some l){t:Int}(ht:C8 N Ls l b t):GI N tops l0 Ls Of (C6 To p b t) p (b+1):=by
 have hr:=ht.rng;refine⟨h.len,h.z,h.zo,h.of,h.ok,h.dif,fun i j l' hd hl'=> ?_,fun i j q hd hq hle=> ?_,fun q hq hlt=> ?_⟩
 ·rcases hd.split with hd | ⟨rfl,rfl⟩
  ·rw[fT hd.old];exact h.lead i j l' hd hl'
  ·rw[hl]at hl';injection hl' with hl';subst hl';rw[kG];exact ht
 ·rcases hd.split with hd | ⟨rfl,rfl⟩
  ·rw[fT hd.old]at hle;obtain⟨i',j',h1,h2,h3⟩:=h.d1 i j q hd hq hle;exact⟨i',j',h1.more,h2,by rw[fT h1.old];exact h3⟩
  ·rw[kG]at hle;obtain⟨i',j',h1,h2,h3⟩:=h.d2 q hq (by omega);refine⟨i',j',h1.more, ?_,by rw[fT h1.old];exact h3⟩;rcases h1.2 with k | k
   ·exact .inl k
   ·exact .inr ⟨k.1,by omega⟩
 ·obtain⟨i',j',h1,h2,h3⟩:=h.d2 q hq hlt;exact⟨i',j',h1.more,h2,by rw[fT h1.old];exact h3⟩
theorem GI.new (h:GI N tops l0 Ls Of To p b)(hb:b<256){l:List LfT}(hl:Ls[p]? =some l)(hne:dE N b l≠ [])(hu:∀x,x∈dE N b l->UL N tops x)(hno:∀(i:Nat) (l':List LfT),0<i->Ls[i]? =some l'->¬ ∀x,x∈l'↔x∈dE N b l):
  GI N tops l0 (Ls++ [dE N b l]) (Of++ [eJ N (dE N b l)]) (C6 To p b (Ls.length:Int)) p (b+1):=by
 have hp:=(aL.1 hl).1;have hlen:=h.len;have hget:∀(i:Nat) (l':List LfT),(Ls++ [dE N b l])[i]? =some l'->Ls[i]? =some l'\/(i=Ls.length/\l'=dE N b l):=fun i l' hi=>by
  by_cases hlt:i<Ls.length
  ·rw[aO hlt]at hi;exact .inl hi
  ·have:=(aL.1 hi).1;rw[a9,bK]at this;have e:i=Ls.length:=by omega
   subst e;rw[bC (aT _),bM]at hi;exact .inr ⟨rfl,by simpa using hi.symm⟩
 have hlast:(Ls++ [dE N b l])[Ls.length]? =some (dE N b l):=by rw[bC (aT _),bM];rfl
 have hz:=(aL.1 h.z).1;refine⟨by simp[hlen],by rw[aO hz];exact h.z,by rw[aO (by omega)];exact h.zo,fun i l' h0 hi=> ?_,fun i l' h0 hi=> ?_,fun i j l1 l2 h0 hij h1 h2=> ?_,fun i j l' hd hl'=> ?_,fun i j q hd hq hle=> ?_,fun q hq hlt=> ?_⟩
 ·rcases hget i l' hi with k | ⟨k1,k2⟩
  ·rw[aO (by rw[hlen];exact(aL.1 k).1)];exact h.of i l' h0 k
  ·rw[k1,k2,←hlen,bC (aT _),bM];rfl
 ·rcases hget i l' hi with k | ⟨k1,k2⟩
  ·exact h.ok i l' h0 k
  ·rw[k2];exact⟨hne,sN _ _ _,hu⟩
 ·have hjl:=(aL.1 h2).1;rw[a9,bK]at hjl;have k1:=(hget i l1 h1).resolve_right (fun e=>by omega);rcases hget j l2 h2 with k | ⟨e1,e2⟩
  ·exact h.dif i j l1 l2 h0 hij k1 k
  ·rw[e2];exact hno i l1 h0 k1
 ·rcases hd.split with hd | ⟨rfl,rfl⟩
  ·rw[fT hd.old];have hi:i<Ls.length:=by rcases hd.2 with k | k<;> omega
   rw[aO hi]at hl';exact(h.lead i j l' hd hl').app _
  ·rw[aO hp,hl]at hl';injection hl' with hl';subst hl';rw[kG];exact .inr ⟨Ls.length,_,rfl,by omega,hlast,hne,fun _=>Iff.rfl⟩
 ·rcases hd.split with hd | ⟨rfl,rfl⟩
  ·rw[fT hd.old]at hle;obtain⟨i',j',h1,h2,h3⟩:=h.d1 i j q hd hq hle;exact⟨i',j',h1.more,h2,by rw[fT h1.old];exact h3⟩
  ·rw[kG]at hle;by_cases e:q=Ls.length
   ·exact⟨i,j,hd,.inr ⟨rfl,aT _⟩,by rw[kG,e]⟩
   ·obtain⟨i',j',h1,h2,h3⟩:=h.d2 q hq (by omega);refine⟨i',j',h1.more, ?_,by rw[fT h1.old];exact h3⟩;rcases h1.2 with k | k
    ·exact .inl k
    ·exact .inr ⟨k.1,by omega⟩
 ·rw[a9,bK]at hlt;by_cases e:q=Ls.length
  ·exact⟨p,b,⟨hb,.inr ⟨rfl,by omega⟩⟩,by omega,by rw[kG,e]⟩
  ·obtain⟨i',j',h1,h2,h3⟩:=h.d2 q hq (by omega);exact⟨i',j',h1.more,h2,by rw[fT h1.old];exact h3⟩
theorem Dn.next {i j:Nat}:Dn p 256 i j↔Dn (p+1) 0 i j:=by
 unfold Dn;constructor
 ·rintro⟨h,k⟩;exact⟨h,.inl (by omega)⟩
 ·rintro⟨h,k⟩;refine⟨h, ?_⟩;by_cases e:i=p
  ·exact .inr ⟨e,h⟩
  ·exact .inl (by omega)
theorem GI.next (h:GI N tops l0 Ls Of To p 256):GI N tops l0 Ls Of To (p+1) 0:=
 ⟨h.len,h.z,h.zo,h.of,h.ok,h.dif,fun i j l hd hl=>h.lead i j l (Dn.next.2 hd) hl,fun i j q hd hq hle=>by
  obtain⟨i',j',h1,h2,h3⟩:=h.d1 i j q (Dn.next.2 hd) hq hle;exact⟨i',j',Dn.next.1 h1,h2,h3⟩,fun q hq hlt=>by
  obtain⟨i',j',h1,h2,h3⟩:=h.d2 q hq hlt;exact⟨i',j',Dn.next.1 h1,h2,h3⟩⟩
def wM:List LfT->List LfT->Nat
 | [],_=>0
 | u::us,l=>2*wM us l+(if gS l u=true then 1 else 0)
theorem Du:∀(us l:List LfT),wM us l<2 ^ us.length
 | [],l=>by show 0<1;omega
 | u::us,l=>by
  have:=Du us l;unfold wM;rw[cT,Nat.pow_succ];split<;> omega
theorem M1:∀{us l l':List LfT},wM us l=wM us l'->∀u,u∈us->(u∈l↔u∈l')
 | [],l,l',_,u,hu=>absurd hu bS
 | a::us,l,l',h,u,hu=>by
  unfold wM at h;have h1:wM us l=wM us l':=by split at h<;> split at h<;> omega
  have h2:(gS l a=true↔gS l' a=true):=by
   constructor
   ·intro h3;rw[if_pos h3]at h;apply bO;intro h4;rw[if_neg h4]at h;omega
   ·intro h3;rw[if_pos h3]at h;apply bO;intro h4;rw[if_neg h4]at h;omega
  rcases List.mem_cons.1 hu with e | e
  ·rw[e,←lL,←lL];exact h2
  ·exact M1 h1 u e
theorem GI.few {ks:List Nat}(hf:eC N tops ks)(h:GI N tops l0 Ls Of To p b):Ls.length<=1025:=by
 obtain⟨S,hS1,hS2⟩:=hf.univ;have hpos:0<Ls.length:=(aL.1 h.z).1;obtain⟨a,t,e⟩:∃a t,Ls=a::t:=by
  cases hL:Ls with
  | nil=>rw[hL]at hpos;simp at hpos
  | cons a t=>exact⟨a,t,rfl⟩
 have hnd:(t.map (wM S)).Nodup:=by
  refine List.pairwise_iff_getElem.2 (fun i j hil hjl hij=> ?_);rw[eN]at hil hjl;rw[eM,eM];intro hm;have hi:Ls[i+1]? =some (t[i]'hil):=by rw[e,bT];exact aR hil
  have hj:Ls[j+1]? =some (t[j]'hjl):=by rw[e,bT];exact aR hjl
  refine h.dif (i+1) (j+1) _ _ (by omega) (by omega) hi hj (fun x=> ?_);have k1:=(h.ok (i+1) _ (by omega) hi).2.2;have k2:=(h.ok (j+1) _ (by omega) hj).2.2;constructor
  ·intro hx;exact(M1 hm x (hS2 x (k1 x hx))).1 hx
  ·intro hx;exact(M1 hm x (hS2 x (k2 x hx))).2 hx
 have:=pB (S:=List.range 1024) hnd (fun x hx=>by
  obtain⟨l,_,rfl⟩:=List.mem_map.1 hx;rw[List.mem_range];have h1:=Du S l;have h2:2 ^ S.length<=2 ^ 10:=Nat.pow_le_pow_right (by decide) hS1;omega)
 rw[eN,List.length_range]at this;rw[e,cT];omega
theorem GI.auto (h:GI N tops l0 Ls Of To Ls.length 0):iX Ls.length 256 To:=by
 have hz:=(aL.1 h.z).1;refine⟨hz,fun p b hp hb=> ?_⟩;have:=(h.lead p b _ ⟨hb,.inl hp⟩ (aR hp)).rng;omega
theorem GI.order (h:GI N tops l0 Ls Of To Ls.length 0):P8 Ls.length 256 To:=by
 refine⟨fun p b q hp hb hq hle=> ?_,fun q hq hlt=> ?_⟩
 ·obtain⟨i,j,h1,h2,h3⟩:=h.d1 p b q ⟨hb,.inl hp⟩ hq hle;exact⟨i,j,h1.1,h2,h3⟩
 ·obtain⟨i,j,h1,h2,h3⟩:=h.d2 q hq hlt;exact⟨i,j,h2,h1.1,h3⟩
end
def N6 (N:List RN)(l:List LfT)(w:List Nat)(v:Nat):Prop:=(v=0/\∀r,¬WL N l r w)\/∃r,v=r+1/\WL N l r w/\∀r',r'<r->¬WL N l r' w
theorem N6.same {N:List RN}{l l':List LfT}{w w':List Nat}{v:Nat}(h:N6 N l w v)(he:∀r,WL N l r w↔WL N l' r w'):N6 N l' w' v:=by
 rcases h with⟨h1,h2⟩ | ⟨r,h1,h2,h3⟩
 ·exact .inl ⟨h1,fun r hr=>h2 r ((he r).2 hr)⟩
 ·exact .inr ⟨r,h1,(he r).1 h2,fun r' hr' hw=>h3 r' hr' ((he r').2 hw)⟩
theorem WL.same {N:List RN}{l l':List LfT}(h:∀x,x∈l↔x∈l')(r:Nat)(w:List Nat):WL N l r w↔WL N l' r w:=by
 constructor
 ·rintro⟨p,h1,h2⟩;exact⟨p,(h p).1 h1,h2⟩
 ·rintro⟨p,h1,h2⟩;exact⟨p,(h p).2 h1,h2⟩
def mkO (Of:List Int)(p:Nat):Nat:=(Of.getD p 0+1).toNat
section
variable {N:List RN} {tops ks:List Nat} {l0:List LfT} {Ls:List (List LfT)} {Of:List Int} {To:Nat->Nat->Int}
theorem Cr (hf:eC N tops ks)(l:List LfT):N6 N l [] (eJ N l+1).toNat:=by
 rcases En N l with⟨h1,h2⟩ | ⟨r,h1,⟨p,h2,h3,h4⟩,h5⟩
 ·refine .inl ⟨by rw[h1];rfl,fun r=> ?_⟩;rintro⟨p,hp,_,hw⟩;have:=(hf.done p.2).2 hw;rw[h2 p hp]at this
  cases this
 ·refine .inr ⟨r,by rw[h1];omega,⟨p,h2,h3,(hf.done p.2).1 h4⟩,fun r' hr'=> ?_⟩;rintro⟨q,hq,e,hw⟩;have:=h5 q hq ((hf.done q.2).2 hw);omega
theorem GI.tok (hf:eC N tops ks)(h0:∀x,x∈l0->UB N tops x)(h:GI N tops l0 Ls Of To Ls.length 0):∀(w:List Nat) (b:Nat) (p:Nat) (l:List LfT),Ls[p]? =some l->eE 256 (b::w)->N6 N l (b::w) (cI (mkO Of) To p (b::w)):=by
 have hub:∀(p:Nat) (l:List LfT),Ls[p]? =some l->∀x,x∈l->UB N tops x:=fun p l hl x hx=>by
  by_cases e:p=0
  ·rw[e,h.z]at hl;injection hl with hl;subst hl;exact h0 x hx
  ·exact((h.ok p l (by omega) hl).2.2 x hx).ub
 intro w
 induction w with
 | nil=>
  intro b p l hl hlet;have hp:=(aL.1 hl).1;have hb:=hlet b cO;have hst:=fun r=>hf.wl_step (hub p l hl) hb r []
  rcases h.lead p b l ⟨hb,.inl hp⟩ hl with⟨h1,h2⟩ | ⟨k,l',h1,h2,h3,h4,h5⟩
  ·rw[fB h2];refine .inl ⟨rfl,fun r hr=> ?_⟩;obtain⟨q,hq,_⟩:=(hst r).2 hr;rw[h1]at hq;exact absurd hq bS
  ·rw[bQ (by rw[h1];omega),h1,cP,Qc];have e:mkO Of k=(eJ N l'+1).toNat:=by
    unfold mkO;rw[List.getD_eq_getElem?_getD,h.of k l' h2 h3]
    rfl
   rw[e];exact(Cr hf l').same (fun r=>(WL.same h5 r []).trans (hst r))
 | cons c w ih=>
  intro b p l hl hlet;have hp:=(aL.1 hl).1;have hb:=hlet b cO;have hst:=fun r=>hf.wl_step (hub p l hl) hb r (c::w)
  rcases h.lead p b l ⟨hb,.inl hp⟩ hl with⟨h1,h2⟩ | ⟨k,l',h1,h2,h3,h4,h5⟩
  ·rw[fB h2];refine .inl ⟨rfl,fun r hr=> ?_⟩;obtain⟨q,hq,_⟩:=(hst r).2 hr;rw[h1]at hq;exact absurd hq bS
  ·rw[bQ (by rw[h1];omega),h1,cP];exact(ih c k l' h3 (fun x hx=>hlet x (List.mem_cons_of_mem _ hx))).same (fun r=>(WL.same h5 r (c::w)).trans (hst r))
end
end Go.Proofs.YtgjgjgihceijnaaGreat
namespace Go.Proofs.YtgjgjgihceijnaaGreat
open Go.RowKit Go.Stn
theorem Rk {N:List RN}{a b n:Nat}{x:RN}(hx:N[n]? =some x)(hk:x.k=0)(hf:x.f a≠x.f b):pS N a b=false:=by
 unfold pS;rw[List.all_eq_false];refine⟨x,cN hx, ?_⟩;rw[hk];simpa using hf
theorem Q9 {N:List RN}{a b:Nat}(h:∀(n:Nat) (x:RN),N[n]? =some x->x.k=0->x.f a=x.f b):pS N a b=true:=by
 unfold pS;rw[List.all_eq_true];intro x hx;obtain⟨n,hn⟩:=List.getElem?_of_mem hx;by_cases hk:x.k=0
 ·rw[h n x hn hk];simp
 ·have:(x.k !=0)=true:=by rw[bne_iff_ne];exact hk
  rw[this];rfl
theorem Ld {fb gN cap a b:Nat}{L:List NV}(ha:a<256)(hb:b<256)(hL:L.length<=100000){w:World}(h:FR fb w L gN cap):
  Calls Tryz.prog 45 #[.pointer (some ⟨fb,0,none⟩),.int .i64 (a:Int),.int .i64 (b:Int)] w fun e w'=>e= .returned (.bool (pS (nvN L) a b))/\Below w.heap.size w w':=by
 obtain⟨n,en⟩:∃n,L.length=n:=⟨_,rfl⟩
 have k0:=h.c0;rw[en]at hL k0;have HLN:=aA en;have HF:=aA h;have hb0:=h.b0;have haI:(0:Int)<=(a:Int)/\(a:Int)<(256:Int):=by omega
 have hbI:(0:Int)<=(b:Int)/\(b:Int)<(256:Int):=by omega
 clear en h;go_enter Tryz.func45,Tryz.ntmps45;go_wp2_with fail
 go_loopw [7] (fun z wr=>∃(i:Nat),i<=n/\z= .int .i64 (i:Int)/\Hid (∀(j:Nat) (x:RN),j<i->(nvN L)[j]? =some x->x.k=0->x.f a=x.f b)/\Below w.heap.size w wr) (fun z _=>n - (intOf z).toNat)
 case atStart=>exact⟨0,by omega,rfl,aA (fun j x hj=>absurd hj (by omega)),cF _ _⟩
 case round=>
  obtain⟨i,hi,rfl,HA,hbl⟩:=hrel;have HB:=aA hbl;have hzr:=hbl.size;have c0:wr.cell? ⟨fb,0,none⟩=some (.slice (some ⟨gN,0,none⟩) n cap):=(hbl.cell (p:=⟨fb,0,none⟩) hb0).trans k0;by_cases hlt:i<n
  ·obtain⟨t,ht⟩:∃t,L[i]? =some t:=⟨L[i]'(by rw[HLN.out];exact hlt),aR _⟩
   have hFr:=HF.out.below hbl (aT _);have HND:=aA (hFr.nd i t ht).1;have HNR:=aA (hFr.nd i t ht).2;have HX:=aA (xV ht);have hiI:(0:Int)<=(i:Int)/\(i:Int)<(n:Int):=by omega
   have HBW:Hid (Below wr.heap.size wr ((wr.alloc (.cells #[.int .i64 0,.slice none 0 0,.slice none 0 0] 180)).setCells wr.heap.size 0 t.cells)):=aD _ 0 _ _ ((cF _ _).alloc (aT _) _) (aT _);have HTH:Hid ((wr.alloc (.cells #[.int .i64 0,.slice none 0 0,.slice none 0 0] 180)).there wr.heap.size 0 3):=bI _ _ _ _ _ rfl rfl;have HRW:Hid (((wr.alloc (.cells #[.int .i64 0,.slice none 0 0,.slice none 0 0] 180)).setCells wr.heap.size 0 t.cells).rangeAt wr.heap.size 0 t.cells):=World.rangeAt_setCells_same _ _ _ _ HTH.out;have HON:=aA (NV.one HNR.out);clear hFr ht hbl;go_upto_region 5 with(first
    | (refine wpList_load_mid rfl 180 (.tmp 23) rfl gN (i*3) rfl t.cells _ HND.out Tryz.underlying180 rfl Tryz.rnodeSize ?_)
    | (refine wpList_store_mid rfl 180 (.tmp 8) (.tmp 24) rfl wr.heap.size 0 t.cells.toArray rfl rfl HTH.out Tryz.rnodeSize (all_oneCell_toArray HON.out) ?_))
   generalize (wr.alloc (.cells #[.int .i64 0,.slice none 0 0,.slice none 0 0] 180)).setCells wr.heap.size 0 t.cells=W at*;have HNW:=aA (HNR.out.below HBW.out (aT _));have n0:W.cell? ⟨wr.heap.size,0,none⟩=some (.int .i64 (t.x.k:Int)):=by have:=HRW.out 0 _ rfl;exact this
   have n2:W.cell? ⟨wr.heap.size,2,none⟩=some t.i:=by have:=HRW.out 2 _ rfl;exact this
   have HB3:Hid (Below w.heap.size w W):=⟨HBW.out.os.trans HB.out.os,HBW.out.tape.trans HB.out.tape,HBW.out.output.trans HB.out.output,cR HB.out.size HBW.out.size,fun k hk=>(HBW.out.block k (bN hk HB.out.size)).trans (HB.out.block k hk)⟩
   clear HTH HND c0 HRW HON HNR
   dsimp only[Act.put]
   have HNX:Hid ((t.x.k=0->t.x.f a=t.x.f b)->∀(j:Nat) (x:RN),j<i+1->(nvN L)[j]? =some x->x.k=0->x.f a=x.f b):=fun hh j x hj hx hk=>by
    by_cases e:j=i
    ·subst e;rw[HX.out]at hx;injection hx with hx;rw[←hx]at hk ⊢;exact hh hk
    ·exact HA.out j x (by omega) hx hk
   by_cases hk:t.x.k=0
   ·obtain⟨g,hgi,hg,hcell⟩:∃g,t.i= .slice (some ⟨g,0,none⟩) 256 256/\g<W.heap.size/\∀i,i<256->W.cell? ⟨g,i,none⟩=some (.bool (t.x.f i)):=by
     rcases HNW.out with⟨_,_,_,g,h4,h6,h7⟩ | ⟨h0,_⟩
     ·exact⟨g,h4,h6,h7⟩
     ·exact absurd hk h0
    have y1:=hcell a ha;have y2:=hcell b hb;rw[hgi]at n2;have HNO:Hid (t.x.f a≠t.x.f b->pS (nvN L) a b=false):=Rk HX.out hk;rw[hk]at n0;have HN2:=HNX.out;rw[hk]at HN2;have HN3:Hid (t.x.f a=t.x.f b->∀(j:Nat) (x:RN),j<i+1->(nvN L)[j]? =some x->x.k=0->x.f a=x.f b):=fun e=>HN2 (fun _=>e)
    have dk:((0:Int)==0)=true:=rfl;clear hk hgi hcell HN2 HNX HNW
    cases hfa:t.x.f a<;> cases hfb:t.x.f b<;> rw[hfa]at y1 HNO HN3<;> rw[hfb]at y2 HNO HN3<;> clear hfa hfb
    ·have HN4:=aA (HN3.out rfl);clear HN3 HNO;go_big_region
     all_goals
      go_wp2;go_roundw
      case rel=>exact⟨i+1,hlt,by go_num,HN4,⟨HB3.out.os,HB3.out.tape,HB3.out.output,HB3.out.size,HB3.out.block⟩⟩
      case measure=>simp[intOf];omega
    ·have HR:=aA (HNO.out (by decide));clear HN3 HNO;go_big_region
     all_goals
      go_wp2;go_ret;exact⟨by rw[HR.out];rfl,⟨HB3.out.os,HB3.out.tape,HB3.out.output,HB3.out.size,HB3.out.block⟩⟩
    ·have HR:=aA (HNO.out (by decide));clear HN3 HNO;go_big_region
     all_goals
      go_wp2;go_ret;exact⟨by rw[HR.out];rfl,⟨HB3.out.os,HB3.out.tape,HB3.out.output,HB3.out.size,HB3.out.block⟩⟩
    ·have HN4:=aA (HN3.out rfl);clear HN3 HNO;go_big_region
     all_goals
      go_wp2;go_roundw
      case rel=>exact⟨i+1,hlt,by go_num,HN4,⟨HB3.out.os,HB3.out.tape,HB3.out.output,HB3.out.size,HB3.out.block⟩⟩
      case measure=>simp[intOf];omega
   ·have HN4:=aA (HNX.out (fun e=>absurd e hk));have dk:((t.x.k:Int)==0)=false:=by rw[beq_eq_false_iff_ne];omega
    clear hk HNX HNW;generalize t.x.k=kk at*;go_big_region
    all_goals
     go_wp2;go_roundw
     case rel=>exact⟨i+1,hlt,by go_num,HN4,⟨HB3.out.os,HB3.out.tape,HB3.out.output,HB3.out.size,HB3.out.block⟩⟩
     case measure=>simp[intOf];omega
  ·have HR:Hid (pS (nvN L) a b=true):=Q9 (fun j x hx hk=>HA.out j x (by have:=(aL.1 hx).1;rw[dQ,HLN.out]at this;omega) hx hk);have dl:decide ((i:Int)<(n:Int))=false:=by simp;omega
   go_wp2;go_ret;exact⟨by rw[HR.out];rfl,HB.out⟩
end Go.Proofs.YtgjgjgihceijnaaGreat
namespace Go.Proofs.YtgjgjgihceijnaaGreat
open Go.RowKit Go.Stn
theorem dO {w w1 w2:World}(h:Below w.heap.size w w1)(k:Below w1.heap.size w1 w2):Below w.heap.size w w2:=⟨k.os.trans h.os,k.tape.trans h.tape,k.output.trans h.output,cR h.size k.size,fun j hj=>(k.block j (bN hj h.size)).trans (h.block j hj)⟩
def uX (N:List RN)(lw:List Nat):Prop:=∀(b k:Nat),lw[b]? =some k->k<=b/\lw[k]? =some k/\pS N k b=true
theorem uX.snoc {N:List RN}{lw:List Nat}(h:uX N lw){k:Nat}(hk:k<=lw.length)(hlt:k<lw.length->lw[k]? =some k/\pS N k lw.length=true):uX N (lw++ [k]):=fun b j hj=>by
 by_cases hb:b<lw.length
 ·rw[aO hb]at hj;obtain⟨h1,h2,h3⟩:=h b j hj;exact⟨h1,by rw[aO (by omega)];exact h2,h3⟩
 ·have:=(aL.1 hj).1;rw[a9,bK]at this;have e:b=lw.length:=by omega
  subst e;rw[bC (aT _),bM]at hj;have ej:k=j:=by simpa using hj
  subst ej;by_cases hkl:k<lw.length
  ·obtain⟨h1,h2⟩:=hlt hkl;exact⟨hk,by rw[aO hkl];exact h1,h2⟩
  ·have e:k=lw.length:=by omega
   subst e;exact⟨aT _,by rw[bC (aT _),bM];rfl,Q9 (fun _ _ _ _=>rfl)⟩
theorem Bb {fb gN cap:Nat}{L:List NV}(hL:L.length<=100000){w:World}(h:FR fb w L gN cap):
  Calls Tryz.prog 21 #[.pointer (some ⟨fb,0,none⟩)] w fun e w'=>∃(v':Value) (lw:List Nat),e= .returned v'/\Below w.heap.size w w'/\w'.ownsRow w.heap.size 3 1 v' 256 (dP lw)/\lw.length=256/\uX (nvN L) lw:=by
 have HF:=aA h;clear h;go_enter Tryz.func21,Tryz.ntmps21;go_wp2_with fail
 go_loopg [3,4] 256 (fun gj y z wr=>∃(b:Nat) (lw:List Nat),b+gj=256/\z= .int .i64 (b:Int)/\lw.length=b/\wr.ownsRow w.heap.size 3 1 y b (dP lw)/\uX (nvN L) lw/\Below w.heap.size w wr)
 case atStart=>exact⟨0,[],by omega,rfl,rfl,World.ownsRow_nil _ _ _ 1,fun b k hk=>by simp at hk,cF _ _⟩
 case round=>
  obtain⟨b,lw,hbj,rfl,hlw,hro,hlo,hbl⟩:=hrel;have HB:=aA hbl;have HRO:=aA hro;have HLO:=aA hlo;have HLW:=aA hlw;have hzr:=hbl.size;obtain⟨ao,co,eo⟩:=aK hro;subst eo;clear hbl hro hlo hlw;by_cases hlt:b<256
  ·obtain⟨d,rfl⟩:∃d,gk=d+1:=⟨gk - 1,by omega⟩
   have hd1:decide ((b:Int)<(256:Int))=true:=by simp;omega
   go_upto_block 2 with fail
   go_cut [5] from 7 to 32 (fun fv wc=>∃k:Nat,fv= .int .i64 (k:Int)/\k<=b/\Hid (k<b->lw[k]? =some k/\pS (nvN L) k b=true)/\Below wr.heap.size wr wc)
   case first=>
    go_wp2_with fail
    go_loopg [5] b (fun gj fv wj=>∃(k:Nat),fv= .int .i64 (k:Int)/\k+gj=b/\Below wr.heap.size wr wj)
    case atStart=>exact⟨0,rfl,by omega,cF _ _⟩
    case round=>
     obtain⟨k,rfl,hkj,hbj2⟩:=hrel;have HBJ:=aA hbj2;have hzj:=hbj2.size;by_cases hkb:k<b
     ·obtain⟨d2,rfl⟩:∃d2,gk=d2+1:=⟨gk - 1,by omega⟩
      have hd2:decide ((k:Int)<(b:Int))=true:=by simp;omega
      obtain⟨x,hx⟩:∃x,lw[k]? =some x:=⟨lw[k]'(by rw[HLW.out];exact hkb),aR _⟩
      obtain⟨g2,cap2,eg⟩:∃g2 cap2,Value.slice ao b co= .slice (some ⟨g2,0,none⟩) b cap2:=by
       rcases bZ HRO.out with e | ⟨g2,cap2,e⟩
       ·injection e with _ e3 _;omega
       ·exact⟨g2,cap2,e⟩
      injection eg with ea _ ec;subst ea ec;have hg2:=(HRO.out.lt g2 rfl).2;have y0:wr.cell? ⟨g2,k,none⟩=some (.int .i64 (x:Int)):=by
       have:=HRO.out.cells (g:=g2) rfl k _ (kI hx);rw[iL,Nat.zero_add]at this;exact(hbj2.cell (p:=⟨g2,k,none⟩) hg2).trans this
      have HX:=aA hx;have hkI:(0:Int)<=(k:Int)/\(k:Int)<(b:Int):=by omega
      clear hbj2 hx;by_cases hxk:x=k
      ·have d1:((x:Int)==(k:Int))=true:=by rw[hxk];simp
       have HXK:=aA hxk;clear hxk;go_wp2_with fail;refine(Ld (a:=k) (b:=b) (by omega) hlt hL ((HF.out.below HB.out (aT _)).below (w':=wr) ⟨HBJ.out.os,HBJ.out.tape,HBJ.out.output,HBJ.out.size,HBJ.out.block⟩ (aT _))).mono ?_;rintro e w3 ⟨rfl,hb3⟩;have HB3:=aA (dO HBJ.out hb3);clear hb3
       cases htw:pS (nvN L) k b with
       | true=>
        have HTW:=aA htw;clear htw;go_wp2;go_meet
        case rel=>exact⟨k,rfl,by omega,aA (fun _=>⟨by rw[HX.out,HXK.out],HTW.out⟩),HB3.out⟩
       | false=>
        clear htw;go_wp2;go_roundg d2
        case measure=>omega
        case rel=>exact⟨k+1,by go_num,by omega,HB3.out⟩
      ·have d1:((x:Int)==(k:Int))=false:=by rw[beq_eq_false_iff_ne];omega
       clear hxk;go_wp2;go_roundg d2
       case measure=>omega
       case rel=>exact⟨k+1,by go_num,by omega,HBJ.out⟩
     ·have hkb2:k=b:=by omega
      have hd2:decide ((k:Int)<(b:Int))=false:=by simp;omega
      clear hkb2;go_wp2;go_meet
      case rel=>exact⟨k,rfl,by omega,aA (fun h=>absurd h hkb),HBJ.out⟩
   case rest=>
    obtain⟨k,rfl,hkb,HK,hb3⟩:=hcut;have hro3:=cV HRO.out (w':=wc) (fun j hj=>hb3.block j (HRO.out.lt j hj).2);have HRO3:=aA hro3;have HB3:Hid (Below w.heap.size w wc):=⟨hb3.os.trans HB.out.os,hb3.tape.trans HB.out.tape,hb3.output.trans HB.out.output,cR HB.out.size hb3.size,fun k hk=>(hb3.block k (bN hk HB.out.size)).trans (HB.out.block k hk)⟩
    have hz3:=HB3.out.size;have HLN:Hid (uX (nvN L) (lw++ [k])):=HLO.out.snoc (by rw[HLW.out];exact hkb) (fun h=>by rw[HLW.out]at h ⊢;exact HK.out h);clear hro3 hb3 HRO HB HK;go_wp2_with (first | (at_builtin;refine aF wc rfl (.tmp 29) (.tmp 31) 59 rfl w.heap.size 3 (.int .i64 0) 1 8 Tryz.underlying59 Tryz.infoIntR rfl (by decide) (by decide) (.slice ao b co) b (dP lw) [.int .i64 (k:Int)] _ rfl HRO3.out _ rfl rfl rfl (by simp[Value.oneCell']) (by omega) (by omega) ?_;intro g4 cap4 w4 hown4 hgrow4 hat4 hlt4;have HOW:=aA hown4;have HBW:Hid (Below w.heap.size w w4):=iA HB3.out HRO3.out hgrow4;clear hown4 hgrow4 hat4 hlt4));go_roundg d
    case measure=>omega
    case rel=>exact⟨b+1,lw++ [k],by omega,by go_num,by rw[a9,HLW.out];rfl,by unfold dP at*;rw[List.map_append];exact HOW.out,HLN.out,HBW.out⟩
  ·have eb:b=256:=by omega
   have hd1:decide ((b:Int)<(256:Int))=false:=by simp;omega
   have HEB:=aA eb;clear eb;go_wp2;go_ret;exact⟨_,lw,rfl,HB.out,by rw[←HEB.out];exact HRO.out,by rw[HLW.out];exact HEB.out,HLO.out⟩
end Go.Proofs.YtgjgjgihceijnaaGreat
namespace Go.Proofs.YtgjgjgihceijnaaGreat
open Go.RowKit Go.Stn
def C5 (w:World)(P:Nat->Prop)(c:List Value)(l:List LfT):Prop:=∃u,c= [u]/\LFp w P u l
theorem C5.keeps:zR C5:=fun _ _ _ _ _ _ ⟨u,h1,h2⟩ hz hB=>⟨u,h1,h2.keep hz hB⟩
def rX (_:World)(_:Nat->Prop)(c:List Value)(x:Int):Prop:=c= [.int .i64 x]
theorem rX.keeps:zR rX:=fun _ _ _ _ _ _ h _ _=>h
def pY (w:World)(P:Nat->Prop)(c:List Value)(f:Nat->Int):Prop:=∃g,c= [.slice (some ⟨g,0,none⟩) 256 256]/\P g/\g<w.heap.size/\∀b,b<256->w.cell? ⟨g,b,none⟩=some (.int .i64 (f b))
theorem pY.keeps:zR pY:=fun w w' P P' c f ⟨g,h1,h2,h3,h4⟩ hz hB=>by
 obtain⟨e1,e2⟩:=hB g h2 h3;exact⟨g,h1,e2,by omega,fun b hb=>(World.cell?_of_block (w:=w) (a:=⟨g,b,none⟩) e1).trans (h4 b hb)⟩
def Xa (Ls:List (List LfT))(l:List LfT)(v:Int):Prop:=
 (v= -1/\∀(i:Nat) (l':List LfT),0<i->Ls[i]? =some l'->jN l' l=false)\/∃(i:Nat) (l':List LfT),v=(i:Int)/\0<i/\Ls[i]? =some l'/\jN l' l=true
theorem Un {gb:Nat}{w:World}{B:Nat}{P Q:Nat->Prop}{vL u:Value}{Ls:List (List LfT)}{cs:List (List Value)}{l:List LfT}(hg:gb<w.heap.size)(hc0:w.cell? ⟨gb,0,none⟩=some vL)(hr:mG C5 145 1 w B P vL Ls cs)(hu:LFp w Q u l)
  (hn:Ls.length<=1000000) (h0:0<Ls.length) (hb:∀l',l'∈Ls->l'.length<=1000000/\∀x,x∈l'->x.2.length<=1000000) (hl:l.length<=1000000) (hlb:∀x,x∈l->x.2.length<=1000000):
  Calls Tryz.prog 77 #[.pointer (some ⟨gb,0,none⟩),u] w fun e w'=>∃v:Int,e= .returned (.int .i64 v)/\Below w.heap.size w w'/\Xa Ls l v:=by
 have HU:=aA hu;obtain⟨ua,uc,rfl,_⟩:=hu;obtain⟨gL,cL,eL⟩:∃gL cL,vL= .slice (some ⟨gL,0,none⟩) Ls.length cL:=by
  obtain⟨g,cap,_,e,_⟩:=hr.at (aR h0);exact⟨g,cap,e⟩
 subst eL;obtain⟨n,en⟩:∃n,Ls.length=n:=⟨_,rfl⟩
 obtain⟨m,em⟩:∃m,l.length=m:=⟨_,rfl⟩
 rw[em]at HU hl ⊢;have HLM:=aA em;have HR:=aA hr;rw[en]at hn h0 hc0 HR;have HLN:=aA en;have HBD:=aA hb;have HLB:=aA hlb;clear en em hr hb hlb;go_enter Tryz.func77,Tryz.ntmps77;go_wp2_with fail
 go_loopw [5] (fun z wr=>∃(i:Nat),0<i/\i<=n/\z= .int .i64 (i:Int)/\Hid (∀(j:Nat) (l':List LfT),0<j->j<i->Ls[j]? =some l'->jN l' l=false)/\Below w.heap.size w wr) (fun z _=>n - (intOf z).toNat)
 case atStart=>exact⟨1,by omega,by omega,rfl,aA (fun j l' h1 h2=>by omega),cF _ _⟩
 case round=>
  obtain⟨i,hi0,hi,rfl,HA,hbl⟩:=hrel;have HB:=aA hbl;have hzr:=hbl.size;have c0:=(hbl.cell (p:=⟨gb,0,none⟩) hg).trans hc0;by_cases hlt:i<n
  ·obtain⟨l',hl'⟩:∃l',Ls[i]? =some l':=⟨Ls[i]'(by rw[HLN.out];exact hlt),aR _⟩
   obtain⟨g2,cap2,c,e2,_,hg2,⟨q,hcq,hq⟩,_,hcell⟩:=HR.out.at hl';injection e2 with e3 _ _;have e4:gL=g2:=by injection e3 with e3;injection e3
   subst e4;have y0:wr.cell? ⟨gL,i,none⟩=some q:=(hbl.cell (p:=⟨gL,i,none⟩) hg2).trans (by have:=hcell 0 q (by rw[hcq];rfl);rw[Nat.mul_one,Nat.add_zero]at this;exact this);have HQ:=aA (hq.below hbl);obtain⟨qa,qc,rfl,_⟩:=hq;obtain⟨b1,b2⟩:=HBD.out l' (cN hl');have HB1:=aA b1;have HB2:=aA b2;have hiI:(0:Int)<=(i:Int)/\(i:Int)<(n:Int):=by omega
   have HL':=aA hl';have HUr:Hid (LFp wr Q (.slice ua m uc) l):=HU.out.below hbl;clear hbl hcell hl' b1 b2 e3;go_wp2_with fail;refine(Ek (HQ.out.below (w':=wr) ⟨rfl,rfl,rfl,aT _,fun _ _=>rfl⟩) (HUr.out.below (w':=wr) ⟨rfl,rfl,rfl,aT _,fun _ _=>rfl⟩) HB1.out (by rw[HLM.out];exact hl) HB2.out HLB.out).mono ?_;rintro e w3 ⟨rfl,hb3⟩;have HB3:=aA (dO HB.out hb3);clear hb3
   cases heq:jN l' l with
   | true=>
    have HEQ:=aA heq;clear heq;go_wp2;go_ret;exact⟨(i:Int),rfl,HB3.out,.inr ⟨i,l',rfl,hi0,HL'.out,HEQ.out⟩⟩
   | false=>
    have HA2:Hid (∀(j:Nat) (l':List LfT),0<j->j<i+1->Ls[j]? =some l'->jN l' l=false):=fun j k h1 h2 h3=>by
     by_cases e:j=i
     ·subst e;rw[HL'.out]at h3;injection h3 with h3;rw[←h3];exact heq
     ·exact HA.out j k h1 (by omega) h3
    clear heq;go_wp2;go_roundw
    case rel=>exact⟨i+1,by omega,by omega,by go_num,HA2,HB3.out⟩
    case measure=>simp[intOf];omega
  ·have dl:decide ((i:Int)<(n:Int))=false:=by simp;omega
   go_wp2;go_ret;exact⟨-1,rfl,HB.out,.inl ⟨rfl,fun j k h1 h2=>HA.out j k h1 (by have:=(aL.1 h2).1;rw[HLN.out]at this;omega) h2⟩⟩
end Go.Proofs.YtgjgjgihceijnaaGreat
