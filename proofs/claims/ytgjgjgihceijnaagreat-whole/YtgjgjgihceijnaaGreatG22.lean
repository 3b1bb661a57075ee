import Derived.Test.YtgjgjgihceijnaaGreatG20
import Derived.Test.YtgjgjgihceijnaaGreatG21
import Derived.Test.YtgjgjgihceijnaaGreatG01
open List renaming getD_eq_getElem?_getD->aL,append_eq_nil_iff->aO,not_mem_nil->aR,cons_append->bC,append_nil->bK,nil_append->bN,mem_cons->cN
open Nat renaming mod_eq_of_lt->aT,le_refl->bD,and_lt_two_pow->bO,or_lt_two_pow->bS
open Classical renaming byContradiction->bM
open Int renaming toNat_natCast->bT
open Bool renaming and_eq_true->cF,or_eq_true->cL
namespace Go.Stn
def Mk (S:List Int)(x v:Int):Prop:=(v= -1/\(x<=0\/1024<=x))\/∃q:Nat,v=(q:Int)/\q<S.length/\S.getD q 0=x/\0<x/\x<1024
theorem Mk.more {S S':List Int}{x v:Int}(h:Mk S x v)(hl:S.length<=S'.length)(hs:∀i,i<S.length->S'.getD i 0=S.getD i 0):Mk S' x v:=by
 rcases h with h | ⟨q,h1,h2,h3,h4⟩
 ·exact .inl h
 ·exact .inr ⟨q,h1,by omega,(hs q h2).trans h3,h4⟩
theorem Tn (S:List Int)(x:Int):Mk (toP S x).2 x (toP S x).1:=by
 unfold toP;split
 ·rename_i h;exact .inl ⟨rfl,h⟩
 ·rename_i h;split
  ·rename_i hm;refine .inr ⟨cY S x,rfl,J0 hm, ?_,by omega,by omega⟩;rw[aL,zF hm];rfl
  ·refine .inr ⟨S.length,rfl,by simp, ?_,by omega,by omega⟩;simp
theorem mE {α:Type}{l m:List α}{d:α}{i:Nat}(h:i<l.length):(l++m).getD i d=l.getD i d:=by
 rw[aL,aL,List.getElem?_append_left h]
theorem lS {α:Type}{l:List α}{x d:α}:(l++ [x]).getD l.length d=x:=by
 rw[aL,List.getElem?_append_right (bD _)];simp
theorem A7 {next:Nat->Int}{begin:Int}{S S':List Int}{p:Nat}(h:S'.getD p 0=S.getD p 0):eF next begin S' p=eF next begin S p:=by unfold eF;rw[h]
def ahd (K s j p g:Nat):Prop:=g<K/\(p<s\/(p=s/\g<j))
structure SI (next:Nat->Int)(begin:Int)(G S:List Int)(s j:Nat)(val:Nat->Nat->Int):Prop where
 ok:kA S
 row:∀p g,ahd G.length s j p g->p<S.length/\Mk S (gZ (eF next begin S p) (G.getD g 0)) (val p g)
 occ:∀q,0<q->q<S.length->∃p g,ahd G.length s j p g/\p<q/\val p g=(q:Int)
 d1:∀p g,ahd G.length s j p g->∀q:Nat,0<q->(q:Int)<=val p g->∃p' g',ahd G.length s j p' g'/\(p'<p\/(p'=p/\g'<=g))/\val p' g'=(q:Int)
theorem SI.step {next:Nat->Int}{begin:Int}{G S:List Int}{s j:Nat}{val val':Nat->Nat->Int}(h:SI next begin G S s j val)(hj:j<G.length)(hs:s<S.length)
  (hv:∀p g,ahd G.length s j p g->val' p g=val p g) (hx:val' s j=(toP S (gZ (eF next begin S s) (G.getD j 0))).1):
  SI next begin G (toP S (gZ (eF next begin S s) (G.getD j 0))).2 s (j+1) val':=by
 obtain⟨h1,h2,h3,h4⟩:=Z9 h.ok (gZ (eF next begin S s) (G.getD j 0));have hrow:=Tn S (gZ (eF next begin S s) (G.getD j 0));have hahead:∀p,p<S.length->eF next begin (toP S (gZ (eF next begin S s) (G.getD j 0))).2 p=eF next begin S p:=fun p hp=>A7 (h3 p hp)
 have hsplit:∀p g,ahd G.length s (j+1) p g->ahd G.length s j p g\/(p=s/\g=j):=fun p g hpg=>by unfold ahd at*;omega
 have hmore:∀p g,ahd G.length s j p g->ahd G.length s (j+1) p g:=fun p g hpg=>by unfold ahd at*;omega
 have hself:ahd G.length s (j+1) s j:=⟨hj,.inr ⟨rfl,by omega⟩⟩
 have hlex:∀p g,ahd G.length s j p g->(p<s\/(p=s/\g<=j)):=fun p g hpg=>by unfold ahd at hpg;omega
 have hold:∀q,0<q->q<S.length->∃p g,ahd G.length s (j+1) p g/\p<q/\val' p g=(q:Int)/\(p<s\/(p=s/\g<=j)):=fun q h0 hq=>by
  obtain⟨p,g,a,b,c⟩:=h.occ q h0 hq;exact⟨p,g,hmore p g a,b,by rw[hv p g a];exact c,hlex p g a⟩
 have hnew:∀q,0<q->q<(toP S (gZ (eF next begin S s) (G.getD j 0))).2.length->S.length<=q->q=S.length/\val' s j=(q:Int):=fun q h0 hq hge=>by
  rw[hx];unfold toP at hq ⊢;split at hq
  ·simp only at hq;omega
  ·split at hq
   ·simp only at hq;omega
   ·rename_i e1 e2;simp at hq;rw[if_neg e1,if_neg e2];exact⟨by omega,by simp only;omega⟩
 refine⟨h1,fun p g hpg=> ?_,fun q h0 hq=> ?_,fun p g hpg q h0 hle=> ?_⟩
 ·rcases hsplit p g hpg with hp | ⟨rfl,rfl⟩
  ·obtain⟨a,b⟩:=h.row p g hp;rw[hv p g hp,hahead p a];exact⟨by omega,b.more h2 h3⟩
  ·rw[hahead p hs,hx];exact⟨by omega,hrow⟩
 ·by_cases hlt:q<S.length
  ·obtain⟨p,g,a,b,c,_⟩:=hold q h0 hlt;exact⟨p,g,a,b,c⟩
  ·obtain⟨e1,e2⟩:=hnew q h0 hq (by omega);exact⟨s,j,hself,by omega,e2⟩
 ·rcases hsplit p g hpg with hp | ⟨rfl,rfl⟩
  ·rw[hv p g hp]at hle;obtain⟨p',g',a,b,c⟩:=h.d1 p g hp q h0 hle;exact⟨p',g',hmore p' g' a,b,by rw[hv p' g' a];exact c⟩
  ·rw[hx]at hle;have hlen:q<(toP S (gZ (eF next begin S p) (G.getD g 0))).2.length:=by rcases h4 with e | e<;> omega
   by_cases hlt:q<S.length
   ·obtain⟨p',g',a,_,c,d⟩:=hold q h0 hlt;exact⟨p',g',a,d,c⟩
   ·obtain⟨e1,e2⟩:=hnew q h0 hlen (by omega);exact⟨p,g,hself,.inr ⟨rfl,bD _⟩,e2⟩
def zC (R:List (List Int))(acc:List Int)(s p g:Nat):Int:=if p<s then(R.getD p []).getD g 0 else acc.getD g 0
theorem Td {next:Nat->Int}{begin:Int}{G:List Int}{R:List (List Int)}{s:Nat}{ahead:Int}:∀(d j:Nat) (acc S:List Int),j+d=G.length->acc.length=j->s<S.length->ahead=eF next begin S s->SI next begin G S s j (zC R acc s)->
  SI next begin G (pX ahead (G.drop j) acc S).2 s G.length (zC R (pX ahead (G.drop j) acc S).1 s)/\S.length<=(pX ahead (G.drop j) acc S).2.length:=by
 intro d
 induction d with
 | zero=>
  intro j acc S hj _ _ _ h;have e:j=G.length:=by omega
  subst e;rw[List.drop_length,pX];exact⟨h,bD _⟩
 | succ k ih=>
  intro j acc S hj hacc hs ha h;have hjl:j<G.length:=by omega
  have hg:G[j]? =some (G.getD j 0):=by rw[aL,List.getElem?_eq_getElem hjl];rfl
  rw[S4 hg];obtain⟨h1,h2,h3,h4⟩:=Z9 h.ok (gZ ahead (G.getD j 0));have hst:SI next begin G (toP S (gZ ahead (G.getD j 0))).2 s (j+1) (zC R (acc++ [(toP S (gZ ahead (G.getD j 0))).1]) s):=by
   rw[ha];refine h.step hjl hs (fun p g hpg=> ?_) ?_
   ·unfold zC;by_cases e:p<s
    ·rw[if_pos e,if_pos e]
    ·rw[if_neg e,if_neg e,mE (by unfold ahd at hpg;omega)]
   ·unfold zC;rw[if_neg (by omega),←hacc,lS]
  have:=ih (j+1) (acc++ [(toP S (gZ ahead (G.getD j 0))).1]) (toP S (gZ ahead (G.getD j 0))).2 (by omega) (by simp[hacc]) (by omega) (by rw[A7 (h3 s hs)];exact ha) hst;exact⟨this.1,by omega⟩
theorem Gw {next:Nat->Int}{begin:Int}{G:List Int}:∀f s S R,R.length=s->s<=S.length->s+f=1025->(∀r∈R,r.length=G.length)->SI next begin G S s 0 (zC R [] s)->
  SI next begin G (iB next begin G f s S R).1 (iB next begin G f s S R).1.length 0 (zC (iB next begin G f s S R).2 [] (iB next begin G f s S R).1.length):=by
 intro f
 induction f with
 | zero=>
  intro s S R h1 h2 h3 h4 h;have:=rJ h.ok;omega
 | succ d ih=>
  intro s S R h1 h2 h3 h4 h;rw[iB];by_cases hlt:s<S.length
  ·rw[if_pos hlt];obtain⟨k1,k2⟩:=Td (R:=R) (s:=s) (ahead:=eF next begin S s) G.length 0 [] S (by omega) rfl hlt rfl h;rw[List.drop_zero]at k1 k2;have hlen:=(Ju (ahead:=eF next begin S s) G [] S h.ok (fun y hy=>absurd hy (aR))).2.2.2.1;refine ih (s+1) _ _ (by simp[h1]) (by omega) (by omega) (fun r hr=> ?_) ?_
   ·rcases List.mem_append.1 hr with q | q
    ·exact h4 r q
    ·rw[List.mem_singleton]at q;rw[q,hlen];simp
   ·have hval:∀p g,ahd G.length s G.length p g->zC (R++ [(pX (eF next begin S s) G [] S).1]) [] (s+1) p g=zC R (pX (eF next begin S s) G [] S).1 s p g:=fun p g hpg=>by
     unfold zC;have hp:p<s+1:=by unfold ahd at hpg;omega
     rw[if_pos hp];by_cases e:p<s
     ·rw[if_pos e,mE (by omega)]
     ·rw[if_neg e];have e2:p=R.length:=by omega
      rw[e2,lS]
    have hahd:∀p g,ahd G.length (s+1) 0 p g↔ahd G.length s G.length p g:=fun p g=>by unfold ahd;omega
    refine⟨k1.ok,fun p g hpg=> ?_,fun q h0 hq=> ?_,fun p g hpg q h0 hle=> ?_⟩
    ·rw[hval p g ((hahd p g).1 hpg)];exact k1.row p g ((hahd p g).1 hpg)
    ·obtain⟨p,g,a,b,c⟩:=k1.occ q h0 hq;exact⟨p,g,(hahd p g).2 a,b,by rw[hval p g a];exact c⟩
    ·rw[hval p g ((hahd p g).1 hpg)]at hle;obtain⟨p',g',a,b,c⟩:=k1.d1 p g ((hahd p g).1 hpg) q h0 hle;exact⟨p',g',(hahd p' g').2 a,b,by rw[hval p' g' a];exact c⟩
  ·rw[if_neg hlt];have e:s=S.length:=by omega
   subst e;exact h
def qA (next:Nat->Int)(begin:Int)(G:List Int):Nat:=(cG next begin G).1.length
def lI (next:Nat->Int)(begin:Int)(G:List Int)(s:Nat):Int:=(cG next begin G).1.getD s 0
def pZ (next:Nat->Int)(begin:Int)(G:List Int)(s g:Nat):Int:=((cG next begin G).2.getD s []).getD g 0
theorem L7 (next:Nat->Int)(begin:Int)(G:List Int):SI next begin G (cG next begin G).1 (qA next begin G) 0 (zC (cG next begin G).2 [] (qA next begin G)):=by
 refine Gw 1025 0 [0] [] rfl (by simp) rfl (fun r hr=>absurd hr aR) ⟨⟨rfl,by simp,fun x hx=>by simp at hx;omega⟩,fun p g hpg=> ?_,fun q h0 hq=> ?_,fun p g hpg=> ?_⟩
 ·unfold ahd at hpg;omega
 ·simp at hq;omega
 ·unfold ahd at hpg;omega
theorem D3 {next:Nat->Int}{begin:Int}{G:List Int}{p g:Nat}(hp:p<qA next begin G):zC (cG next begin G).2 [] (qA next begin G) p g=pZ next begin G p g:=by
 unfold zC pZ;rw[if_pos hp]
theorem Tj (next:Nat->Int)(begin:Int)(G:List Int){p g:Nat}(hp:p<qA next begin G)(hg:g<G.length):
  Mk (cG next begin G).1 (gZ (if p=0 then begin else K1 next (lI next begin G p)) (G.getD g 0)) (pZ next begin G p g):=by
 have h:=(L7 next begin G).row p g ⟨hg,.inl hp⟩;rw[D3 hp]at h;exact h.2
theorem G6 (next:Nat->Int)(begin:Int)(G:List Int):iX (qA next begin G) G.length (pZ next begin G):=
 ⟨by
  have:=(mY next begin G).1.zero;have:=(List.getElem?_eq_some_iff.1 this).1;exact this,fun p g hp hg=>Nu next begin G p g hp hg⟩
theorem yJ (next:Nat->Int)(begin:Int)(G:List Int):P8 (qA next begin G) G.length (pZ next begin G):=by
 have h:=L7 next begin G;refine⟨fun p b q hp hb h0 hle=> ?_,fun q h0 hq=> ?_⟩
 ·rw[←D3 hp]at hle;obtain⟨p',g',a,b',c⟩:=h.d1 p b ⟨hb,.inl hp⟩ q h0 hle;have hp':p'<qA next begin G:=by unfold ahd at a;omega
  exact⟨p',g',a.1,b',by rw[←D3 hp'];exact c⟩
 ·obtain⟨p,g,a,b',c⟩:=h.occ q h0 hq;have hp':p<qA next begin G:=by unfold ahd at a;omega
  exact⟨p,g,b',a.1,by rw[←D3 hp'];exact c⟩
end Go.Stn
namespace Go.Stn
open Go.RowKit
theorem uB (a:Nat):BitVec.ofInt 64 (a:Int)=BitVec.ofNat 64 a:=by
 apply BitVec.eq_of_toNat_eq;simp[BitVec.toNat_ofNat]
theorem At {a b:Nat}(ha:a<2 ^ 62)(hb:b<2 ^ 62):gZ (a:Int) (b:Int)=((a &&& b:Nat):Int):=by
 have h:(a &&& b)<2 ^ 62:=bO a hb;show IntKind.i64.wrap (((BitVec.ofInt 64 (a:Int)) &&& (BitVec.ofInt 64 (b:Int))).toNat:Int)=_;rw[uB,uB,BitVec.toNat_and,BitVec.toNat_ofNat,BitVec.toNat_ofNat,aT (by omega),aT (by omega)];exact IntWalk.i64_in _ (by omega)
theorem Jm {a b:Nat}(ha:a<2 ^ 62)(hb:b<2 ^ 62):orI (a:Int) (b:Int)=((a ||| b:Nat):Int):=by
 have h:(a ||| b)<2 ^ 62:=bS ha hb;show IntKind.i64.wrap (((BitVec.ofInt 64 (a:Int)) ||| (BitVec.ofInt 64 (b:Int))).toNat:Int)=_;rw[uB,uB,BitVec.toNat_or,BitVec.toNat_ofNat,BitVec.toNat_ofNat,aT (by omega),aT (by omega)];exact IntWalk.i64_in _ (by omega)
def cA (x:Int):Prop:=0<=x/\x<1024
def inS (x:Int)(p:Nat):Bool:=x.toNat.testBit p
theorem iW {x:Int}(h:cA x):∃a:Nat,x=(a:Int)/\a<2 ^ 10:=⟨x.toNat,by have:=h.1;omega,by have:=h.1;have:=h.2;omega⟩
theorem mU:cA 0:=⟨by omega,by omega⟩
theorem nO {x y:Int}(h:cA x)(k:cA y):cA (orI x y):=by
 obtain⟨a,rfl,ha⟩:=iW h;obtain⟨b,rfl,hb⟩:=iW k;rw[Jm (by omega) (by omega)];have:=bS ha hb;exact⟨by omega,by omega⟩
theorem U4 {x y:Int}(h:cA x)(k:cA y):cA (gZ x y):=by
 obtain⟨a,rfl,ha⟩:=iW h;obtain⟨b,rfl,hb⟩:=iW k;rw[At (by omega) (by omega)];have:=bO a hb;exact⟨by omega,by omega⟩
theorem oH {x y:Int}(h:cA x)(k:cA y)(p:Nat):inS (orI x y) p=(inS x p || inS y p):=by
 obtain⟨a,rfl,ha⟩:=iW h;obtain⟨b,rfl,hb⟩:=iW k;rw[Jm (by omega) (by omega)];unfold inS;simp
theorem X3 {x y:Int}(h:cA x)(k:cA y)(p:Nat):inS (gZ x y) p=(inS x p && inS y p):=by
 obtain⟨a,rfl,ha⟩:=iW h;obtain⟨b,rfl,hb⟩:=iW k;rw[At (by omega) (by omega)];unfold inS;simp
theorem nX (p:Nat):inS 0 p=false:=by unfold inS;simp
theorem mK {k:Nat}(h:k<10):cA (lZ k):=by
 unfold lZ;have:=Nat.pow_lt_pow_right (a:=2) (by omega) h;exact⟨Int.natCast_nonneg _,Int.ofNat_lt.2 this⟩
theorem uM (k p:Nat):inS (lZ k) p=decide (k=p):=by
 unfold inS lZ;rw[bT,Nat.testBit_two_pow]
theorem Jr {x:Int}(h:cA x){p:Nat}(hp:10<=p):inS x p=false:=by
 obtain⟨a,rfl,ha⟩:=iW h;unfold inS;rw[bT];exact Nat.testBit_lt_two_pow (Nat.lt_of_lt_of_le ha (Nat.pow_le_pow_right (by omega) hp))
theorem Uy {x y:Int}(h:cA x)(k:cA y)(he:∀p,inS x p=inS y p):x=y:=by
 obtain⟨a,rfl,ha⟩:=iW h;obtain⟨b,rfl,hb⟩:=iW k;have:a=b:=Nat.eq_of_testBit_eq (fun i=>by have:=he i;unfold inS at this;simpa using this);rw[this]
theorem Y9 {x:Int}(h:cA x):0<x↔∃p,inS x p=true:=by
 constructor
 ·intro hx;apply bM;intro hc;have:x=0:=Uy h mU (fun p=>by
   rw[nX]
   cases e:inS x p with
   | false=>rfl
   | true=>exact absurd ⟨p,e⟩ hc)
  omega
 ·rintro⟨p,hp⟩;have:=h.1;have hne:x≠0:=fun e=>by rw[e,nX]at hp;cases hp
  omega
theorem Gq {x y:Int}(h:cA x)(k:cA y):gZ x y≠0↔∃p,inS x p=true/\inS y p=true:=by
 have hs:=U4 h k;have h0:=Y9 hs;constructor
 ·intro hx;obtain⟨p,hp⟩:=h0.1 (by have:=hs.1;omega);rw[X3 h k,cF]at hp;exact⟨p,hp⟩
 ·rintro⟨p,h1,h2⟩ e;have:inS (gZ x y) p=true:=by rw[X3 h k,h1,h2];rfl
  rw[e,nX]at this;cases this
theorem Z7 {x:Int}(h:cA x){k:Nat}(hk:k<10):gZ x (lZ k)=0↔inS x k=false:=by
 have:=Gq h (mK hk);constructor
 ·intro e
  cases hx:inS x k with
  | false=>rfl
  | true=>exact absurd e (this.2 ⟨k,hx,by rw[uM];simp⟩)
 ·intro e;apply bM;intro hc;obtain⟨p,h1,h2⟩:=this.1 hc;rw[uM,decide_eq_true_eq]at h2;subst h2;rw[e]at h1;cases h1
theorem Eg {next:Nat->Int}(hn:∀p,p<10->cA (next p)){pl:Int}:∀k,k<=10->cA (vQ next pl k):=by
 intro k
 induction k with
 | zero=>intro _;exact mU
 | succ j ih=>
  intro h;rw[vQ];split
  ·exact ih (by omega)
  ·exact nO (ih (by omega)) (hn j (by omega))
theorem Tg {next:Nat->Int}(hn:∀p,p<10->cA (next p)){pl:Int}(hp:cA pl)(q:Nat):∀k,k<=10->(inS (vQ next pl k) q=true↔∃p,p<k/\inS pl p=true/\inS (next p) q=true):=by
 intro k
 induction k with
 | zero=>
  intro _;rw[vQ,nX];constructor
  ·intro h;cases h
  ·rintro⟨p,h,_⟩;omega
 | succ j ih=>
  intro h;have hi:=ih (by omega);rw[vQ];by_cases e:gZ pl (lZ j)=0
  ·rw[if_pos e,hi];have hf:=(Z7 hp (by omega)).1 e;constructor
   ·rintro⟨p,h1,h2⟩;exact⟨p,by omega,h2⟩
   ·rintro⟨p,h1,h2,h3⟩;refine⟨p, ?_,h2,h3⟩;have:p≠j:=fun e=>by rw[e,hf]at h2;cases h2
    omega
  ·rw[if_neg e,oH (Eg hn j (by omega)) (hn j (by omega)),cL,hi];have hf:inS pl j=true:=by
    cases hx:inS pl j with
    | true=>rfl
    | false=>exact absurd ((Z7 hp (by omega)).2 hx) e
   constructor
   ·rintro(⟨p,h1,h2⟩ | h2)
    ·exact⟨p,by omega,h2⟩
    ·exact⟨j,by omega,hf,h2⟩
   ·rintro⟨p,h1,h2,h3⟩;by_cases e2:p=j
    ·subst e2;exact .inr h3
    ·exact .inl ⟨p,by omega,h2,h3⟩
theorem Oo {next:Nat->Int}(hn:∀p,p<10->cA (next p))(pl:Int):cA (K1 next pl):=Eg hn 10 (bD _)
theorem Tc {next:Nat->Int}(hn:∀p,p<10->cA (next p)){pl:Int}(hp:cA pl)(q:Nat):inS (K1 next pl) q=true↔∃p,p<10/\inS pl p=true/\inS (next p) q=true:=Tg hn hp q 10 (bD _)
theorem yP {pl:Int}(hp:cA pl):∀(l:List Int) (k:Nat),(∀x∈l,cA x)->
  (wF l pl k=0/\∀x∈l,¬ ∃p,inS pl p=true/\inS x p=true)\/
  ∃r,wF l pl k=k+r+1/\r<l.length/\(∃p,inS pl p=true/\inS (l.getD r 0) p=true)/\∀r',r'<r->¬ ∃p,inS pl p=true/\inS (l.getD r' 0) p=true:=by
 intro l
 induction l with
 | nil=>intro k _;exact .inl ⟨rfl,fun x hx=>absurd hx aR⟩
 | cons a l ih=>
  intro k hl;rw[wF];have ha:=hl a List.mem_cons_self;by_cases e:gZ pl a=0
  ·rw[if_pos e];have hno:¬ ∃p,inS pl p=true/\inS a p=true:=fun h=>(Gq hp ha).2 h e
   rcases ih (k+1) (fun x hx=>hl x (List.mem_cons_of_mem _ hx))with⟨h1,h2⟩ | ⟨r,h1,h2,h3,h4⟩
   ·refine .inl ⟨h1,fun x hx=> ?_⟩;rcases cN.1 hx with e2 | e2
    ·rw[e2];exact hno
    ·exact h2 x e2
   ·refine .inr ⟨r+1,by omega,by simp;omega,by simpa using h3,fun r' hr'=> ?_⟩
    cases r' with
    | zero=>simpa using hno
    | succ j=>have:=h4 j (by omega);simpa using this
  ·rw[if_neg e];exact .inr ⟨0,by omega,by simp,by simpa using(Gq hp ha).1 e,fun r' hr'=>by omega⟩
end Go.Stn
namespace Go.Stn
inductive Rx where
 | pl (f:Nat->Bool)
 | cat (a b:Rx)
 | alt (a b:Rx)
 | opt (a:Rx)
 | plus (a:Rx)
 | star (a:Rx)
inductive nS (L:List Nat->Prop):List Nat->Prop where
 | one {w:List Nat}:L w->nS L w
 | more {u v:List Nat}:L u->nS L v->nS L (u++v)
def W:Rx->List Nat->Prop
 | .pl f,w=>∃b,w= [b]/\b<256/\f b=true
 | .cat a b,w=>∃u v,w=u++v/\W a u/\W b v
 | .alt a b,w=>W a w\/W b w
 | .opt a,w=>w= []\/W a w
 | .plus a,w=>nS (W a) w
 | .star a,w=>w= []\/nS (W a) w
def Rx.np:Rx->Nat
 | .pl _=>1
 | .cat a b=>a.np+b.np
 | .alt a b=>a.np+b.np
 | .opt a=>a.np
 | .plus a=>a.np
 | .star a=>a.np
def Rx.nul:Rx->Bool
 | .pl _=>false
 | .cat a b=>a.nul && b.nul
 | .alt a b=>a.nul || b.nul
 | .opt _=>true
 | .plus a=>a.nul
 | .star _=>true
def Rx.fst:Rx->Nat->Nat->Prop
 | .pl _,k,p=>p=k
 | .cat a b,k,p=>a.fst k p\/(a.nul=true/\b.fst (k+a.np) p)
 | .alt a b,k,p=>a.fst k p\/b.fst (k+a.np) p
 | .opt a,k,p=>a.fst k p
 | .plus a,k,p=>a.fst k p
 | .star a,k,p=>a.fst k p
def Rx.lst:Rx->Nat->Nat->Prop
 | .pl _,k,p=>p=k
 | .cat a b,k,p=>(a.lst k p/\b.nul=true)\/b.lst (k+a.np) p
 | .alt a b,k,p=>a.lst k p\/b.lst (k+a.np) p
 | .opt a,k,p=>a.lst k p
 | .plus a,k,p=>a.lst k p
 | .star a,k,p=>a.lst k p
def Rx.fol:Rx->Nat->Nat->Nat->Prop
 | .pl _,_,_,_=>False
 | .cat a b,k,p,q=>a.fol k p q\/b.fol (k+a.np) p q\/(a.lst k p/\b.fst (k+a.np) q)
 | .alt a b,k,p,q=>a.fol k p q\/b.fol (k+a.np) p q
 | .opt a,k,p,q=>a.fol k p q
 | .plus a,k,p,q=>a.fol k p q\/(a.lst k p/\a.fst k q)
 | .star a,k,p,q=>a.fol k p q\/(a.lst k p/\a.fst k q)
def Rx.rest:Rx->Nat->Nat->List Nat->Prop
 | .pl _,k,p,v=>p=k/\v= []
 | .cat a b,k,p,v=>(∃v1 v2,v=v1++v2/\a.rest k p v1/\W b v2)\/b.rest (k+a.np) p v
 | .alt a b,k,p,v=>a.rest k p v\/b.rest (k+a.np) p v
 | .opt a,k,p,v=>a.rest k p v
 | .plus a,k,p,v=>∃v1 v2,v=v1++v2/\a.rest k p v1/\(v2= []\/nS (W a) v2)
 | .star a,k,p,v=>∃v1 v2,v=v1++v2/\a.rest k p v1/\(v2= []\/nS (W a) v2)
def Rx.says (A:Nat->Nat->Bool):Rx->Nat->Prop
 | .pl f,k=>∀b,b<256->A k b=f b
 | .cat a b,k=>a.says A k/\b.says A (k+a.np)
 | .alt a b,k=>a.says A k/\b.says A (k+a.np)
 | .opt a,k=>a.says A k
 | .plus a,k=>a.says A k
 | .star a,k=>a.says A k
theorem Rx.np_pos:∀r:Rx,0<r.np
 | .pl _=>Nat.one_pos
 | .cat a b=>by have:=a.np_pos;show 0<a.np+b.np;omega
 | .alt a b=>by have:=a.np_pos;show 0<a.np+b.np;omega
 | .opt a=>a.np_pos
 | .plus a=>a.np_pos
 | .star a=>a.np_pos
theorem Rx.fst_in:∀(r:Rx) (k p:Nat),r.fst k p->k<=p/\p<k+r.np
 | .pl _,k,p,h=>by have h:p=k:=h;show k<=p/\p<k+1;omega
 | .cat a b,k,p,h=>by
  show k<=p/\p<k+(a.np+b.np);rcases h with h | ⟨_,h⟩
  ·have:=a.fst_in k p h;omega
  ·have:=b.fst_in _ p h;omega
 | .alt a b,k,p,h=>by
  show k<=p/\p<k+(a.np+b.np);rcases h with h | h
  ·have:=a.fst_in k p h;omega
  ·have:=b.fst_in _ p h;omega
 | .opt a,k,p,h=>a.fst_in k p h
 | .plus a,k,p,h=>a.fst_in k p h
 | .star a,k,p,h=>a.fst_in k p h
theorem Rx.lst_in:∀(r:Rx) (k p:Nat),r.lst k p->k<=p/\p<k+r.np
 | .pl _,k,p,h=>by have h:p=k:=h;show k<=p/\p<k+1;omega
 | .cat a b,k,p,h=>by
  show k<=p/\p<k+(a.np+b.np);rcases h with⟨h,_⟩ | h
  ·have:=a.lst_in k p h;omega
  ·have:=b.lst_in _ p h;omega
 | .alt a b,k,p,h=>by
  show k<=p/\p<k+(a.np+b.np);rcases h with h | h
  ·have:=a.lst_in k p h;omega
  ·have:=b.lst_in _ p h;omega
 | .opt a,k,p,h=>a.lst_in k p h
 | .plus a,k,p,h=>a.lst_in k p h
 | .star a,k,p,h=>a.lst_in k p h
theorem Rx.fol_in:∀(r:Rx) (k p q:Nat),r.fol k p q->(k<=p/\p<k+r.np)/\(k<=q/\q<k+r.np)
 | .pl _,k,p,q,h=>False.elim h
 | .cat a b,k,p,q,h=>by
  show(k<=p/\p<k+(a.np+b.np))/\(k<=q/\q<k+(a.np+b.np));rcases h with h | h | ⟨h,h'⟩
  ·have:=a.fol_in k p q h;omega
  ·have:=b.fol_in _ p q h;omega
  ·have:=a.lst_in k p h;have:=b.fst_in _ q h';omega
 | .alt a b,k,p,q,h=>by
  show(k<=p/\p<k+(a.np+b.np))/\(k<=q/\q<k+(a.np+b.np));rcases h with h | h
  ·have:=a.fol_in k p q h;omega
  ·have:=b.fol_in _ p q h;omega
 | .opt a,k,p,q,h=>a.fol_in k p q h
 | .plus a,k,p,q,h=>by
  rcases h with h | ⟨h,h'⟩
  ·exact a.fol_in k p q h
  ·exact⟨a.lst_in k p h,a.fst_in k q h'⟩
 | .star a,k,p,q,h=>by
  rcases h with h | ⟨h,h'⟩
  ·exact a.fol_in k p q h
  ·exact⟨a.lst_in k p h,a.fst_in k q h'⟩
theorem Rx.rest_in:∀(r:Rx) (k p:Nat) (v:List Nat),r.rest k p v->k<=p/\p<k+r.np
 | .pl _,k,p,v,h=>by have h:p=k:=h.1;show k<=p/\p<k+1;omega
 | .cat a b,k,p,v,h=>by
  show k<=p/\p<k+(a.np+b.np);rcases h with⟨v1,_,_,h,_⟩ | h
  ·have:=a.rest_in k p v1 h;omega
  ·have:=b.rest_in _ p v h;omega
 | .alt a b,k,p,v,h=>by
  show k<=p/\p<k+(a.np+b.np);rcases h with h | h
  ·have:=a.rest_in k p v h;omega
  ·have:=b.rest_in _ p v h;omega
 | .opt a,k,p,v,h=>a.rest_in k p v h
 | .plus a,k,p,v,h=>by obtain⟨v1,_,_,h,_⟩:=h;exact a.rest_in k p v1 h
 | .star a,k,p,v,h=>by obtain⟨v1,_,_,h,_⟩:=h;exact a.rest_in k p v1 h
theorem So {L:List Nat->Prop}:∀{w:List Nat},nS L w->w= []->L []:=by
 intro w h
 induction h with
 | one h=>intro e;rw[e]at h;exact h
 | more hu _ ih=>intro e;rw[aO]at e;rw[e.1]at hu;exact hu
theorem zJ {L:List Nat->Prop}:∀{w:List Nat},nS L w->∀b v,w=b::v->∃v1 v2,v=v1++v2/\L (b::v1)/\(v2= []\/nS L v2):=by
 intro w h
 induction h with
 | one h=>intro b v e;rw[e]at h;exact⟨v,[],(bK v).symm,h,.inl rfl⟩
 | @more u x hu hx ih=>
  intro b v e
  cases u with
  | nil=>exact ih b v e
  | cons c u'=>
   rw[bC]at e;injection e with e1 e2;subst e1;exact⟨u',x,e2.symm,hu,.inr hx⟩
theorem Af {L:List Nat->Prop}{u v:List Nat}(h:L u)(k:v= []\/nS L v):nS L (u++v):=by
 rcases k with rfl | k
 ·rw[bK];exact .one h
 ·exact .more h k
theorem Rx.nul_iff:∀r:Rx,r.nul=true↔W r []
 | .pl f=>by
  constructor
  ·intro h;cases h
  ·rintro⟨b,h,_⟩;cases h
 | .cat a b=>by
  show(a.nul && b.nul)=true↔_;rw[cF,a.nul_iff,b.nul_iff];constructor
  ·rintro⟨h1,h2⟩;exact⟨[],[],rfl,h1,h2⟩
  ·rintro⟨u,v,e,h1,h2⟩;have:=aO.1 e.symm;rw[this.1]at h1;rw[this.2]at h2;exact⟨h1,h2⟩
 | .alt a b=>by
  show(a.nul || b.nul)=true↔(W a []\/W b []);rw[cL,a.nul_iff,b.nul_iff]
 | .opt a=>⟨fun _=> .inl rfl,fun _=>rfl⟩
 | .plus a=>by
  show a.nul=true↔nS (W a) [];rw[a.nul_iff];exact⟨fun h=> .one h,fun h=>So h rfl⟩
 | .star a=>⟨fun _=> .inl rfl,fun _=>rfl⟩
theorem Rx.begins {A:Nat->Nat->Bool}:∀(r:Rx) (k:Nat),r.says A k->∀b v,(W r (b::v)↔∃p,r.fst k p/\b<256/\A p b=true/\r.rest k p v)
 | .pl f,k,hA,b,v=>by
  constructor
  ·rintro⟨c,e,h1,h2⟩;injection e with e1 e2;subst e1;exact⟨k,rfl,h1,by rw[hA b h1];exact h2,rfl,e2⟩
  ·rintro⟨p,e,h1,h2,_,h4⟩;have e:p=k:=e;subst e;exact⟨b,by rw[h4],h1,by rw[←hA b h1];exact h2⟩
 | .cat x y,k,hA,b,v=>by
  have ix:=x.begins k hA.1 b;have iy:=y.begins (k+x.np) hA.2 b;constructor
  ·rintro⟨u,w,e,h1,h2⟩
   cases u with
   | nil=>
    rw[bN]at e;rw[←e]at h2;obtain⟨p,a1,a2,a3,a4⟩:=(iy v).1 h2;exact⟨p,.inr ⟨x.nul_iff.2 h1,a1⟩,a2,a3,.inr a4⟩
   | cons c u'=>
    rw[bC]at e;injection e with e1 e2;subst e1;obtain⟨p,a1,a2,a3,a4⟩:=(ix u').1 h1;exact⟨p,.inl a1,a2,a3,.inl ⟨u',w,e2,a4,h2⟩⟩
  ·rintro⟨p,a1,a2,a3,a4⟩;rcases a4 with⟨v1,v2,e,h1,h2⟩ | h
   ·rcases a1 with a1 | ⟨_,a1⟩
    ·exact⟨b::v1,v2,by rw[e];rfl,(ix v1).2 ⟨p,a1,a2,a3,h1⟩,h2⟩
    ·exfalso;have:=y.fst_in _ p a1;have:=x.rest_in k p v1 h1;omega
   ·rcases a1 with a1 | ⟨hn,a1⟩
    ·exfalso;have:=x.fst_in _ p a1;have:=y.rest_in _ p v h;omega
    ·exact⟨[],b::v,rfl,x.nul_iff.1 hn,(iy v).2 ⟨p,a1,a2,a3,h⟩⟩
 | .alt x y,k,hA,b,v=>by
  have ix:=x.begins k hA.1 b v;have iy:=y.begins (k+x.np) hA.2 b v;constructor
  ·rintro(h | h)
   ·obtain⟨p,a1,a2,a3,a4⟩:=ix.1 h;exact⟨p,.inl a1,a2,a3,.inl a4⟩
   ·obtain⟨p,a1,a2,a3,a4⟩:=iy.1 h;exact⟨p,.inr a1,a2,a3,.inr a4⟩
  ·rintro⟨p,a1,a2,a3,a4⟩;rcases a1 with a1 | a1<;> rcases a4 with a4 | a4
   ·exact .inl (ix.2 ⟨p,a1,a2,a3,a4⟩)
   ·exfalso;have:=x.fst_in _ p a1;have:=y.rest_in _ p v a4;omega
   ·exfalso;have:=y.fst_in _ p a1;have:=x.rest_in _ p v a4;omega
   ·exact .inr (iy.2 ⟨p,a1,a2,a3,a4⟩)
 | .opt x,k,hA,b,v=>by
  have ix:=x.begins k hA b v;constructor
  ·rintro(h | h)
   ·cases h
   ·exact ix.1 h
  ·intro h;exact .inr (ix.2 h)
 | .plus x,k,hA,b,v=>by
  have ix:=x.begins k hA b;constructor
  ·intro h;obtain⟨v1,v2,e,h1,h2⟩:=zJ h b v rfl;obtain⟨p,a1,a2,a3,a4⟩:=(ix v1).1 h1;exact⟨p,a1,a2,a3,v1,v2,e,a4,h2⟩
  ·rintro⟨p,a1,a2,a3,v1,v2,e,a4,h2⟩;have:=Af (L:=W x) ((ix v1).2 ⟨p,a1,a2,a3,a4⟩) h2;rw[e];exact this
 | .star x,k,hA,b,v=>by
  have ix:=x.begins k hA b;constructor
  ·rintro(h | h)
   ·cases h
   ·obtain⟨v1,v2,e,h1,h2⟩:=zJ h b v rfl;obtain⟨p,a1,a2,a3,a4⟩:=(ix v1).1 h1;exact⟨p,a1,a2,a3,v1,v2,e,a4,h2⟩
  ·rintro⟨p,a1,a2,a3,v1,v2,e,a4,h2⟩;have:=Af (L:=W x) ((ix v1).2 ⟨p,a1,a2,a3,a4⟩) h2;rw[e];exact .inr this
theorem Rx.ends:∀(r:Rx) (k p:Nat),r.rest k p []↔r.lst k p
 | .pl _,k,p=>⟨fun h=>h.1,fun h=>⟨h,rfl⟩⟩
 | .cat a b,k,p=>by
  constructor
  ·rintro(⟨v1,v2,e,h1,h2⟩ | h)
   ·have e2:=aO.1 e.symm;rw[e2.1]at h1;rw[e2.2]at h2;exact .inl ⟨(a.ends k p).1 h1,b.nul_iff.2 h2⟩
   ·exact .inr ((b.ends _ p).1 h)
  ·rintro(⟨h1,h2⟩ | h)
   ·exact .inl ⟨[],[],rfl,(a.ends k p).2 h1,b.nul_iff.1 h2⟩
   ·exact .inr ((b.ends _ p).2 h)
 | .alt a b,k,p=>by
  constructor
  ·rintro(h | h)
   ·exact .inl ((a.ends k p).1 h)
   ·exact .inr ((b.ends _ p).1 h)
  ·rintro(h | h)
   ·exact .inl ((a.ends k p).2 h)
   ·exact .inr ((b.ends _ p).2 h)
 | .opt a,k,p=>a.ends k p
 | .plus a,k,p=>by
  constructor
  ·rintro⟨v1,v2,e,h1,_⟩;rw[(aO.1 e.symm).1]at h1;exact(a.ends k p).1 h1
  ·intro h;exact⟨[],[],rfl,(a.ends k p).2 h,.inl rfl⟩
 | .star a,k,p=>by
  constructor
  ·rintro⟨v1,v2,e,h1,_⟩;rw[(aO.1 e.symm).1]at h1;exact(a.ends k p).1 h1
  ·intro h;exact⟨[],[],rfl,(a.ends k p).2 h,.inl rfl⟩
theorem U0 {A:Nat->Nat->Bool}(x:Rx)(k:Nat)(hA:x.says A k)(ix:∀p b v,x.rest k p (b::v)↔∃q,x.fol k p q/\b<256/\A q b=true/\x.rest k q v)(p b:Nat)(v:List Nat):
  (∃v1 v2,b::v=v1++v2/\x.rest k p v1/\(v2= []\/nS (W x) v2))↔∃q,(x.fol k p q\/(x.lst k p/\x.fst k q))/\b<256/\A q b=true/\∃v1 v2,v=v1++v2/\x.rest k q v1/\(v2= []\/nS (W x) v2):=by
 constructor
 ·rintro⟨v1,v2,e,h1,h2⟩
  cases v1 with
  | nil=>
   rw[bN]at e;rcases h2 with h2 | h2
   ·rw[h2]at e;cases e
   ·obtain⟨w1,w2,e2,g1,g2⟩:=zJ h2 b v e.symm;obtain⟨q,a1,a2,a3,a4⟩:=(x.begins k hA b w1).1 g1;exact⟨q,.inr ⟨(x.ends k p).1 h1,a1⟩,a2,a3,w1,w2,e2,a4,g2⟩
  | cons c v1'=>
   rw[bC]at e;injection e with e1 e2;subst e1;obtain⟨q,a1,a2,a3,a4⟩:=(ix p b v1').1 h1;exact⟨q,.inl a1,a2,a3,v1',v2,e2,a4,h2⟩
 ·rintro⟨q,hq,a2,a3,v1,v2,e,a4,h2⟩;rcases hq with hq | ⟨hl,hf⟩
  ·exact⟨b::v1,v2,by rw[e];rfl,(ix p b v1).2 ⟨q,hq,a2,a3,a4⟩,h2⟩
  ·refine⟨[],b::v,rfl,(x.ends k p).2 hl,.inr ?_⟩;have:=Af (L:=W x) ((x.begins k hA b v1).2 ⟨q,hf,a2,a3,a4⟩) h2;rw[e];exact this
theorem Rx.goes {A:Nat->Nat->Bool}:∀(r:Rx) (k:Nat),r.says A k->∀p b v,(r.rest k p (b::v)↔∃q,r.fol k p q/\b<256/\A q b=true/\r.rest k q v)
 | .pl f,k,_,p,b,v=>by
  constructor
  ·rintro⟨_,h⟩;cases h
  ·rintro⟨q,h,_⟩;exact False.elim h
 | .cat x y,k,hA,p,b,v=>by
  have ix:=x.goes k hA.1 p b;have iy:=y.goes (k+x.np) hA.2 p b v;constructor
  ·rintro(⟨v1,v2,e,h1,h2⟩ | h)
   ·cases v1 with
    | nil=>
     rw[bN]at e;rw[←e]at h2;obtain⟨q,a1,a2,a3,a4⟩:=(y.begins _ hA.2 b v).1 h2;exact⟨q,.inr (.inr ⟨(x.ends k p).1 h1,a1⟩),a2,a3,.inr a4⟩
    | cons c v1'=>
     rw[bC]at e;injection e with e1 e2;subst e1;obtain⟨q,a1,a2,a3,a4⟩:=(ix v1').1 h1;exact⟨q,.inl a1,a2,a3,.inl ⟨v1',v2,e2,a4,h2⟩⟩
   ·obtain⟨q,a1,a2,a3,a4⟩:=iy.1 h;exact⟨q,.inr (.inl a1),a2,a3,.inr a4⟩
  ·rintro⟨q,hq,a2,a3,a4⟩;rcases a4 with⟨v1,v2,e,h1,h2⟩ | h
   ·have hqx:=x.rest_in k q v1 h1;rcases hq with hq | hq | ⟨_,hq⟩
    ·exact .inl ⟨b::v1,v2,by rw[e];rfl,(ix v1).2 ⟨q,hq,a2,a3,h1⟩,h2⟩
    ·exfalso;have:=(y.fol_in _ p q hq).2;omega
    ·exfalso;have:=y.fst_in _ q hq;omega
   ·have hqy:=y.rest_in _ q v h;rcases hq with hq | hq | ⟨hl,hq⟩
    ·exfalso;have:=(x.fol_in _ p q hq).2;omega
    ·exact .inr (iy.2 ⟨q,hq,a2,a3,h⟩)
    ·exact .inl ⟨[],b::v,rfl,(x.ends k p).2 hl,(y.begins _ hA.2 b v).2 ⟨q,hq,a2,a3,h⟩⟩
 | .alt x y,k,hA,p,b,v=>by
  have ix:=x.goes k hA.1 p b v;have iy:=y.goes (k+x.np) hA.2 p b v;constructor
  ·rintro(h | h)
   ·obtain⟨q,a1,a2,a3,a4⟩:=ix.1 h;exact⟨q,.inl a1,a2,a3,.inl a4⟩
   ·obtain⟨q,a1,a2,a3,a4⟩:=iy.1 h;exact⟨q,.inr a1,a2,a3,.inr a4⟩
  ·rintro⟨q,hq,a2,a3,a4⟩;rcases hq with hq | hq<;> rcases a4 with a4 | a4
   ·exact .inl (ix.2 ⟨q,hq,a2,a3,a4⟩)
   ·exfalso;have:=(x.fol_in _ p q hq).2;have:=y.rest_in _ q v a4;omega
   ·exfalso;have:=(y.fol_in _ p q hq).2;have:=x.rest_in _ q v a4;omega
   ·exact .inr (iy.2 ⟨q,hq,a2,a3,a4⟩)
 | .opt x,k,hA,p,b,v=>x.goes k hA p b v
 | .plus x,k,hA,p,b,v=>U0 x k hA (x.goes k hA) p b v
 | .star x,k,hA,p,b,v=>U0 x k hA (x.goes k hA) p b v
theorem Rx.word {A:Nat->Nat->Bool}:∀(r:Rx) (k:Nat),r.says A k->(∀p,k<=p->p<k+r.np->∃b,b<256/\A p b=true)->∃w,W r w
 | .pl f,k,hA,h=>by
  obtain⟨b,h1,h2⟩:=h k (bD _) (by show k<k+1;omega);exact⟨[b],b,rfl,h1,by rw[←hA b h1];exact h2⟩
 | .cat x y,k,hA,h=>by
  obtain⟨u,hu⟩:=x.word k hA.1 (fun p h1 h2=>h p h1 (by show p<k+(x.np+y.np);omega));obtain⟨v,hv⟩:=y.word (k+x.np) hA.2 (fun p h1 h2=>h p (by omega) (by show p<k+(x.np+y.np);omega));exact⟨u++v,u,v,rfl,hu,hv⟩
 | .alt x y,k,hA,h=>by
  obtain⟨u,hu⟩:=x.word k hA.1 (fun p h1 h2=>h p h1 (by show p<k+(x.np+y.np);omega));exact⟨u,.inl hu⟩
 | .opt x,_,_,_=>⟨[],.inl rfl⟩
 | .plus x,k,hA,h=>by
  obtain⟨u,hu⟩:=x.word k hA h;exact⟨u,.one hu⟩
 | .star x,_,_,_=>⟨[],.inl rfl⟩
theorem Rx.alive {A:Nat->Nat->Bool}:∀(r:Rx) (k:Nat),r.says A k->(∀p,k<=p->p<k+r.np->∃b,b<256/\A p b=true)->∀p,k<=p->p<k+r.np->∃v,r.rest k p v
 | .pl f,k,_,_,p,h1,h2=>by
  have h2:p<k+1:=h2;exact⟨[],by show p=k;omega,rfl⟩
 | .cat x y,k,hA,h,p,h1,h2=>by
  have h2:p<k+(x.np+y.np):=h2;by_cases e:p<k+x.np
  ·obtain⟨v1,hv1⟩:=x.alive k hA.1 (fun p h1 h2=>h p h1 (by show p<k+(x.np+y.np);omega)) p h1 e;obtain⟨v2,hv2⟩:=y.word (k+x.np) hA.2 (fun p h1 h2=>h p (by omega) (by show p<k+(x.np+y.np);omega));exact⟨v1++v2,.inl ⟨v1,v2,rfl,hv1,hv2⟩⟩
  ·obtain⟨v,hv⟩:=y.alive (k+x.np) hA.2 (fun p h1 h2=>h p (by omega) (by show p<k+(x.np+y.np);omega)) p (by omega) (by omega);exact⟨v,.inr hv⟩
 | .alt x y,k,hA,h,p,h1,h2=>by
  have h2:p<k+(x.np+y.np):=h2;by_cases e:p<k+x.np
  ·obtain⟨v,hv⟩:=x.alive k hA.1 (fun p h1 h2=>h p h1 (by show p<k+(x.np+y.np);omega)) p h1 e;exact⟨v,.inl hv⟩
  ·obtain⟨v,hv⟩:=y.alive (k+x.np) hA.2 (fun p h1 h2=>h p (by omega) (by show p<k+(x.np+y.np);omega)) p (by omega) (by omega);exact⟨v,.inr hv⟩
 | .opt x,k,hA,h,p,h1,h2=>x.alive k hA h p h1 h2
 | .plus x,k,hA,h,p,h1,h2=>by
  obtain⟨v,hv⟩:=x.alive k hA h p h1 h2;exact⟨v,v,[],(bK v).symm,hv,.inl rfl⟩
 | .star x,k,hA,h,p,h1,h2=>by
  obtain⟨v,hv⟩:=x.alive k hA h p h1 h2;exact⟨v,v,[],(bK v).symm,hv,.inl rfl⟩
theorem Rx.rest_lets {A:Nat->Nat->Bool}(r:Rx)(k:Nat)(hA:r.says A k):∀(v:List Nat) (p:Nat),r.rest k p v->∀b∈v,b<256
 | [],_,_,b,hb=>absurd hb aR
 | c::v,p,h,b,hb=>by
  obtain⟨q,_,h2,_,h4⟩:=(r.goes k hA p c v).1 h;rcases cN.1 hb with e | e
  ·rw[e];exact h2
  ·exact Rx.rest_lets r k hA v q h4 b e
end Go.Stn
