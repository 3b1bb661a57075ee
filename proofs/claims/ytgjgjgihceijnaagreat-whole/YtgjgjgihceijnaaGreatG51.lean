import Derived.Test.YtgjgjgihceijnaaGreatG31
import Derived.Test.YtgjgjgihceijnaaGreatG35
import Derived.Test.YtgjgjgihceijnaaGreatG36
import Derived.Test.YtgjgjgihceijnaaGreatG26
open Classical renaming byContradiction->aL
open Nat renaming add_zero->aO,le_refl->aR,add_assoc->bC
open List renaming length_cons->aT
namespace Go.Stn
def J9 (p:Int):Prop:=p= -1\/p=10\/p=32
def ShB (s x:ByteArray)(a:Nat):Prop:=∀i,i<=x.size->(aJ s (a+i)=aJ x i)\/(J9 (aJ x i)/\J9 (aJ s (a+i)))
def shO {α:Type}(a:Nat):Option (α×Nat)->Option (α×Nat)
 | none=>none
 | some (v,j)=>some (v,a+j)
variable {s x:ByteArray} {a i:Nat}
theorem ShB.is (h:ShB s x a)(hi:i<=x.size){b:Int}(hb:b≠ -1/\b≠10/\b≠32):isB s b (a+i)=isB x b i:=by
 unfold isB;rcases h i hi with e | ⟨e1,e2⟩
 ·rw[e]
 ·have h1:¬aJ s (a+i)=b:=fun e=>by rcases e2 with k | k | k<;> omega
  have h2:¬aJ x i=b:=fun e=>by rcases e1 with k | k | k<;> omega
  rw[decide_eq_false h1,decide_eq_false h2]
theorem rW {p:Int}(h:J9 p):gY p=false:=by
 rcases h with rfl | rfl | rfl<;> rfl
theorem ShB.vis (h:ShB s x a)(hi:i<=x.size):gY (aJ s (a+i))=gY (aJ x i)/\(gY (aJ x i)=true->aJ s (a+i)=aJ x i):=by
 rcases h i hi with e | ⟨e1,e2⟩
 ·rw[e];exact⟨rfl,fun _=>rfl⟩
 ·rw[rW e1,rW e2];exact⟨rfl,fun h=>by cases h⟩
theorem ShB.plain (h:ShB s x a)(hi:i<=x.size)(sp:ByteArray):dY (aJ s (a+i)) sp=dY (aJ x i) sp/\(dY (aJ x i) sp=true->aJ s (a+i)=aJ x i):=by
 rcases h i hi with e | ⟨e1,e2⟩
 ·rw[e];exact⟨rfl,fun _=>rfl⟩
 ·unfold dY;rw[rW e1,rW e2];exact⟨rfl,fun h=>by simp at h⟩
theorem Wg (h:ShB s x a)(hi:i<=x.size):wD s (a+i)=shO a (wD x i):=by
 unfold wD;rw[h.is hi (b:=110) (by decide),h.is hi (b:=115) (by decide)];by_cases h1:isB x 110 i=true
 ·rw[if_pos h1,if_pos h1];rfl
 ·rw[if_neg h1,if_neg h1];by_cases h2:isB x 115 i=true
  ·rw[if_pos h2,if_pos h2];rfl
  ·rw[if_neg h2,if_neg h2];obtain⟨v1,v2⟩:=h.vis hi;by_cases h3:gY (aJ x i)=true
   ·rw[v2 h3];split
    ·rfl
    ·rfl
   ·rw[if_neg (fun e=>h3 (by rw[←v1];exact e.1)),if_neg (fun e=>h3 e.1)];rfl
theorem zM (h:ShB s x a)(hi:i<=x.size)(sp:ByteArray):cM s sp (a+i)=shO a (cM x sp i):=by
 unfold cM;rw[h.is hi (b:=92) (by decide)];by_cases h1:isB x 92 i=true
 ·rw[if_pos h1,if_pos h1];have:=oF (by omega) h1;rw[show a+i+1=a+(i+1) by omega];exact Wg h (by omega)
 ·rw[if_neg h1,if_neg h1];obtain⟨v1,v2⟩:=h.plain hi sp;rw[v1];by_cases h3:dY (aJ x i) sp=true
  ·rw[if_pos h3,if_pos h3,v2 h3];rfl
  ·rw[if_neg h3,if_neg h3];rfl
theorem Q4 (h:ShB s x a)(hi:i<=x.size)(f:Nat->Bool):cW s f (a+i)=shO a (cW x f i):=by
 unfold cW;rw[zM h hi]
 cases e:cM x dN i with
 | none=>rfl
 | some y=>
  obtain⟨v,j⟩:=y;have hj:=tZ _ _ _ _ _ e;show(if isB s 45 (a+j)=false then _ else _)=shO a (if isB x 45 j=false then _ else _);rw[h.is hj.2 (b:=45) (by decide)];by_cases h1:isB x 45 j=false
  ·rw[if_pos h1,if_pos h1];rfl
  ·rw[if_neg h1,if_neg h1];have hlt:=oF (b:=45) (by omega) (by simpa using h1);rw[show a+j+1=a+(j+1) by omega,zM h (by omega)]
   cases cM x dN (j+1)with
   | none=>rfl
   | some y2=>
    obtain⟨v2,j2⟩:=y2;show(if v2<v then none else some (cK f v v2,a+j2))=shO a (if v2<v then none else some (cK f v v2,j2));split<;> rfl
theorem Gj (h:ShB s x a):∀(n m:Nat) (f:Nat->Bool) (i:Nat),i<=x.size->x.size<n+i->x.size<m+i->eV s m f (a+i)=shO a (eV x n f i):=by
 intro n
 induction n with
 | zero=>intro m f i h1 h2;omega
 | succ n ih=>
  intro m f i hi hn hm;obtain⟨m,rfl⟩:∃k,m=k+1:=⟨m - 1,by omega⟩
  rw[eV,eV,h.is hi (b:=93) (by decide)];by_cases h1:isB x 93 i=true
  ·rw[if_pos h1,if_pos h1];rfl
  ·rw[if_neg h1,if_neg h1,Q4 h hi]
   cases e:cW x f i with
   | none=>rfl
   | some y=>
    obtain⟨g,j⟩:=y;have hj:=uK _ _ _ _ _ e;exact ih m g j hj.2 (by omega) (by omega)
theorem Jq (h:ShB s x a)(hi:i<=x.size)(hz:x.size<=s.size):jX s (a+i)=shO a (jX x i):=by
 unfold jX;rw[Q4 h hi]
 cases e:cW x aP i with
 | none=>rfl
 | some y=>
  obtain⟨g,j⟩:=y;have hj:=uK _ _ _ _ _ e;exact Gj h (x.size+1) (s.size+1) g j hj.2 (by omega) (by omega)
theorem Vs (h:ShB s x a)(hi:i<=x.size)(hz:x.size<=s.size):wB s (a+i)=shO a (wB x i):=by
 unfold wB;rw[h.is hi (b:=94) (by decide)];by_cases h1:isB x 94 i=true
 ·have hlt:=oF (by omega) h1;rw[if_pos h1,if_pos h1,show a+i+1=a+(i+1) by omega,Jq h (by omega) hz]
  cases jX x (i+1)with
  | none=>rfl
  | some y=>rfl
 ·rw[if_neg h1,if_neg h1];exact Jq h hi hz
theorem Gp (h:ShB s x a)(hi:i<=x.size)(hz:x.size<=s.size):cD s (a+i)=shO a (cD x i):=by
 unfold cD;rw[h.is hi (b:=91) (by decide),h.is hi (b:=46) (by decide)];by_cases h1:isB x 91 i=true
 ·have hlt:=oF (by omega) h1;rw[if_pos h1,if_pos h1,show a+i+1=a+(i+1) by omega];exact Vs h (by omega) hz
 ·rw[if_neg h1,if_neg h1];by_cases h2:isB x 46 i=true
  ·rw[if_pos h2,if_pos h2];rfl
  ·rw[if_neg h2,if_neg h2,zM h hi]
   cases cM x dM i with
   | none=>rfl
   | some y=>rfl
def ShE (x:ByteArray)(a lo:Nat)(eS eX:Nat->Option (Rx×Nat)):Prop:=∀i,lo<=i->i<=x.size->eS (a+i)=shO a (eX i)
theorem Ss {eS eX:Nat->Option (Rx×Nat)}{lo:Nat}(h:ShB s x a)(hz:x.size<=s.size)(hx:nD x eX)(he:ShE x a (lo+1) eS eX):ShE x a lo (fI s eS) (fI x eX):=fun i hl hi=>by
 unfold fI;rw[h.is hi (b:=40) (by decide)];by_cases h1:isB x 40 i=true
 ·have hlt:=oF (by omega) h1;rw[if_pos h1,if_pos h1,show a+i+1=a+(i+1) by omega,he (i+1) (by omega) (by omega)]
  cases e:eX (i+1)with
  | none=>rfl
  | some y=>
   obtain⟨r,j⟩:=y;have hj:=hx _ _ _ e;show(if isB s 41 (a+j)=true then _ else _)=shO a (if isB x 41 j=true then _ else _);rw[h.is hj.2 (b:=41) (by decide)];split<;> rfl
 ·rw[if_neg h1,if_neg h1,Gp h hi hz]
  cases cD x i with
  | none=>rfl
  | some y=>rfl
theorem Ub (h:ShB s x a)(hi:i<=x.size):fN (aJ s (a+i))=fN (aJ x i):=by
 rcases h i hi with e | ⟨e1,e2⟩
 ·rw[e]
 ·have hb:∀p,J9 p->fN p=0:=fun p hp=>by rcases hp with rfl | rfl | rfl<;> rfl
  rw[hb _ e1,hb _ e2]
theorem Ao {eS eX:Nat->Option (Rx×Nat)}{lo:Nat}(h:ShB s x a)(hz:x.size<=s.size)(hx:nD x eX)(he:ShE x a (lo+1) eS eX):ShE x a lo (bY s eS) (bY x eX):=fun i hl hi=>by
 unfold bY;rw[Ss h hz hx he i hl hi]
 cases e:fI x eX i with
 | none=>rfl
 | some y=>
  obtain⟨r,j⟩:=y;have hj:=Ad hx _ _ _ e;show(if fN (aJ s (a+j))=0 then _ else _)=shO a (if fN (aJ x j)=0 then _ else _);rw[Ub h hj.2];split<;> rfl
theorem Eo (h:ShB s x a)(hi:i<=x.size):fL s (a+i)=fL x i:=by
 rcases h i hi with e | ⟨e1,e2⟩
 ·unfold fL;rw[e]
 ·have hb:∀p,J9 p->(decide (p=40\/p=91\/p=46\/p=92) || dY p dM)=false:=fun p hp=>by rcases hp with rfl | rfl | rfl<;> rfl
  unfold fL;rw[hb _ e1,hb _ e2]
theorem Gk {eS eX:Nat->Option (Rx×Nat)}{lo:Nat}(h:ShB s x a)(hz:x.size<=s.size)(hx:nD x eX)(he:ShE x a (lo+1) eS eX):∀(n m:Nat) (r:Rx) (i:Nat),lo<=i->i<=x.size->x.size<n+i->x.size<m+i->fK s eS m r (a+i)=shO a (fK x eX n r i):=by
 intro n
 induction n with
 | zero=>intro m r i _ h1 h2;omega
 | succ n ih=>
  intro m r i hl hi hn hm;obtain⟨m,rfl⟩:∃k,m=k+1:=⟨m - 1,by omega⟩
  rw[fK,fK,Eo h hi];by_cases h1:fL x i=false
  ·rw[if_pos h1,if_pos h1];rfl
  ·rw[if_neg h1,if_neg h1,Ao h hz hx he i hl hi]
   cases e:bY x eX i with
   | none=>rfl
   | some y=>
    obtain⟨r2,j⟩:=y;have hj:=pU hx _ _ _ e;exact ih m _ j (by omega) hj.2 (by omega) (by omega)
theorem Qo {eS eX:Nat->Option (Rx×Nat)}{lo:Nat}(h:ShB s x a)(hz:x.size<=s.size)(hx:nD x eX)(he:ShE x a (lo+1) eS eX):ShE x a lo (oV s eS) (oV x eX):=fun i hl hi=>by
 unfold oV;rw[Ao h hz hx he i hl hi]
 cases e:bY x eX i with
 | none=>rfl
 | some y=>
  obtain⟨r2,j⟩:=y;have hj:=pU hx _ _ _ e;exact Gk h hz hx he (x.size+1) (s.size+1) r2 j (by omega) hj.2 (by omega) (by omega)
theorem Dz {eS eX:Nat->Option (Rx×Nat)}{lo:Nat}(h:ShB s x a)(hz:x.size<=s.size)(hx:nD x eX)(he:ShE x a (lo+1) eS eX):∀(n m:Nat) (r:Rx) (i:Nat),lo<=i->i<=x.size->x.size<n+i->x.size<m+i->dT s eS m r (a+i)=shO a (dT x eX n r i):=by
 intro n
 induction n with
 | zero=>intro m r i _ h1 h2;omega
 | succ n ih=>
  intro m r i hl hi hn hm;obtain⟨m,rfl⟩:∃k,m=k+1:=⟨m - 1,by omega⟩
  rw[dT,dT,h.is hi (b:=124) (by decide)];by_cases h1:isB x 124 i=false
  ·rw[if_pos h1,if_pos h1];rfl
  ·have hlt:=oF (b:=124) (by omega) (by simpa using h1);rw[if_neg h1,if_neg h1,show a+i+1=a+(i+1) by omega,Qo h hz hx he (i+1) (by omega) (by omega)]
   cases e:oV x eX (i+1)with
   | none=>rfl
   | some y=>
    obtain⟨r2,j⟩:=y;have hj:=Aa hx _ _ _ e;exact ih m _ j (by omega) hj.2 (by omega) (by omega)
theorem Tv (h:ShB s x a)(hz:x.size<=s.size):∀(f g:Nat),∀i,x.size<f+i->x.size<g+i->i<=x.size->dS s g (a+i)=shO a (dS x f i):=by
 intro f
 induction f with
 | zero=>intro g i h1 _ h3;omega
 | succ f ih=>
  intro g i hf hg hi;obtain⟨g,rfl⟩:∃k,g=k+1:=⟨g - 1,by omega⟩
  have he:ShE x a (i+1) (dS s g) (dS x f):=fun j hj hjx=>ih g j (by omega) (by omega) hjx
  rw[dS,dS,Qo h hz (qF x f) he i (aR _) hi]
  cases e:oV x (dS x f) i with
  | none=>rfl
  | some y=>
   obtain⟨r2,j⟩:=y;have hj:=Aa (qF x f) _ _ _ e;exact Dz h hz (qF x f) he (x.size+1) (s.size+1) r2 j (by omega) hj.2 (by omega) (by omega)
end Go.Stn
namespace Go.Stn
theorem nE {s:ByteArray}{a b:Nat}(hb:b<=s.size):(s.extract a b).size=b - a:=by rw[ByteArray.size_extract];omega
theorem rQ {s:ByteArray}{a b i:Nat}(hb:b<=s.size)(hi:i<b - a):bt (s.extract a b) i=bt s (a+i):=by
 have h1:i<(s.extract a b).size:=by rw[nE hb];exact hi
 have h2:a+i<s.size:=by omega
 rw[←jE (s.extract a b) i h1,←jE s (a+i) h2];congr 1;exact ByteArray.getElem_extract _
theorem Lx {s:ByteArray}{a b:Nat}(hb:b<=s.size)(hab:a<=b)(he:b=s.size\/bt s b=10\/bt s b=32):ShB s (s.extract a b) a:=fun i hi=>by
 rw[nE hb]at hi;by_cases hlt:i<b - a
 ·left;rw[eY (show a+i<s.size by omega),eY (show i<(s.extract a b).size by rw[nE hb];exact hlt),rQ hb hlt]
 ·right;have e:a+i=b:=by omega
  refine⟨.inl (dA (by rw[nE hb];omega)), ?_⟩;rw[e];by_cases hz:b=s.size
  ·exact .inl (dA (by omega))
  ·rw[eY (by omega)];rcases he with h | h | h
   ·exact absurd h hz
   ·exact .inr (.inl (by omega))
   ·exact .inr (.inr (by omega))
end Go.Stn
namespace Go.Stn
def Rq (s:ByteArray)(c:Nat):Nat->List (Nat×Nat)->Prop
 | a,[]=>a=s.size+1
 | a,p::l=>p.1=a/\a<=p.2/\p.2<=s.size/\(∀j,a<=j->j<p.2->bt s j≠c)/\(p.2=s.size\/bt s p.2=c)/\Rq s c (p.2+1) l
theorem Pr (s:ByteArray)(c:Nat):∀(n fr i:Nat),n+i=s.size+1->fr<=i->(∀j,fr<=j->j<i->bt s j≠c)->(n=0->fr=s.size+1)->Rq s c fr (spl s c n fr i):=by
 intro n
 induction n with
 | zero=>intro fr i _ _ _ h;exact h rfl
 | succ n ih=>
  intro fr i hn hfr hj _;by_cases hc:i=s.size\/bt s i=c
  ·rw[V0 hc];exact⟨rfl,hfr,by show i<=s.size;omega,hj,hc,ih (i+1) (i+1) (by omega) (aR _) (fun j h1 h2=>by omega) (fun h=>by omega)⟩
  ·rw[Et hc];refine ih fr (i+1) (by omega) (by omega) (fun j h1 h2=> ?_) (fun h=> ?_)
   ·by_cases e:j=i
    ·rw[e];exact fun h=>hc (.inr h)
    ·exact hj j h1 (by omega)
   ·exact absurd (.inl (by omega)) hc
theorem B6 (s:ByteArray)(c:Nat):Rq s c 0 (fC s c):=Pr s c (s.size+1) 0 0 (by omega) (aR _) (fun j h1 h2=>by omega) (fun h=>by omega)
end Go.Stn
namespace Go.Proofs.YtgjgjgihceijnaaGreat
open Go.Stn
theorem wN {s x:ByteArray}{a i:Nat}(h:ShB s x a)(hi:i<x.size):eH s (a+i)=if 0<=cH (bt x i)then some (cH (bt x i),a+i+1)else none:=by
 have hp:=eY hi;unfold eH cH;rcases h i (by omega)with e | ⟨e1,e2⟩
 ·rw[e,hp];by_cases hl:65<=bt x i/\bt x i<69
  ·rw[if_pos (by omega),if_pos hl,if_pos (by omega)]
  ·rw[if_neg (by omega),if_neg hl,if_neg (by omega)]
 ·have k1:¬(65<=aJ s (a+i)/\aJ s (a+i)<69):=by rcases e2 with k | k | k<;> omega
  have k2:¬(65<=bt x i/\bt x i<69):=by rw[hp]at e1;rcases e1 with k | k | k<;> omega
  rw[if_neg k1,if_neg k2,if_neg (by omega)]
theorem J1 {s x:ByteArray}{a:Nat}(h:ShB s x a):eH s (a+x.size)=none:=by
 have e1:aJ x x.size= -1:=dA (aR _);unfold eH;rw[if_neg];rcases h x.size (aR _)with e | ⟨_,e2⟩
 ·rw[e,e1];omega
 ·rcases e2 with k | k | k<;> omega
theorem Ei {s x:ByteArray}{a:Nat}(h:ShB s x a):∀(n m:Nat) (f:Nat->Bool) (last:Int) (i:Nat),i<=x.size->x.size<n+i-> -1<=last->last<=3->4<=(m:Int)+last->
  (∀g l,iG x n f last i=some (g,l)->dC s m f last (a+i)=some (g,a+x.size))/\(iG x n f last i=none->∀g b,dC s m f last (a+i)=some (g,b)->b<a+x.size):=by
 intro n
 induction n with
 | zero=>intro m f last i h1 h2;omega
 | succ n ih=>
  intro m f last i hi hn h1 h2 hm;obtain⟨m,rfl⟩:∃k,m=k+1:=⟨m - 1,by omega⟩
  by_cases hlt:i<x.size
  ·have hl:=wN h hlt;have hcr:=xP (bt x i);by_cases hc:cH (bt x i)<=last
   ·rw[sD hlt hc];refine⟨fun g l e=>(by cases e),fun _ g b hb=> ?_⟩;rw[dC,hl]at hb;by_cases h0:0<=cH (bt x i)
    ·rw[if_pos h0]at hb;simp only at hb;rw[if_pos hc]at hb
     cases hb
    ·rw[if_neg h0]at hb;injection hb with hb;injection hb with _ hb;omega
   ·rw[tH hlt hc,dC,hl,if_pos (show 0<=cH (bt x i) by omega)];simp only;rw[if_neg hc];exact ih m _ _ (i+1) (by omega) (by omega) (by omega) (by omega) (by omega)
  ·have e:i=x.size:=by omega
   rw[tN (by omega),e,dC,J1 h];exact⟨fun g l e2=>(by injection e2 with e2;injection e2 with e2 _;rw[e2]),fun e2=>(by cases e2)⟩
theorem sO {s:ByteArray}{a:Nat}:lM s a=match eH s a with
  | none=>none
  | some _=>dC s 6 aP (-1) a:=by
 unfold lM
 cases e:eH s a with
 | none=>rfl
 | some y=>
  obtain⟨x,a1⟩:=y;rw[dC,e];simp only;have h0:0<=x:=by
   unfold eH at e;split at e
   ·injection e with e;injection e with e _;omega
   ·cases e
  rw[if_neg (by omega)]
theorem B8 {s x:ByteArray}{a:Nat}(h:ShB s x a)(hx:0<x.size):
  (∀g l,iG x (x.size+1) aP (-1) 0=some (g,l)->lM s a=some (g,a+x.size))/\(iG x (x.size+1) aP (-1) 0=none->∀g b,lM s a=some (g,b)->b<a+x.size):=by
 have hp:=Ei h (x.size+1) 6 aP (-1) 0 (by omega) (by omega) (by omega) (by omega) (by omega);rw[aO]at hp;rw[sO];have hl:=wN h hx;rw[aO]at hl;have hcr:=xP (bt x 0);rw[hl];by_cases h0:0<=cH (bt x 0)
 ·rw[if_pos h0];exact hp
 ·rw[if_neg h0];refine⟨fun g l e=> ?_,fun _ g b e=>(by cases e)⟩;rw[sD hx (by omega)]at e
  cases e
end Go.Proofs.YtgjgjgihceijnaaGreat
namespace Go.Proofs.YtgjgjgihceijnaaGreat
open Go.Stn
def sK (c:Nat):Int:=if c=46 then 0 else if c=45 then 1 else(c:Int) - 65+2
def toX (x:fM):aY:=(x.1,sK x.2.2.1,x.2.2.2)
theorem L0 {t:ByteArray}{a e b c:Nat}(_:e<=t.size)(hc:a+c<=e):(t.extract a e).extract b c=t.extract (a+b) (a+c):=by
 rw[ByteArray.extract_extract,Nat.min_eq_left hc]
theorem Wn {t:ByteArray}{b:Int}{a:Nat}(h:aJ t a≠b):isB t b a=false:=by
 unfold isB;rw[decide_eq_false_iff_not];exact h
theorem yQ {t:ByteArray}{a:Nat}(h:a<t.size)(hb:bt t a=32):isB t 32 a=true:=by
 unfold isB;rw[decide_eq_true_eq,eY h,hb]
 rfl
theorem Wp {t:ByteArray}{a:Nat}{c:Nat}(h:a<t.size->bt t a≠c):isB t (c:Int) a=false:=by
 apply Wn;intro e;by_cases ha:a<t.size
 ·rw[eY ha]at e;exact h ha (by omega)
 ·rw[dA (by omega)]at e;omega
theorem Sg {t:ByteArray}{a:Nat}(h:a<t.size->bt t a≠32):isB t 32 a=false:=Wp (c:=32) h
theorem Oh {t:ByteArray}{a:Nat}(h:a<t.size->bt t a≠10):isB t 10 a=false:=Wp (c:=10) h
theorem xJ (t:ByteArray):∀(n:Nat) (f:Nat->Bool) (last:Int) (a:Nat) (g:Nat->Bool) (b:Nat),dC t n f last a=some (g,b)->a<=b
 | 0,f,last,a,g,b,h=>by cases h
 | n+1,f,last,a,g,b,h=>by
  rw[dC]at h;unfold eH at h;split at h
  ·injection h with h;injection h with _ h;omega
  ·rename_i x a1 e;split at e
   ·injection e with e;injection e with _ e;split at h
    ·cases h
    ·have:=xJ t n _ _ _ _ _ h;omega
   ·cases e
theorem Rm {t:ByteArray}{a:Nat}{g:Nat->Bool}{b:Nat}(h:lM t a=some (g,b)):a<=b:=by
 rw[sO]at h;split at h
 ·cases h
 ·exact xJ t _ _ _ _ _ _ h
theorem wJ {t:ByteArray}{a:Nat}(h:a<t.size):jT t a=if cH (bt t a)<0/\bt t a≠46/\bt t a≠45 then none else some (sK (bt t a),a+1):=by
 unfold jT eH isB cH sK;rw[eY h];simp only[decide_eq_true_eq];by_cases h1:bt t a=46
 ·rw[h1];rfl
 ·rw[if_neg (by omega)];by_cases h2:bt t a=45
  ·rw[h2];rfl
  ·rw[if_neg (by omega)];by_cases h3:65<=bt t a/\bt t a<69
   ·rw[if_pos (by omega),if_pos h3,if_neg (by omega),if_neg h1,if_neg h2]
   ·rw[if_neg (by omega),if_neg h3,if_pos (by omega)]
theorem Df {t:ByteArray}{a:Nat}(h:t.size<=a):jT t a=none:=by
 unfold jT eH isB;rw[dA h]
 rfl
section
variable {t:ByteArray} {a e:Nat}
theorem J8 (he:e<=t.size)(hae:a<=e)(_:∀j,a<=j->j<e->bt t j≠10)(hE:e=t.size\/bt t e=10){p q:Nat}(hpq:p<=q)(hq:q<=e - a)
  (h32:∀j,p<=j->j<q->bt (t.extract a e) j≠32) (hend:q=e - a\/bt (t.extract a e) q=32):
  ShB t (t.extract (a+p) (a+q)) (a+p)/\(t.extract (a+p) (a+q)).size=q - p/\(∀j,a+p<=j->j<a+q->bt t j≠32)/\(q<e - a->a+q<t.size/\bt t (a+q)=32)/\(q=e - a->isB t 32 (a+q)=false):=by
 refine⟨Lx (by omega) (by omega) ?_, ?_,fun j h1 h2=> ?_,fun h=> ?_,fun h=> ?_⟩
 ·rcases hend with h | h
  ·rcases hE with k | k
   ·exact .inl (by omega)
   ·exact .inr (.inl (by rw[show a+q=e by omega];exact k))
  ·by_cases hlt:q<e - a
   ·rw[rQ he hlt]at h;exact .inr (.inr h)
   ·rcases hE with k | k
    ·exact .inl (by omega)
    ·exact .inr (.inl (by rw[show a+q=e by omega];exact k))
 ·rw[nE (by omega)];omega
 ·have:=h32 (j - a) (by omega) (by omega);rw[rQ he (by omega),show a+(j - a)=j by omega]at this;exact this
 ·rcases hend with k | k
  ·omega
  ·rw[rQ he h]at k;exact⟨by omega,k⟩
 ·refine Sg (fun h2=> ?_);rcases hE with k | k
  ·omega
  ·rw[show a+q=e by omega,k];decide
theorem He {x:ByteArray}{b:Nat}(h:ShB t x b)(hz:x.size<=t.size):dS t (t.size+1) b=shO b (dS x (x.size+1) 0):=by
 have:=Tv h hz (x.size+1) (t.size+1) 0 (by omega) (by omega) (by omega);rw[aO]at this;exact this
theorem zU {f:Nat->Bool}{a1:Nat}(h:lM t a=some (f,a1))(h2:isB t 32 a1=true):iY t a=match dS t (t.size+1) (a1+1)with
  | none=>none
  | some (r,a2)=>if isB t 32 a2=false then none else match jT t (a2+1)with
   | none=>none
   | some (b,a3)=>some ((f,b,r),a3):=by
 unfold iY;rw[h];simp only;rw[if_neg (by rw[h2];decide)]
 rfl
theorem U5 (he:e<=t.size)(hae:a<=e)(hn:∀j,a<=j->j<e->bt t j≠10)(hE:e=t.size\/bt t e=10):
  (∀x,iI (t.extract a e)=some x->iY t a=some (toX x,e))/\(iI (t.extract a e)=none->∀x b,iY t a=some (x,b)->a<=b/\b<e):=by
 have hsz:(t.extract a e).size=e - a:=nE he;have hcut:=B6 (t.extract a e) 32;unfold iI
 cases hl:fC (t.extract a e) 32 with
 | nil=>rw[hl]at hcut;have:0=(t.extract a e).size+1:=hcut;omega
 | cons p0 l0=>
  rw[hl]at hcut;obtain⟨c1,c2,c3,c4,c5,c6⟩:=hcut;obtain⟨q0,q1⟩:=p0;simp only at c1 c2 c3 c4 c5 c6;subst c1;rw[hsz]at c3 c5;obtain⟨i1,i2,i3,i4,i5⟩:=J8 he hae hn hE (p:=0) (q:=q1) c2 c3 c4 c5;rw[aO]at i1 i2 i3;rw[Nat.sub_zero]at i2;obtain⟨x0,hx0⟩:∃x,x=t.extract a (a+q1):=⟨_,rfl⟩
  rw[←hx0]at i1 i2;have hX0:(t.extract a e).extract 0 q1=x0:=by rw[L0 he (by omega),hx0];rfl
  -- the conditions end at the piece's end,or the rule is none
  have hk:(iY t a=none)\/(0<x0.size/\∃g l,iG x0 (x0.size+1) aP (-1) 0=some (g,l)/\lM t a=some (g,a+q1)):=by
   by_cases hz:0<x0.size
   ·obtain⟨k1,k2⟩:=B8 i1 hz
    cases hg:iG x0 (x0.size+1) aP (-1) 0 with
    | some y=>exact .inr ⟨hz,y.1,y.2,rfl,by rw[k1 y.1 y.2 hg,i2]⟩
    | none=>
     left;unfold iY
     cases hc:lM t a with
     | none=>rfl
     | some y=>
      obtain⟨g,b⟩:=y;have h1:=k2 hg g b hc;have h2:=Rm hc;simp only;rw[if_pos (Sg (fun _=>i3 b h2 (by omega)))]
   ·left;unfold iY;rw[sO];have hle:=J1 i1;rw[i2,show q1=0 by omega,aO]at hle;rw[hle]
  cases l0 with
  | nil=>
   have c6:q1+1=(t.extract a e).size+1:=c6;have hN:iY t a=none:=by
    rcases hk with h | ⟨_,g,l,_,h⟩
    ·exact h
    ·unfold iY;rw[h];simp only;rw[if_pos (i5 (by omega))]
   rw[hN];exact⟨fun x h=>(by cases h),fun _ x b h=>(by cases h)⟩
  | cons p1 l1=>
   obtain⟨d1,d2,d3,d4,d5,d6⟩:=c6;obtain⟨q2,q3⟩:=p1;simp only at d1 d2 d3 d4 d5 d6;subst d1;rw[hsz]at d3 d5;have hb1:=i4 (by omega);obtain⟨j1,j2,j3,j4,j5⟩:=J8 he hae hn hE (p:=q1+1) (q:=q3) d2 d3 d4 d5;obtain⟨x1,hx1⟩:∃x,x=t.extract (a+(q1+1)) (a+q3):=⟨_,rfl⟩
   rw[←hx1]at j1 j2;have hX1:(t.extract a e).extract (q1+1) q3=x1:=by rw[L0 he (by omega),hx1]
   have hex:=He j1 (by omega);have hXb:=qF x1 (x1.size+1)
   -- the expression ends at the piece's end,or the rule is none
   have hk2:(iY t a=none)\/(0<x0.size/\∃g l r,iG x0 (x0.size+1) aP (-1) 0=some (g,l)/\dS x1 (x1.size+1) 0=some (r,x1.size)/\isB t 32 (a+q3)=true/\iY t a=match jT t (a+q3+1)with
     | none=>none
     | some (b,a3)=>some ((g,b,r),a3)):=by
    rcases hk with h | ⟨hz,g,l,hg,h⟩
    ·exact .inl h
    ·rw[zU h (yQ hb1.1 hb1.2),show a+q1+1=a+(q1+1) by omega,hex]
     cases hr:dS x1 (x1.size+1) 0 with
     | none=>exact .inl rfl
     | some y=>
      obtain⟨r,i⟩:=y;have h1:=hXb _ _ _ hr;show((if isB t 32 (a+(q1+1)+i)=false then none else _)=none)\/_;by_cases hi:i<x1.size
      ·left;rw[if_pos (Sg (fun _=>j3 (a+(q1+1)+i) (by omega) (by omega)))]
      ·have ei:i=x1.size:=by omega
       have e3:a+(q1+1)+i=a+q3:=by omega
       by_cases hb:isB t 32 (a+q3)=true
       ·right;refine⟨hz,g,l,r,hg,by rw[ei],hb, ?_⟩;show(if isB t 32 (a+(q1+1)+i)=false then none else match jT t (a+(q1+1)+i+1)with | none=>none | some (b,a3)=>some ((g,b,r),a3))=_;rw[e3,if_neg (by rw[hb];decide)]
       ·left;rw[e3,if_pos (by simpa using hb)]
   cases l1 with
   | nil=>
    have d6:q3+1=(t.extract a e).size+1:=d6;have hN:iY t a=none:=by
     rcases hk2 with h | ⟨_,g,l,r,_,_,hb,_⟩
     ·exact h
     ·rw[j5 (by omega)]at hb;cases hb
    rw[hN];exact⟨fun x h=>(by cases h),fun _ x b h=>(by cases h)⟩
   | cons p2 l2=>
    obtain⟨f1,f2,f3,f4,f5,f6⟩:=d6;obtain⟨q4,q5⟩:=p2;simp only at f1 f2 f3 f4 f5 f6;subst f1;rw[hsz]at f3 f5;obtain⟨x2,hx2⟩:∃x,x=t.extract (a+(q3+1)) (a+q5):=⟨_,rfl⟩
    have hX2:(t.extract a e).extract (q3+1) q5=x2:=by rw[L0 he (by omega),hx2]
    obtain⟨m1,m2,m3,m4,m5⟩:=J8 he hae hn hE (p:=q3+1) (q:=q5) f2 f3 f4 f5;rw[←hx2]at m2
    -- where the rule ends
    have hz5:∀x b,iY t a=some (x,b)->b=a+(q3+1)+1/\q3+1<q5:=fun x b h=>by
     rcases hk2 with h2 | ⟨_,g,l,r,_,_,_,h2⟩
     ·rw[h2]at h;cases h
     ·rw[h2]at h;by_cases hp:a+q3+1<t.size
      ·rw[wJ hp]at h;split at h
       ·cases h
       ·rename_i b2 a3 hb2;split at hb2
        ·cases hb2
        ·rename_i hne;injection hb2 with hb2;injection hb2 with _ hb2;injection h with h;injection h with _ h;refine⟨by omega, ?_⟩;apply aL;intro hq;have eq:q5=q3+1:=by omega
         apply hne;by_cases hlt:q5<e - a
         ·have:=(m4 hlt).2;rw[eq,←bC]at this;rw[this];decide
         ·have:bt t (a+q3+1)=10:=by
           rcases hE with k | k
           ·omega
           ·rw[show a+q3+1=e by omega];exact k
          rw[this];decide
      ·rw[Df (by omega)]at h;cases h
    cases l2 with
    | cons p3 l3=>
     refine⟨fun x h=>(by cases h),fun _ x b h=> ?_⟩;obtain⟨g1,g2,g3,_⟩:=f6;rw[hsz]at g3;have:=hz5 x b h;omega
    | nil=>
     have f6:q5+1=(t.extract a e).size+1:=f6;simp only[hX0,hX1,hX2];unfold sF;by_cases hbad:x0.size=0\/x2.size≠1
     ·rw[if_pos hbad];refine⟨fun x h=>(by cases h),fun _ x b h=> ?_⟩;rcases hk2 with h2 | ⟨h0,_⟩
      ·rw[h2]at h;cases h
      ·have:=hz5 x b h;omega
     ·rw[if_neg hbad];have hx2s:x2.size=1:=by omega
      have hbt:bt x2 0=bt t (a+q3+1):=by rw[hx2,rQ (by omega) (by omega),aO,←bC]
      rcases hk2 with h2 | ⟨h0,g,l,r,hg,hr,hb,h2⟩
      · -- the rule is none:so is the line
       rw[h2];refine⟨fun x hx=> ?_,fun _ x b h=>(by cases h)⟩;exfalso
       -- the line is not none:build the rule
       cases hg:iG x0 (x0.size+1) aP (-1) 0 with
       | none=>rw[hg]at hx;cases hx
       | some y=>
        obtain⟨g,l⟩:=y;rw[hg]at hx;simp only at hx;split at hx
        ·cases hx
        ·rename_i hc;unfold kL at hx
         cases hr:dS x1 (x1.size+1) 0 with
         | none=>rw[hr]at hx;cases hx
         | some y2=>
          obtain⟨r,i⟩:=y2;rw[hr]at hx;simp only at hx;split at hx
          ·cases hx
          ·rename_i r' a' hs;split at hs
           ·injection hs with hs;injection hs with _ hs;split at hx
            ·rename_i ea;have hcx:lM t a=some (g,a+q1):=by
              have:=(B8 i1 (by omega)).1 g l hg;rw[this,i2]
             have hb3:=j4 (by omega);rw[zU hcx (yQ hb1.1 hb1.2),show a+q1+1=a+(q1+1) by omega,hex,hr]at h2;have e3:a+(q1+1)+i=a+q3:=by omega
             have h2:(if isB t 32 (a+(q1+1)+i)=false then none else match jT t (a+(q1+1)+i+1)with | none=>none | some (b,a3)=>some ((g,b,r),a3))=none:=h2;rw[e3,if_neg (by rw[yQ hb3.1 hb3.2];decide),wJ (by omega),if_neg (by rw[←hbt];exact hc)]at h2
             cases h2
            ·cases hx
           ·cases hs
      ·rw[hg];simp only;rw[h2,wJ (by omega),←hbt];by_cases hc:cH (bt x2 0)<0/\bt x2 0≠46/\bt x2 0≠45
       ·rw[if_pos hc,if_pos hc];exact⟨fun x h=>(by cases h),fun _ x b h=>(by cases h)⟩
       ·rw[if_neg hc,if_neg hc];have hst:kL x1 (dS x1 (x1.size+1)) 0=some (r,x1.size):=by
         unfold kL;rw[hr];simp only;rw[if_pos (by unfold oC;rw[decide_eq_true_eq];exact .inl (aR _))]
        rw[hst];simp only[if_true];refine⟨fun x h=> ?_,fun h=>(by cases h)⟩;injection h with h;rw[←h];show some ((g,sK (bt x2 0),r),a+q3+1+1)=some ((g,sK (bt x2 0),r),e);rw[show a+q3+1+1=e by omega]
end
theorem zV {t:ByteArray}:∀(ps:List (Nat×Nat)) (n:Nat) (acc:List aY) (q:Nat),Rq t 10 (q+1) ps->ps.length<n->(ps= []->q=t.size)->(ps≠ []->q<t.size/\bt t q=10)->
  (∀l,lnR t ps=some l->dJ t n acc q=some (acc++l.map toX,t.size))/\(lnR t ps=none->∀l b,dJ t n acc q=some (l,b)->b<t.size)
 | [],n,acc,q,_,hn,h0,_=>by
  obtain⟨n,rfl⟩:∃k,n=k+1:=⟨n - 1,by simp at hn;omega⟩
  have hq:=h0 rfl;refine⟨fun l hl=> ?_,fun hl=>(by cases hl)⟩;have hl:some []=some l:=hl;injection hl with hl;rw[dJ,if_pos (Oh (fun h=>by omega)),←hl,hq];simp
 | p::ps,n,acc,q,hc,hn,_,h1=>by
  obtain⟨n,rfl⟩:∃k,n=k+1:=⟨n - 1,by omega⟩
  obtain⟨hq1,hq2⟩:=h1 (by simp);obtain⟨c1,c2,c3,c4,c5,c6⟩:=hc;have hline:=U5 (t:=t) (a:=q+1) (e:=p.2) c3 c2 c4 c5;have h10:isB t 10 q=true:=by unfold isB;rw[decide_eq_true_eq,eY hq1,hq2];rfl
  have ih:=fun acc'=>zV ps n acc' p.2 c6 (by simp at hn;omega) (fun e=>by rw[e]at c6;have:p.2+1=t.size+1:=c6;omega) (fun e=>by
   rcases c5 with k | k
   ·exfalso
    cases ps with
    | nil=>exact e rfl
    | cons p' ps'=>
     obtain⟨_,k2,k3,_⟩:=c6;omega
   ·refine⟨?_,k⟩;apply aL;intro hge
    cases ps with
    | nil=>exact e rfl
    | cons p' ps'=>
     obtain⟨_,k2,k3,_⟩:=c6;omega)
  rw[dJ,if_neg (by rw[h10];decide)];unfold lnR;rw[c1]
  cases hl:iI (t.extract (q+1) p.2)with
  | none=>
   refine⟨fun l h=>(by cases h),fun _ l b h=> ?_⟩
   cases hr:iY t (q+1)with
   | none=>rw[hr]at h;cases h
   | some y=>
    obtain⟨x,b2⟩:=y;have hb:=hline.2 hl x b2 hr;rw[hr]at h;simp only at h
    cases n with
    | zero=>cases h
    | succ n=>
     rw[dJ,if_pos (Oh (fun _=>c4 b2 hb.1 hb.2))]at h;injection h with h;injection h with _ h;omega
  | some x=>
   have hr:=hline.1 x hl;rw[hr];simp only;have ih2:=ih (acc++ [toX x])
   cases e2:lnR t ps with
   | none=>exact⟨fun l h=>(by cases h),fun _ l b h=>ih2.2 e2 l b h⟩
   | some l2=>
    refine⟨fun l h=> ?_,fun h=>(by cases h)⟩;injection h with h;rw[ih2.1 l2 e2,←h];simp
theorem Cp {t:ByteArray}{c:Nat}:∀{ps:List (Nat×Nat)} {a:Nat},Rq t c a ps->a+ps.length<=t.size+1
 | [],a,h=>by have h:a=t.size+1:=h;simp;omega
 | p::ps,a,h=>by
  obtain⟨_,h2,h3,_,_,h6⟩:=h;have:=Cp h6;simp only[aT];omega
theorem Ke {t:ByteArray}:∀{ps:List (Nat×Nat)} {l:List fM},lnR t ps=some l->l.length=ps.length
 | [],l,h=>by injection h with h;rw[←h];rfl
 | p::ps,l,h=>by
  unfold lnR at h
  cases e:iI (t.extract p.1 p.2)with
  | none=>rw[e]at h;cases h
  | some x=>
   rw[e]at h;simp only at h
   cases e2:lnR t ps with
   | none=>rw[e2]at h;cases h
   | some l2=>
    rw[e2]at h;injection h with h;rw[←h,aT,aT,Ke e2]
theorem Fh (t:ByteArray):oN t=if 8<(fC t 10).length then none else(lnR t (fC t 10)).map (fun l=>l.map toX):=by
 have hc:=B6 t 10
 cases hl:fC t 10 with
 | nil=>rw[hl]at hc;have:0=t.size+1:=hc;omega
 | cons p ps=>
  rw[hl]at hc;have hlen:=Cp hc;obtain⟨c1,c2,c3,c4,c5,c6⟩:=hc;have hline:=U5 (t:=t) (a:=0) (e:=p.2) c3 c2 c4 c5;have ih:=fun acc'=>zV (t:=t) ps (t.size+1) acc' p.2 c6 (by simp at hlen;omega) (fun e=>by rw[e]at c6;have:p.2+1=t.size+1:=c6;omega) (fun e=>by
   rcases c5 with k | k
   ·exfalso
    cases ps with
    | nil=>exact e rfl
    | cons p' ps'=>
     obtain⟨_,k2,k3,_⟩:=c6;omega
   ·refine⟨?_,k⟩;apply aL;intro hge
    cases ps with
    | nil=>exact e rfl
    | cons p' ps'=>
     obtain⟨_,k2,k3,_⟩:=c6;omega)
  unfold oN vU lnR;rw[c1]
  cases e1:iI (t.extract 0 p.2)with
  | none=>
   have hN:(match (match iY t 0 with | none=>none | some (x,a)=>dJ t (t.size+1) [x] a)with | none=>none | some (l,a)=>if a=t.size/\l.length<=8 then some l else none)=(none:Option (List aY)):=by
    cases hr:iY t 0 with
    | none=>rfl
    | some y=>
     obtain⟨x,b2⟩:=y;have hb:=hline.2 e1 x b2 hr;simp only;rw[dJ,if_pos (Oh (fun _=>c4 b2 hb.1 hb.2))];simp only;rw[if_neg (fun h=>by omega)]
   refine Eq.trans hN ?_;split<;> rfl
  | some x=>
   have hr:=hline.1 x e1;rw[hr];simp only;have ih2:=ih [toX x]
   cases e2:lnR t ps with
   | none=>
    have hN:(match dJ t (t.size+1) [toX x] p.2 with | none=>none | some (l,a)=>if a=t.size/\l.length<=8 then some l else none)=(none:Option (List aY)):=by
     cases hr2:dJ t (t.size+1) [toX x] p.2 with
     | none=>rfl
     | some y=>
      obtain⟨l,b⟩:=y;have:=ih2.2 e2 l b hr2;simp only;rw[if_neg (fun h=>by omega)]
    refine Eq.trans hN ?_;split<;> rfl
   | some l2=>
    rw[ih2.1 l2 e2];simp only[true_and];have:=Ke e2;by_cases h8:8<(p::ps).length
    ·rw[if_pos h8,if_neg (by simp at h8 ⊢;omega)]
    ·rw[if_neg h8,if_pos (by simp at h8 ⊢;omega)]
     rfl
theorem xB:∀(l:List fM),fZ (l.map toX)=npS l
 | []=>rfl
 | x::l=>by
  show(toX x).2.2.np+fZ (l.map toX)=x.2.2.2.np+npS l;rw[xB l];rfl
theorem vM (t:ByteArray):(∀c,lV t=(none,c)->c≠0/\dD t=(c:Int))/\(∀l c,lV t=(some l,c)->dD t=0/\oN t=some (l.map toX)/\npS l<=10/\t.size<=120/\lnR t (fC t 10)=some l):=by
 obtain⟨p1,p2,p3⟩:=D9 t;have hf:=Fh t;unfold lV;by_cases h1:120<t.size
 ·rw[if_pos h1];refine⟨fun c h=> ?_,fun l c h=>(by injection h with h;cases h)⟩;injection h with _ h;rw[←h];exact⟨by decide,p1 h1⟩
 ·rw[if_neg h1];by_cases h2:8<(fC t 10).length
  ·rw[if_pos h2];rw[if_pos h2]at hf;refine⟨fun c h=> ?_,fun l c h=>(by injection h with h;cases h)⟩;injection h with _ h;rw[←h];exact⟨by decide,p2 (by omega) hf⟩
  ·rw[if_neg h2];rw[if_neg h2]at hf
   cases e:lnR t (fC t 10)with
   | none=>
    rw[e]at hf;refine⟨fun c h=> ?_,fun l c h=>(by injection h with h;cases h)⟩;injection h with _ h;rw[←h];exact⟨by decide,p2 (by omega) hf⟩
   | some l=>
    rw[e]at hf;have hf:oN t=some (l.map toX):=hf;obtain⟨q1,q2⟩:=p3 (by omega) _ hf;rw[lD,show st0.places.length=0 from rfl,Nat.zero_add,xB]at q1 q2;simp only;by_cases h3:10<npS l
    ·rw[if_pos h3];refine⟨fun c h=> ?_,fun l c h=>(by injection h with h;cases h)⟩;injection h with _ h;rw[←h];exact⟨by decide,q1 h3⟩
    ·rw[if_neg h3];refine⟨fun c h=>(by injection h with h;cases h),fun l' c h=> ?_⟩;injection h with h _;injection h with h;subst h;exact⟨(q2 (by omega)).1,hf,by omega,by omega,rfl⟩
end Go.Proofs.YtgjgjgihceijnaaGreat
