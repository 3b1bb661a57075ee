import Derived.Test.YtgjgjgihceijnaaGreatG22
import Derived.Test.YtgjgjgihceijnaaGreatG02
open List renaming append_assoc->aL,singleton_append->aO,length_append->aT
open Bool renaming or_eq_true->aR
open Nat renaming succ_pos->bC
namespace Go.Stn
def Rx.sz:Rx->Nat
 | .pl _=>1
 | .cat a b=>a.sz+b.sz+1
 | .alt a b=>a.sz+b.sz+1
 | .opt a=>a.sz+1
 | .plus a=>a.sz+1
 | .star a=>a.sz+1
theorem Rx.sz_pos:∀r:Rx,0<r.sz
 | .pl _=>Nat.one_pos
 | .cat _ _=>bC _
 | .alt _ _=>bC _
 | .opt _=>bC _
 | .plus _=>bC _
 | .star _=>bC _
def Rx.flat:Rx->Nat->Nat->List (Int×Int×Int)
 | .pl _,_,pb=>[(0,(pb:Int),0)]
 | .cat a b,nb,pb=>a.flat nb pb++(b.flat (nb+a.sz) (pb+a.np)++ [(1,((nb+a.sz - 1:Nat):Int),((nb+a.sz+b.sz - 1:Nat):Int))])
 | .alt a b,nb,pb=>a.flat nb pb++(b.flat (nb+a.sz) (pb+a.np)++ [(2,((nb+a.sz - 1:Nat):Int),((nb+a.sz+b.sz - 1:Nat):Int))])
 | .opt a,nb,pb=>a.flat nb pb++ [(3,((nb+a.sz - 1:Nat):Int),0)]
 | .plus a,nb,pb=>a.flat nb pb++ [(4,((nb+a.sz - 1:Nat):Int),0)]
 | .star a,nb,pb=>a.flat nb pb++ [(5,((nb+a.sz - 1:Nat):Int),0)]
theorem Rx.flat_len:∀(r:Rx) (nb pb:Nat),(r.flat nb pb).length=r.sz
 | .pl _,_,_=>rfl
 | .cat a b,nb,pb=>by simp[Rx.flat,Rx.sz,a.flat_len,b.flat_len];omega
 | .alt a b,nb,pb=>by simp[Rx.flat,Rx.sz,a.flat_len,b.flat_len];omega
 | .opt a,nb,pb=>by simp[Rx.flat,Rx.sz,a.flat_len]
 | .plus a,nb,pb=>by simp[Rx.flat,Rx.sz,a.flat_len]
 | .star a,nb,pb=>by simp[Rx.flat,Rx.sz,a.flat_len]
structure pM (x:kN)(r:Rx)(pb:Nat):Prop where
 s1:cA x.1
 s2:cA x.2.1
 f:∀p,inS x.1 p=true↔r.fst pb p
 l:∀p,inS x.2.1 p=true↔r.lst pb p
 n:x.2.2=r.nul
structure Wi (next next1:Nat->Int)(r:Rx)(pb:Nat):Prop where
 s:∀p,cA (next1 p)
 f:∀p q,inS (next1 p) q=true↔(inS (next p) q=true\/r.fol pb p q)
theorem zB {next:Nat->Int}{fr ds:Int}(hn:∀p,cA (next p))(hd:cA ds)(p:Nat):cA (lG next fr ds p):=by
 unfold lG qH;split
 ·exact nO (hn p) hd
 ·exact hn p
theorem J6 {next:Nat->Int}{fr ds:Int}(hn:∀p,cA (next p))(hf:cA fr)(hd:cA ds)(p q:Nat):inS (lG next fr ds p) q=true↔(inS (next p) q=true\/(inS fr p=true/\inS ds q=true)):=by
 unfold lG qH;by_cases hp:p<10
 ·have ha:=Z7 hf hp;by_cases e:gZ fr (lZ p)≠0
  ·rw[if_pos ⟨hp,e⟩,oH (hn p) hd,aR];have:inS fr p=true:=by
    cases h:inS fr p with
    | true=>rfl
    | false=>exact absurd (ha.2 h) e
   simp[this]
  ·rw[if_neg (fun h=>e h.2)];have:inS fr p=false:=ha.1 (Classical.not_not.1 e);simp[this]
 ·rw[if_neg (fun h=>hp h.1)];have:=Jr hf (p:=p) (by omega);simp[this]
theorem nQ:∀(r:Rx) (nb pb:Nat) (l:List (Int×Int×Int)) (ps:Nat->kN) (next:Nat->Int),pb+r.np<=10->(∀p,cA (next p))->
  ∃ps1 next1,cQ (r.flat nb pb++l) nb ps next=cQ l (nb+r.sz) ps1 next1/\(∀i,i<nb->ps1 i=ps i)/\pM (ps1 (nb+r.sz - 1)) r pb/\Wi next next1 r pb
 | .pl f,nb,pb,l,ps,next,hp,hn=>by
  have hp:pb+1<=10:=hp;refine⟨_,_,rfl,fun i hi=>if_neg (by omega), ?_, ?_⟩
  ·show pM (if nb+1 - 1=nb then(jA ps (0,(pb:Int),0) next).1 else ps (nb+1 - 1)) (.pl f) pb;rw[if_pos (by omega)];have e:(jA ps (0,(pb:Int),0) next).1=(lZ pb,lZ pb,false):=by
    unfold jA iS;simp
   rw[e];exact⟨mK (by omega),mK (by omega),fun p=>by simp only[uM,decide_eq_true_eq];exact eq_comm,fun p=>by simp only[uM,decide_eq_true_eq];exact eq_comm,rfl⟩
  ·have e:(jA ps (0,(pb:Int),0) next).2=next:=by unfold jA iS;simp
   rw[e];exact⟨hn,fun p q=>⟨fun h=> .inl h,fun h=>h.elim id False.elim⟩⟩
 | .cat a b,nb,pb,l,ps,next,hp,hn=>by
  have hp:pb+(a.np+b.np)<=10:=hp;have ha:=a.sz_pos;have hb:=b.sz_pos;obtain⟨ps1,n1,e1,k1,p1,o1⟩:=nQ a nb pb (b.flat (nb+a.sz) (pb+a.np)++([(1,((nb+a.sz - 1:Nat):Int),((nb+a.sz+b.sz - 1:Nat):Int))]++l)) ps next (by omega) hn;obtain⟨ps2,n2,e2,k2,p2,o2⟩:=nQ b (nb+a.sz) (pb+a.np) ([(1,((nb+a.sz - 1:Nat):Int),((nb+a.sz+b.sz - 1:Nat):Int))]++l) ps1 n1 (by omega) o1.s;rw[←k2 (nb+a.sz - 1) (by omega)]at p1;have en:jA ps2 (1,((nb+a.sz - 1:Nat):Int),((nb+a.sz+b.sz - 1:Nat):Int)) n2=(sC (ps2 (nb+a.sz - 1)) (ps2 (nb+a.sz+b.sz - 1)),lG n2 (ps2 (nb+a.sz - 1)).2.1 (ps2 (nb+a.sz+b.sz - 1)).1):=by
   unfold jA iS;simp
  refine⟨fun i=>if i=nb+a.sz+b.sz then sC (ps2 (nb+a.sz - 1)) (ps2 (nb+a.sz+b.sz - 1))else ps2 i,lG n2 (ps2 (nb+a.sz - 1)).2.1 (ps2 (nb+a.sz+b.sz - 1)).1, ?_,fun i hi=> ?_, ?_, ?_⟩
  ·show cQ ((a.flat nb pb++(b.flat (nb+a.sz) (pb+a.np)++ [_]))++l) nb ps next=_;rw[aL,aL,e1,e2,aO,cQ,en];show _=cQ l (nb+(a.sz+b.sz+1)) _ _;rw[show nb+(a.sz+b.sz+1)=nb+a.sz+b.sz+1 by omega]
  ·simp only;rw[if_neg (by omega),k2 i (by omega),k1 i hi]
  ·show pM (if nb+(a.sz+b.sz+1) - 1=nb+a.sz+b.sz then _ else _) (.cat a b) pb;rw[if_pos (by omega)];generalize ps2 (nb+a.sz - 1)=x at*;generalize ps2 (nb+a.sz+b.sz - 1)=y at*;unfold sC;refine⟨?_, ?_,fun p=> ?_,fun p=> ?_, ?_⟩
   ·simp only;split
    ·exact nO p1.s1 p2.s1
    ·exact p1.s1
   ·simp only;split
    ·exact nO p2.s2 p1.s2
    ·exact p2.s2
   ·show _↔(a.fst pb p\/(a.nul=true/\b.fst (pb+a.np) p));simp only;rw[←p1.n,←p1.f,←p2.f];split
    ·rename_i h;rw[oH p1.s1 p2.s1,aR];simp[h]
    ·rename_i h;simp[h]
   ·show _↔((a.lst pb p/\b.nul=true)\/b.lst (pb+a.np) p);simp only;rw[←p2.n,←p1.l,←p2.l];split
    ·rename_i h;rw[oH p2.s2 p1.s2,aR];simp[h,or_comm]
    ·rename_i h;simp[h]
   ·show(x.2.2 && y.2.2)=(a.nul && b.nul);rw[p1.n,p2.n]
  ·refine⟨zB o2.s p2.s1,fun p q=> ?_⟩;rw[J6 o2.s p1.s2 p2.s1,o2.f,o1.f,p1.l,p2.f];show _↔(_\/(a.fol pb p q\/b.fol (pb+a.np) p q\/(a.lst pb p/\b.fst (pb+a.np) q)));simp only[or_assoc]
 | .alt a b,nb,pb,l,ps,next,hp,hn=>by
  have hp:pb+(a.np+b.np)<=10:=hp;have ha:=a.sz_pos;have hb:=b.sz_pos;obtain⟨ps1,n1,e1,k1,p1,o1⟩:=nQ a nb pb (b.flat (nb+a.sz) (pb+a.np)++([(2,((nb+a.sz - 1:Nat):Int),((nb+a.sz+b.sz - 1:Nat):Int))]++l)) ps next (by omega) hn;obtain⟨ps2,n2,e2,k2,p2,o2⟩:=nQ b (nb+a.sz) (pb+a.np) ([(2,((nb+a.sz - 1:Nat):Int),((nb+a.sz+b.sz - 1:Nat):Int))]++l) ps1 n1 (by omega) o1.s;rw[←k2 (nb+a.sz - 1) (by omega)]at p1;have en:jA ps2 (2,((nb+a.sz - 1:Nat):Int),((nb+a.sz+b.sz - 1:Nat):Int)) n2=((orI (ps2 (nb+a.sz - 1)).1 (ps2 (nb+a.sz+b.sz - 1)).1,orI (ps2 (nb+a.sz - 1)).2.1 (ps2 (nb+a.sz+b.sz - 1)).2.1,(ps2 (nb+a.sz - 1)).2.2 || (ps2 (nb+a.sz+b.sz - 1)).2.2),n2):=by
   unfold jA iS;simp
  refine⟨fun i=>if i=nb+a.sz+b.sz then(orI (ps2 (nb+a.sz - 1)).1 (ps2 (nb+a.sz+b.sz - 1)).1,orI (ps2 (nb+a.sz - 1)).2.1 (ps2 (nb+a.sz+b.sz - 1)).2.1,(ps2 (nb+a.sz - 1)).2.2 || (ps2 (nb+a.sz+b.sz - 1)).2.2)else ps2 i,n2, ?_,fun i hi=> ?_, ?_, ?_⟩
  ·show cQ ((a.flat nb pb++(b.flat (nb+a.sz) (pb+a.np)++ [_]))++l) nb ps next=_;rw[aL,aL,e1,e2,aO,cQ,en];show _=cQ l (nb+(a.sz+b.sz+1)) _ _;rw[show nb+(a.sz+b.sz+1)=nb+a.sz+b.sz+1 by omega]
  ·simp only;rw[if_neg (by omega),k2 i (by omega),k1 i hi]
  ·show pM (if nb+(a.sz+b.sz+1) - 1=nb+a.sz+b.sz then _ else _) (.alt a b) pb;rw[if_pos (by omega)];generalize ps2 (nb+a.sz - 1)=x at*;generalize ps2 (nb+a.sz+b.sz - 1)=y at*;refine⟨nO p1.s1 p2.s1,nO p1.s2 p2.s2,fun p=> ?_,fun p=> ?_, ?_⟩
   ·show _↔(a.fst pb p\/b.fst (pb+a.np) p);simp only;rw[←p1.f,←p2.f,oH p1.s1 p2.s1,aR]
   ·show _↔(a.lst pb p\/b.lst (pb+a.np) p);simp only;rw[←p1.l,←p2.l,oH p1.s2 p2.s2,aR]
   ·show(x.2.2 || y.2.2)=(a.nul || b.nul);rw[p1.n,p2.n]
  ·refine⟨o2.s,fun p q=> ?_⟩;rw[o2.f,o1.f];show _↔(_\/(a.fol pb p q\/b.fol (pb+a.np) p q));simp only[or_assoc]
 | .opt a,nb,pb,l,ps,next,hp,hn=>by
  have ha:=a.sz_pos;obtain⟨ps1,n1,e1,k1,p1,o1⟩:=nQ a nb pb ([(3,((nb+a.sz - 1:Nat):Int),0)]++l) ps next hp hn;have en:jA ps1 (3,((nb+a.sz - 1:Nat):Int),0) n1=(((ps1 (nb+a.sz - 1)).1,(ps1 (nb+a.sz - 1)).2.1,true),n1):=by
   unfold jA iS;simp
  refine⟨fun i=>if i=nb+a.sz then((ps1 (nb+a.sz - 1)).1,(ps1 (nb+a.sz - 1)).2.1,true)else ps1 i,n1, ?_,fun i hi=> ?_, ?_,⟨o1.s,o1.f⟩⟩
  ·show cQ ((a.flat nb pb++ [_])++l) nb ps next=cQ l (nb+(a.sz+1)) _ _;rw[aL,e1,aO,cQ,en]
   rfl
  ·simp only;rw[if_neg (by omega),k1 i hi]
  ·show pM (if nb+(a.sz+1) - 1=nb+a.sz then _ else _) (.opt a) pb;rw[if_pos (by omega)];exact⟨p1.s1,p1.s2,p1.f,p1.l,rfl⟩
 | .plus a,nb,pb,l,ps,next,hp,hn=>by
  have ha:=a.sz_pos;obtain⟨ps1,n1,e1,k1,p1,o1⟩:=nQ a nb pb ([(4,((nb+a.sz - 1:Nat):Int),0)]++l) ps next hp hn;have en:jA ps1 (4,((nb+a.sz - 1:Nat):Int),0) n1=(ps1 (nb+a.sz - 1),lG n1 (ps1 (nb+a.sz - 1)).2.1 (ps1 (nb+a.sz - 1)).1):=by
   unfold jA iS;simp
  refine⟨fun i=>if i=nb+a.sz then ps1 (nb+a.sz - 1)else ps1 i,lG n1 (ps1 (nb+a.sz - 1)).2.1 (ps1 (nb+a.sz - 1)).1, ?_,fun i hi=> ?_, ?_, ?_⟩
  ·show cQ ((a.flat nb pb++ [_])++l) nb ps next=cQ l (nb+(a.sz+1)) _ _;rw[aL,e1,aO,cQ,en]
   rfl
  ·simp only;rw[if_neg (by omega),k1 i hi]
  ·show pM (if nb+(a.sz+1) - 1=nb+a.sz then _ else _) (.plus a) pb;rw[if_pos (by omega)];exact⟨p1.s1,p1.s2,p1.f,p1.l,p1.n⟩
  ·refine⟨zB o1.s p1.s1,fun p q=> ?_⟩;rw[J6 o1.s p1.s2 p1.s1,o1.f,p1.l,p1.f];show _↔(_\/(a.fol pb p q\/(a.lst pb p/\a.fst pb q)));simp only[or_assoc]
 | .star a,nb,pb,l,ps,next,hp,hn=>by
  have ha:=a.sz_pos;obtain⟨ps1,n1,e1,k1,p1,o1⟩:=nQ a nb pb ([(5,((nb+a.sz - 1:Nat):Int),0)]++l) ps next hp hn;have en:jA ps1 (5,((nb+a.sz - 1:Nat):Int),0) n1=(((ps1 (nb+a.sz - 1)).1,(ps1 (nb+a.sz - 1)).2.1,true),lG n1 (ps1 (nb+a.sz - 1)).2.1 (ps1 (nb+a.sz - 1)).1):=by
   unfold jA iS;simp
  refine⟨fun i=>if i=nb+a.sz then((ps1 (nb+a.sz - 1)).1,(ps1 (nb+a.sz - 1)).2.1,true)else ps1 i,lG n1 (ps1 (nb+a.sz - 1)).2.1 (ps1 (nb+a.sz - 1)).1, ?_,fun i hi=> ?_, ?_, ?_⟩
  ·show cQ ((a.flat nb pb++ [_])++l) nb ps next=cQ l (nb+(a.sz+1)) _ _;rw[aL,e1,aO,cQ,en]
   rfl
  ·simp only;rw[if_neg (by omega),k1 i hi]
  ·show pM (if nb+(a.sz+1) - 1=nb+a.sz then _ else _) (.star a) pb;rw[if_pos (by omega)];exact⟨p1.s1,p1.s2,p1.f,p1.l,rfl⟩
  ·refine⟨zB o1.s p1.s1,fun p q=> ?_⟩;rw[J6 o1.s p1.s2 p1.s1,o1.f,p1.l,p1.f];show _↔(_\/(a.fol pb p q\/(a.lst pb p/\a.fst pb q)));simp only[or_assoc]
end Go.Stn
namespace Go.Stn
def Rx.fns:Rx->List (Nat->Bool)
 | .pl f=>[f]
 | .cat a b=>a.fns++b.fns
 | .alt a b=>a.fns++b.fns
 | .opt a=>a.fns
 | .plus a=>a.fns
 | .star a=>a.fns
theorem Rx.fns_len:∀r:Rx,r.fns.length=r.np
 | .pl _=>rfl
 | .cat a b=>by show(a.fns++b.fns).length=a.np+b.np;rw[aT,a.fns_len,b.fns_len]
 | .alt a b=>by show(a.fns++b.fns).length=a.np+b.np;rw[aT,a.fns_len,b.fns_len]
 | .opt a=>a.fns_len
 | .plus a=>a.fns_len
 | .star a=>a.fns_len
def isB (t:ByteArray)(b:Int)(a:Nat):Bool:=decide (aJ t a=b)
def wD (t:ByteArray)(a:Nat):Option (Int×Nat):=
 if isB t 110 a=true then some (10,a+1)
 else if isB t 115 a=true then some (32,a+1)
 else if gY (aJ t a)=true/\P3 (aJ t a)=false then some (aJ t a,a+1)
 else none
def cM (t sp:ByteArray)(a:Nat):Option (Int×Nat):=
 if isB t 92 a=true then wD t (a+1)
 else if dY (aJ t a) sp=true then some (aJ t a,a+1)
 else none
def cW (t:ByteArray)(f:Nat->Bool)(a:Nat):Option ((Nat->Bool)×Nat):=
 match cM t dN a with
 | none=>none
 | some (x,a1)=>if isB t 45 a1=false then some (cK f x x,a1)else
  match cM t dN (a1+1)with
  | none=>none
  | some (y,a2)=>if y<x then none else some (cK f x y,a2)
def eV (t:ByteArray):Nat->(Nat->Bool)->Nat->Option ((Nat->Bool)×Nat)
 | 0,_,_=>none
 | n+1,f,a=>if isB t 93 a=true then some (f,a+1)else
  match cW t f a with
  | none=>none
  | some (g,a1)=>eV t n g a1
def jX (t:ByteArray)(a:Nat):Option ((Nat->Bool)×Nat):=
 match cW t aP a with
 | none=>none
 | some (f,a1)=>eV t (t.size+1) f a1
def wB (t:ByteArray)(a:Nat):Option ((Nat->Bool)×Nat):=
 if isB t 94 a=true then
  match jX t (a+1)with
  | none=>none
  | some (f,a1)=>some ((fun i=> !(f i)),a1)
 else jX t a
def cD (t:ByteArray)(a:Nat):Option ((Nat->Bool)×Nat):=
 if isB t 91 a=true then wB t (a+1)
 else if isB t 46 a=true then some ((fun i=> !(aP i)),a+1)
 else match cM t dM a with
  | none=>none
  | some (x,a1)=>some (cK aP x x,a1)
def fL (t:ByteArray)(a:Nat):Bool:=
 decide (aJ t a=40\/aJ t a=91\/aJ t a=46\/aJ t a=92) || dY (aJ t a) dM
def fI (t:ByteArray)(ex:Nat->Option (Rx×Nat))(a:Nat):Option (Rx×Nat):=
 if isB t 40 a=true then
  match ex (a+1)with
  | none=>none
  | some (r,a1)=>if isB t 41 a1=true then some (r,a1+1)else none
 else match cD t a with
  | none=>none
  | some (f,a1)=>some (.pl f,a1)
def xK (k:Int)(r:Rx):Rx:=if k=3 then .opt r else if k=4 then .plus r else .star r
def bY (t:ByteArray)(ex:Nat->Option (Rx×Nat))(a:Nat):Option (Rx×Nat):=
 match fI t ex a with
 | none=>none
 | some (r,a1)=>if fN (aJ t a1)=0 then some (r,a1)else some (xK (fN (aJ t a1)) r,a1+1)
def fK (t:ByteArray)(ex:Nat->Option (Rx×Nat)):Nat->Rx->Nat->Option (Rx×Nat)
 | 0,_,_=>none
 | n+1,r,a=>if fL t a=false then some (r,a)else
  match bY t ex a with
  | none=>none
  | some (r2,a2)=>fK t ex n (.cat r r2) a2
def oV (t:ByteArray)(ex:Nat->Option (Rx×Nat))(a:Nat):Option (Rx×Nat):=
 match bY t ex a with
 | none=>none
 | some (r,a1)=>fK t ex (t.size+1) r a1
def dT (t:ByteArray)(ex:Nat->Option (Rx×Nat)):Nat->Rx->Nat->Option (Rx×Nat)
 | 0,_,_=>none
 | n+1,r,a=>if isB t 124 a=false then some (r,a)else
  match oV t ex (a+1)with
  | none=>none
  | some (r2,a2)=>dT t ex n (.alt r r2) a2
def dS (t:ByteArray):Nat->Nat->Option (Rx×Nat)
 | 0,_=>none
 | f+1,a=>match oV t (dS t f) a with
  | none=>none
  | some (r,a1)=>dT t (dS t f) (t.size+1) r a1
def atS (st:PSt)(a:Nat):PSt:= {st with at_:=a}
def fF (st:PSt)(r:Rx)(a:Nat):PSt:=⟨a,st.rules,st.nodes++r.flat st.nodes.length st.places.length,st.places++r.fns⟩
def Qp (p:Int×Bool×PSt)(st:PSt):Option (Int×Nat)->Prop
 | none=>p.2.1=false
 | some (x,a)=>p=(x,true,atS st a)
def Gh (p:(Nat->Bool)×Bool×PSt)(st:PSt):Option ((Nat->Bool)×Nat)->Prop
 | none=>p.2.1=false
 | some (x,a)=>p=(x,true,atS st a)
def Hk (p:Int×Bool×PSt)(st:PSt):Option (Rx×Nat)->Prop
 | none=>p.2.1=false
 | some (r,a)=>p=(((st.nodes.length+r.sz - 1:Nat):Int),true,fF st r a)
theorem kC (t:ByteArray)(b:Int)(st:PSt):aM t b st=isB t b st.at_:=by
 rw[Bool.eq_iff_iff];exact Iff.rfl
theorem It (st:PSt):adv st=atS st (st.at_+1):=rfl
theorem Ua (t:ByteArray)(st:PSt):Qp (nY t st) st (wD t st.at_):=by
 unfold nY wD;simp only[kC,It];split
 ·rfl
 ·split
  ·rfl
  ·split
   ·rfl
   ·rfl
theorem wE (t sp:ByteArray)(st:PSt):Qp (aG t sp st) st (cM t sp st.at_):=by
 unfold aG cM;simp only[kC,It];split
 ·have:=Ua t (atS st (st.at_+1));show Qp _ _ (wD t (atS st (st.at_+1)).at_)
  cases h:wD t (atS st (st.at_+1)).at_ with
  | none=>rw[h]at this;exact this
  | some x=>rw[h]at this;exact this
 ·split
  ·rfl
  ·rfl
theorem K3 (t:ByteArray)(f:Nat->Bool)(st:PSt):Gh (aZ t f st) st (cW t f st.at_):=by
 have h1:=wE t dN st;unfold cW
 cases e1:cM t dN st.at_ with
 | none=>
  rw[e1]at h1;obtain⟨b,ok,s1,hS⟩:∃b ok s,aG t dN st=(b,ok,s):=⟨_,_,_,rfl⟩
  have ho:ok=false:=by have:(aG t dN st).2.1=false:=h1;rw[hS]at this;exact this
  subst ho;show(aZ t f st).2.1=false;rw[nW hS]
 | some y=>
  obtain⟨x,a1⟩:=y;rw[e1]at h1;have h1:aG t dN st=(x,true,atS st a1):=h1;simp only;by_cases e2:isB t 45 a1=false
  ·rw[if_pos e2];exact nK h1 e2
  ·rw[if_neg e2];have e2':aM t 45 (atS st a1)=true:=by
    have:isB t 45 a1=true:=by simpa using e2
    exact this
   have h2:=wE t dN (adv (atS st a1));rw[show(adv (atS st a1)).at_=a1+1 from rfl]at h2
   cases e3:cM t dN (a1+1)with
   | none=>
    rw[e3]at h2;obtain⟨b,ok,s1,hS⟩:∃b ok s,aG t dN (adv (atS st a1))=(b,ok,s):=⟨_,_,_,rfl⟩
    have ho:ok=false:=by have:(aG t dN (adv (atS st a1))).2.1=false:=h2;rw[hS]at this;exact this
    show(aZ t f st).2.1=false;rw[kD h1 e2' hS (.inl ho)]
   | some z=>
    obtain⟨y,a2⟩:=z;rw[e3]at h2;have h2:aG t dN (adv (atS st a1))=(y,true,atS st a2):=h2;simp only;by_cases e4:y<x
    ·rw[if_pos e4];show(aZ t f st).2.1=false;rw[kD h1 e2' h2 (.inr e4)]
    ·rw[if_neg e4];exact nU h1 e2' h2 e4
theorem Do (t:ByteArray):∀(n:Nat) (f:Nat->Bool) (st:PSt),Gh (gE t n f true st) st (eV t n f st.at_):=by
 intro n
 induction n with
 | zero=>intro f st;rfl
 | succ k ih=>
  intro f st;rw[eV];by_cases h:isB t 93 st.at_=true
  ·rw[if_pos h,xE h];rfl
  ·rw[if_neg h,xO (by simpa[kC]using h)];have hm:=K3 t f st
   cases e:cW t f st.at_ with
   | none=>
    rw[e]at hm;have hm:(aZ t f st).2.1=false:=hm;show(gE t k (aZ t f st).1 (aZ t f st).2.1 (aZ t f st).2.2).2.1=false;rw[hm,qX]
   | some y=>
    obtain⟨g,a1⟩:=y;rw[e]at hm;have hm:aZ t f st=(g,true,atS st a1):=hm;rw[hm];have:=ih g (atS st a1);rw[show(atS st a1).at_=a1 from rfl]at this;simp only
    cases e2:eV t k g a1 with
    | none=>rw[e2]at this;exact this
    | some z=>rw[e2]at this;exact this
theorem Dt (t:ByteArray)(st:PSt):Gh (lK t st) st (jX t st.at_):=by
 unfold lK jX;have hm:=K3 t aP st
 cases e:cW t aP st.at_ with
 | none=>
  rw[e]at hm;have hm:(aZ t aP st).2.1=false:=hm;show(gE t (t.size+1) _ (aZ t aP st).2.1 _).2.1=false;rw[hm,qX]
 | some y=>
  obtain⟨g,a1⟩:=y;rw[e]at hm;have hm:aZ t aP st=(g,true,atS st a1):=hm;rw[hm];have:=Do t (t.size+1) g (atS st a1);rw[show(atS st a1).at_=a1 from rfl]at this;simp only
  cases e2:eV t (t.size+1) g a1 with
  | none=>rw[e2]at this;exact this
  | some z=>rw[e2]at this;exact this
theorem Um (t:ByteArray)(st:PSt):Gh (kZ t st) st (wB t st.at_):=by
 unfold kZ wB;simp only[kC];by_cases h:isB t 94 st.at_=true
 ·have hR:=Dt t (adv st);rw[if_pos h,if_pos h];rw[show(adv st).at_=st.at_+1 from rfl]at hR
  cases e:jX t (st.at_+1)with
  | none=>
   rw[e]at hR;have hR:(lK t (adv st)).2.1=false:=hR;rw[if_neg (by rw[hR];decide)]
   rfl
  | some y=>
   obtain⟨g,a1⟩:=y;rw[e]at hR;have hR:lK t (adv st)=(g,true,atS st a1):=hR;rw[hR]
   rfl
 ·have hR:=Dt t st;rw[if_neg h,if_neg h]
  cases e:jX t st.at_ with
  | none=>
   rw[e]at hR;have hR:(lK t st).2.1=false:=hR;rw[if_neg (by rw[hR];decide)]
   rfl
  | some y=>
   obtain⟨g,a1⟩:=y;rw[e]at hR;have hR:lK t st=(g,true,atS st a1):=hR;rw[hR]
   rfl
theorem Bk (t:ByteArray)(st:PSt):Gh (bA t st) st (cD t st.at_):=by
 unfold bA cD;simp only[kC];by_cases h:isB t 91 st.at_=true
 ·rw[if_pos h,if_pos h];have:=Um t (adv st);rw[show(adv st).at_=st.at_+1 from rfl]at this
  cases e:wB t (st.at_+1)with
  | none=>rw[e]at this;exact this
  | some y=>rw[e]at this;exact this
 ·rw[if_neg h,if_neg h];by_cases h2:isB t 46 st.at_=true
  ·rw[if_pos h2,if_pos h2];rfl
  ·rw[if_neg h2,if_neg h2];have hS:=wE t dM st
   cases e:cM t dM st.at_ with
   | none=>
    rw[e]at hS;have hS:(aG t dM st).2.1=false:=hS;rw[if_neg (by rw[hS];decide)]
    rfl
   | some y=>
    obtain⟨x,a1⟩:=y;rw[e]at hS;have hS:aG t dM st=(x,true,atS st a1):=hS;rw[hS]
    rfl
theorem Lh (t:ByteArray)(st:PSt):Hk (kQ t st) st (match cD t st.at_ with
  | none=>none
  | some (f,a1)=>some (.pl f,a1)):=by
 unfold kQ;have hS:=Bk t st
 cases e:cD t st.at_ with
 | none=>
  rw[e]at hS;have hS:(bA t st).2.1=false:=hS;rw[if_neg (by rw[hS];decide)]
  rfl
 | some y=>
  obtain⟨f,a1⟩:=y;rw[e]at hS;have hS:bA t st=(f,true,atS st a1):=hS;rw[hS]
  rfl
def Nl (ex:PSt->Int×Bool×PSt)(exx:Nat->Option (Rx×Nat)):Prop:=∀st,Hk (ex st) st (exx st.at_)
theorem Qs {t:ByteArray}{ex:PSt->Int×Bool×PSt}{exx:Nat->Option (Rx×Nat)}(h:Nl ex exx)(st:PSt):Hk (cX t ex st) st (fI t exx st.at_):=by
 unfold cX fI;simp only[kC];by_cases h1:isB t 40 st.at_=true
 ·rw[if_pos h1,if_pos h1];have hS:=h (adv st);rw[show(adv st).at_=st.at_+1 from rfl]at hS
  cases e:exx (st.at_+1)with
  | none=>
   rw[e]at hS;have hS:(ex (adv st)).2.1=false:=hS;rw[if_neg (by rw[hS];simp)]
   rfl
  | some y=>
   obtain⟨r,a1⟩:=y;rw[e]at hS;have hS:ex (adv st)=(((st.nodes.length+r.sz - 1:Nat):Int),true,fF (adv st) r a1):=hS;rw[hS];by_cases h2:isB t 41 a1=true
   ·rw[if_pos ⟨rfl,h2⟩];simp only[if_pos h2]
    rfl
   ·rw[if_neg (fun hh=>h2 hh.2)];simp only[if_neg h2]
    rfl
 ·rw[if_neg h1,if_neg h1];exact Lh t st
theorem L6 {p:Int}(h:fN p≠0)(r:Rx)(nb pb:Nat):(xK (fN p) r).flat nb pb=r.flat nb pb++ [(fN p,((nb+r.sz - 1:Nat):Int),0)]/\(xK (fN p) r).sz=r.sz+1/\(xK (fN p) r).fns=r.fns/\(xK (fN p) r).np=r.np:=by
 unfold fN at*;unfold xK;split at h
 ·rename_i e;rw[if_pos e];exact⟨rfl,rfl,rfl,rfl⟩
 ·rename_i e;rw[if_neg e];split at h
  ·rename_i e;rw[if_pos e];exact⟨rfl,rfl,rfl,rfl⟩
  ·rename_i e;rw[if_neg e];split at h
   ·rename_i e;rw[if_pos e];exact⟨rfl,rfl,rfl,rfl⟩
   ·exact absurd rfl h
theorem T1 {t:ByteArray}{ex:PSt->Int×Bool×PSt}{exx:Nat->Option (Rx×Nat)}(h:Nl ex exx)(st:PSt):Hk (cE t ex st) st (bY t exx st.at_):=by
 unfold cE bY;have hS:=Qs (t:=t) h st
 cases e:fI t exx st.at_ with
 | none=>
  rw[e]at hS;have hS:(cX t ex st).2.1=false:=hS;rw[if_neg (by rw[hS];decide)]
  rfl
 | some y=>
  obtain⟨r,a1⟩:=y;rw[e]at hS;have hS:cX t ex st=(((st.nodes.length+r.sz - 1:Nat):Int),true,fF st r a1):=hS;rw[hS];rw[if_pos rfl];simp only;rw[show(fF st r a1).at_=a1 from rfl];by_cases hm:fN (aJ t a1)=0
  ·rw[if_pos hm,if_pos hm];rfl
  ·rw[if_neg hm,if_neg hm];obtain⟨f1,f2,f3,f4⟩:=L6 hm r st.nodes.length st.places.length;show(_,true,lE (fN (aJ t a1),_,0) (adv (fF st r a1)))=(_,true,fF st (xK (fN (aJ t a1)) r) (a1+1));unfold fF lE adv;rw[f1,f2,f3];have:=r.sz_pos;simp[Rx.flat_len]
theorem Oi (st:PSt)(r r2:Rx)(a1 a2:Nat):lE (1,((st.nodes.length+r.sz - 1:Nat):Int),(((fF st r a1).nodes.length+r2.sz - 1:Nat):Int)) (fF (fF st r a1) r2 a2)=fF st (.cat r r2) a2:=by
 unfold fF lE;simp only[PSt.mk.injEq,true_and];refine⟨?_, ?_⟩
 ·show _=st.nodes++(r.flat _ _++(r2.flat _ _++ [_]));simp only[aT,r.flat_len,r.fns_len,aL]
 ·show _=st.places++(r.fns++r2.fns);rw[aL]
theorem Qk (st:PSt)(r r2:Rx)(a1 a2:Nat):lE (2,((st.nodes.length+r.sz - 1:Nat):Int),(((fF st r a1).nodes.length+r2.sz - 1:Nat):Int)) (fF (fF st r a1) r2 a2)=fF st (.alt r r2) a2:=by
 unfold fF lE;simp only[PSt.mk.injEq,true_and];refine⟨?_, ?_⟩
 ·show _=st.nodes++(r.flat _ _++(r2.flat _ _++ [_]));simp only[aT,r.flat_len,r.fns_len,aL]
 ·show _=st.places++(r.fns++r2.fns);rw[aL]
theorem wP (st:PSt)(r:Rx)(a:Nat):(fF st r a).nodes.length=st.nodes.length+r.sz:=by
 unfold fF;simp[r.flat_len]
theorem B5 (t:ByteArray)(ex:PSt->Int×Bool×PSt)(n:Nat)(x:Int)(st:PSt):(gX t ex n x false st).2.1=false:=by cases n<;> rfl
theorem wX (t:ByteArray)(ex:PSt->Int×Bool×PSt)(n:Nat)(x:Int)(st:PSt):(dI t ex n x false st).2.1=false:=by cases n<;> rfl
theorem Av {t:ByteArray}{ex:PSt->Int×Bool×PSt}{exx:Nat->Option (Rx×Nat)}(h:Nl ex exx)(st:PSt):∀(n:Nat) (r:Rx) (a:Nat),
  Hk (gX t ex n ((st.nodes.length+r.sz - 1:Nat):Int) true (fF st r a)) st (fK t exx n r a):=by
 intro n
 induction n with
 | zero=>intro r a;rfl
 | succ k ih=>
  intro r a;rw[gX,fK,if_neg (by decide)];rw[show gD t (fF st r a)=fL t a from rfl];by_cases hp:fL t a=false
  ·rw[if_pos hp,if_pos hp];rfl
  ·rw[if_neg hp,if_neg hp];have hS:=T1 (t:=t) h (fF st r a);rw[show(fF st r a).at_=a from rfl]at hS
   cases e:bY t exx a with
   | none=>
    rw[e]at hS;have hS:(cE t ex (fF st r a)).2.1=false:=hS;rw[hS];exact B5 _ _ _ _ _
   | some y=>
    obtain⟨r2,a2⟩:=y;rw[e]at hS;have hS:cE t ex (fF st r a)=((((fF st r a).nodes.length+r2.sz - 1:Nat):Int),true,fF (fF st r a) r2 a2):=hS;rw[hS];simp only;rw[Oi];have hlen:(fF (fF st r a) r2 a2).nodes.length=st.nodes.length+(Rx.cat r r2).sz - 1:=by
     rw[wP,wP];show _=st.nodes.length+(r.sz+r2.sz+1) - 1;omega
    rw[hlen];exact ih (.cat r r2) a2
theorem Jz {t:ByteArray}{ex:PSt->Int×Bool×PSt}{exx:Nat->Option (Rx×Nat)}(h:Nl ex exx)(st:PSt):Hk (fR t ex st) st (oV t exx st.at_):=by
 unfold fR oV;have hS:=T1 (t:=t) h st
 cases e:bY t exx st.at_ with
 | none=>
  rw[e]at hS;have hS:(cE t ex st).2.1=false:=hS;rw[hS];exact B5 _ _ _ _ _
 | some y=>
  obtain⟨r,a1⟩:=y;rw[e]at hS;have hS:cE t ex st=(((st.nodes.length+r.sz - 1:Nat):Int),true,fF st r a1):=hS;rw[hS];exact Av h st _ r a1
theorem Ab {t:ByteArray}{ex:PSt->Int×Bool×PSt}{exx:Nat->Option (Rx×Nat)}(h:Nl ex exx)(st:PSt):∀(n:Nat) (r:Rx) (a:Nat),
  Hk (dI t ex n ((st.nodes.length+r.sz - 1:Nat):Int) true (fF st r a)) st (dT t exx n r a):=by
 intro n
 induction n with
 | zero=>intro r a;rfl
 | succ k ih=>
  intro r a;rw[dI,dT,if_neg (by decide)];rw[show aM t 124 (fF st r a)=isB t 124 a from rfl];by_cases hp:isB t 124 a=false
  ·rw[if_pos hp,if_pos hp];rfl
  ·rw[if_neg hp,if_neg hp];have hS:=Jz (t:=t) h (adv (fF st r a));rw[show(adv (fF st r a)).at_=a+1 from rfl]at hS;have he:∀r2 a2,fF (adv (fF st r a)) r2 a2=fF (fF st r a) r2 a2:=fun _ _=>rfl
   cases e:oV t exx (a+1)with
   | none=>
    rw[e]at hS;have hS:(fR t ex (adv (fF st r a))).2.1=false:=hS;rw[hS];exact wX _ _ _ _ _
   | some y=>
    obtain⟨r2,a2⟩:=y;rw[e]at hS;have hS:fR t ex (adv (fF st r a))=((((fF st r a).nodes.length+r2.sz - 1:Nat):Int),true,fF (fF st r a) r2 a2):=hS;rw[hS];simp only;rw[Qk];have hlen:(fF (fF st r a) r2 a2).nodes.length=st.nodes.length+(Rx.alt r r2).sz - 1:=by
     rw[wP,wP];show _=st.nodes.length+(r.sz+r2.sz+1) - 1;omega
    rw[hlen];exact ih (.alt r r2) a2
theorem Qy (t:ByteArray):∀f,Nl (eQ t f) (dS t f):=by
 intro f
 induction f with
 | zero=>intro st;rfl
 | succ k ih=>
  intro st;rw[eQ,dS];have hS:=Jz (t:=t) ih st
  cases e:oV t (dS t k) st.at_ with
  | none=>
   rw[e]at hS;have hS:(fR t (eQ t k) st).2.1=false:=hS;rw[hS];exact wX _ _ _ _ _
  | some y=>
   obtain⟨r,a1⟩:=y;rw[e]at hS;have hS:fR t (eQ t k) st=(((st.nodes.length+r.sz - 1:Nat):Int),true,fF st r a1):=hS;rw[hS];exact Ab ih st _ r a1
end Go.Stn
namespace Go.Proofs.YtgjgjgihceijnaaGreat
open Go.RowKit Go.Stn
theorem Ds:∀c:Nat,c<256->amB c tR=P3 (c:Int):=by decide+kernel
theorem Qd:∀c:Nat,c<256->c≠92->dY (c:Int) dN=(gY (c:Int) && !amB c My):=by decide+kernel
theorem dF {s:ByteArray}{i:Nat}(h:i<s.size)(b:Nat):isB s (b:Int) i=decide (bt s i=b):=by
 unfold isB;rw[eY h];congr 1;simp only[eq_iff_iff];omega
theorem pL {s:ByteArray}{i:Nat}(h:s.size<=i)(b:Nat):isB s (b:Int) i=false:=by
 unfold isB;rw[dA h,decide_eq_false_iff_not];omega
def Qm (p:Nat×Nat×Bool):Option (Int×Nat):=if p.2.2=true then some ((p.1:Int),p.2.1)else none
theorem K2 {s:ByteArray}{i:Nat}:wD s i=if s.size<=i then none else Qm ((oG (bt s i)).1,i+1,(oG (bt s i)).2):=by
 by_cases h:s.size<=i
 ·rw[if_pos h];have a1:=pL h 110;have a2:=pL h 115;unfold wD;rw[if_neg (by rw[show((110:Nat):Int)=110 from rfl]at a1;rw[a1];simp),if_neg (by rw[show((115:Nat):Int)=115 from rfl]at a2;rw[a2];simp),dA h,if_neg (by decide)]
 ·rw[if_neg h];have hlt:i<s.size:=by omega
  have a1:isB s 110 i=decide (bt s i=110):=dF hlt 110;have a2:isB s 115 i=decide (bt s i=115):=dF hlt 115;unfold wD;rw[a1,a2,eY hlt,←Ds _ (jS s i)];unfold oG Qm;by_cases h1:bt s i=110
  ·simp[h1]
  ·by_cases h2:bt s i=115
   ·simp[h2]
   ·simp[h1,h2]
theorem tS {s:ByteArray}{i:Nat}:cM s dN i=Qm (kK s i):=by
 by_cases h:s.size<=i
 ·have a1:isB s 92 i=false:=pL h 92;unfold cM kK;rw[a1,if_pos h,dA h]
  rfl
 ·have hlt:i<s.size:=by omega
  have a1:isB s 92 i=decide (bt s i=92):=dF hlt 92;unfold cM kK;rw[a1,if_neg h];by_cases h1:bt s i=92
  ·rw[if_pos (by simp[h1]),if_pos h1,K2];by_cases h2:s.size<=i+1
   ·rw[if_pos h2,if_pos h2];rfl
   ·rw[if_neg h2,if_neg h2]
  ·rw[if_neg (by simp[h1]),if_neg h1,eY hlt,Qd _ (jS s i) h1]
   rfl
end Go.Proofs.YtgjgjgihceijnaaGreat
