/- Texts put together: AuLink, XpPure, RtPure. -/
import Derived.Test.YtgjgjgihceijnaaG17
import Derived.Test.YtgjgjgihceijnaaG02
namespace Go.Stn
def Rx.sz:Rx→Nat
 | .pl _=>1
 | .cat a b=>a.sz+b.sz+1
 | .alt a b=>a.sz+b.sz+1
 | .opt a=>a.sz+1
 | .plus a=>a.sz+1
 | .star a=>a.sz+1
theorem Rx.sz_pos:∀r:Rx,0<r.sz
 | .pl _=>Nat.one_pos
 | .cat _ _=>Nat.succ_pos _
 | .alt _ _=>Nat.succ_pos _
 | .opt _=>Nat.succ_pos _
 | .plus _=>Nat.succ_pos _
 | .star _=>Nat.succ_pos _
def Rx.flat:Rx→Nat→Nat→List (Int×Int×Int)
 | .pl _,_,pb=>[(0,(pb:Int),0)]
 | .cat a b,nb,pb=>a.flat nb pb++(b.flat (nb+a.sz) (pb+a.np)++ [(1,((nb+a.sz - 1:Nat):Int),((nb+a.sz+b.sz - 1:Nat):Int))])
 | .alt a b,nb,pb=>a.flat nb pb++(b.flat (nb+a.sz) (pb+a.np)++ [(2,((nb+a.sz - 1:Nat):Int),((nb+a.sz+b.sz - 1:Nat):Int))])
 | .opt a,nb,pb=>a.flat nb pb++ [(3,((nb+a.sz - 1:Nat):Int),0)]
 | .plus a,nb,pb=>a.flat nb pb++ [(4,((nb+a.sz - 1:Nat):Int),0)]
 | .star a,nb,pb=>a.flat nb pb++ [(5,((nb+a.sz - 1:Nat):Int),0)]
theorem Rx.flat_len:∀(r:Rx) (nb pb:Nat),(r.flat nb pb).length=r.sz
 | .pl _,_,_=>rfl
 | .cat a b,nb,pb=>by simp[Rx.flat,Rx.sz,a.flat_len,b.flat_len];omega
 | .alt a b,nb,pb=>by simp[Rx.flat,Rx.sz,a.flat_len,b.flat_len];omega
 | .opt a,nb,pb=>by simp[Rx.flat,Rx.sz,a.flat_len]
 | .plus a,nb,pb=>by simp[Rx.flat,Rx.sz,a.flat_len]
 | .star a,nb,pb=>by simp[Rx.flat,Rx.sz,a.flat_len]
structure PartOk (x:PartT)(r:Rx)(pb:Nat):Prop where
 s1:isSet x.1
 s2:isSet x.2.1
 f:∀p,inS x.1 p=true↔r.fst pb p
 l:∀p,inS x.2.1 p=true↔r.lst pb p
 n:x.2.2=r.nul
structure NextOk (next next1:Nat→Int)(r:Rx)(pb:Nat):Prop where
 s:∀p,isSet (next1 p)
 f:∀p q,inS (next1 p) q=true↔(inS (next p) q=true∨r.fol pb p q)
theorem nlead_set {next:Nat→Int}{fr ds:Int}(hn:∀p,isSet (next p))(hd:isSet ds)(p:Nat):isSet (nleadP next fr ds p):=by
 unfold nleadP leadK
 split
 ·exact isSet_or (hn p) hd
 ·exact hn p
theorem nlead_in {next:Nat→Int}{fr ds:Int}(hn:∀p,isSet (next p))(hf:isSet fr)(hd:isSet ds)(p q:Nat):inS (nleadP next fr ds p) q=true↔(inS (next p) q=true∨(inS fr p=true∧inS ds q=true)):=by
 unfold nleadP leadK
 by_cases hp:p<10
 ·have ha:=and_pow hf hp
  by_cases e:andI fr (pow2 p)≠0
  ·rw[if_pos ⟨hp,e⟩,inS_or (hn p) hd,Bool.or_eq_true]
   have:inS fr p=true:=by
    cases h:inS fr p with
    | true=>rfl
    | false=>exact absurd (ha.2 h) e
   simp[this]
  ·rw[if_neg (fun h=>e h.2)]
   have:inS fr p=false:=ha.1 (Classical.not_not.1 e)
   simp[this]
 ·rw[if_neg (fun h=>hp h.1)]
  have:=inS_far hf (p:=p) (by omega)
  simp[this]
theorem linkL_rx:∀(r:Rx) (nb pb:Nat) (l:List (Int×Int×Int)) (ps:Nat→PartT) (next:Nat→Int),pb+r.np≤10→(∀p,isSet (next p))→
  ∃ps1 next1,linkL (r.flat nb pb++l) nb ps next=linkL l (nb+r.sz) ps1 next1∧(∀i,i<nb→ps1 i=ps i)∧PartOk (ps1 (nb+r.sz - 1)) r pb∧NextOk next next1 r pb
 | .pl f,nb,pb,l,ps,next,hp,hn=>by
  have hp:pb+1≤10:=hp
  refine⟨_,_,rfl,fun i hi=>if_neg (by omega), ?_, ?_⟩
  ·show PartOk (if nb+1 - 1=nb then(nodeP ps (0,(pb:Int),0) next).1 else ps (nb+1 - 1)) (.pl f) pb
   rw[if_pos (by omega)]
   have e:(nodeP ps (0,(pb:Int),0) next).1=(pow2 pb,pow2 pb,false):=by
    unfold nodeP wholeP;simp
   rw[e]
   exact⟨isSet_pow (by omega),isSet_pow (by omega),fun p=>by simp only[inS_pow,decide_eq_true_eq];exact eq_comm,fun p=>by simp only[inS_pow,decide_eq_true_eq];exact eq_comm,rfl⟩
  ·have e:(nodeP ps (0,(pb:Int),0) next).2=next:=by unfold nodeP wholeP;simp
   rw[e]
   exact⟨hn,fun p q=>⟨fun h=> .inl h,fun h=>h.elim id False.elim⟩⟩
 | .cat a b,nb,pb,l,ps,next,hp,hn=>by
  have hp:pb+(a.np+b.np)≤10:=hp
  have ha:=a.sz_pos
  have hb:=b.sz_pos
  obtain⟨ps1,n1,e1,k1,p1,o1⟩:=linkL_rx a nb pb (b.flat (nb+a.sz) (pb+a.np)++([(1,((nb+a.sz - 1:Nat):Int),((nb+a.sz+b.sz - 1:Nat):Int))]++l)) ps next (by omega) hn
  obtain⟨ps2,n2,e2,k2,p2,o2⟩:=linkL_rx b (nb+a.sz) (pb+a.np) ([(1,((nb+a.sz - 1:Nat):Int),((nb+a.sz+b.sz - 1:Nat):Int))]++l) ps1 n1 (by omega) o1.s
  rw[←k2 (nb+a.sz - 1) (by omega)]at p1
  have en:nodeP ps2 (1,((nb+a.sz - 1:Nat):Int),((nb+a.sz+b.sz - 1:Nat):Int)) n2=(joinedP (ps2 (nb+a.sz - 1)) (ps2 (nb+a.sz+b.sz - 1)),nleadP n2 (ps2 (nb+a.sz - 1)).2.1 (ps2 (nb+a.sz+b.sz - 1)).1):=by
   unfold nodeP wholeP;simp
  refine⟨fun i=>if i=nb+a.sz+b.sz then joinedP (ps2 (nb+a.sz - 1)) (ps2 (nb+a.sz+b.sz - 1))else ps2 i,nleadP n2 (ps2 (nb+a.sz - 1)).2.1 (ps2 (nb+a.sz+b.sz - 1)).1, ?_,fun i hi=> ?_, ?_, ?_⟩
  ·show linkL ((a.flat nb pb++(b.flat (nb+a.sz) (pb+a.np)++ [_]))++l) nb ps next=_
   rw[List.append_assoc,List.append_assoc,e1,e2,List.singleton_append,linkL,en]
   show _=linkL l (nb+(a.sz+b.sz+1)) _ _
   rw[show nb+(a.sz+b.sz+1)=nb+a.sz+b.sz+1 by omega]
  ·simp only
   rw[if_neg (by omega),k2 i (by omega),k1 i hi]
  ·show PartOk (if nb+(a.sz+b.sz+1) - 1=nb+a.sz+b.sz then _ else _) (.cat a b) pb
   rw[if_pos (by omega)]
   generalize ps2 (nb+a.sz - 1)=x at*
   generalize ps2 (nb+a.sz+b.sz - 1)=y at*
   unfold joinedP
   refine⟨?_, ?_,fun p=> ?_,fun p=> ?_, ?_⟩
   ·simp only
    split
    ·exact isSet_or p1.s1 p2.s1
    ·exact p1.s1
   ·simp only
    split
    ·exact isSet_or p2.s2 p1.s2
    ·exact p2.s2
   ·show _↔(a.fst pb p∨(a.nul=true∧b.fst (pb+a.np) p))
    simp only
    rw[←p1.n,←p1.f,←p2.f]
    split
    ·rename_i h;rw[inS_or p1.s1 p2.s1,Bool.or_eq_true];simp[h]
    ·rename_i h;simp[h]
   ·show _↔((a.lst pb p∧b.nul=true)∨b.lst (pb+a.np) p)
    simp only
    rw[←p2.n,←p1.l,←p2.l]
    split
    ·rename_i h;rw[inS_or p2.s2 p1.s2,Bool.or_eq_true];simp[h,or_comm]
    ·rename_i h;simp[h]
   ·show(x.2.2 && y.2.2)=(a.nul && b.nul)
    rw[p1.n,p2.n]
  ·refine⟨nlead_set o2.s p2.s1,fun p q=> ?_⟩
   rw[nlead_in o2.s p1.s2 p2.s1,o2.f,o1.f,p1.l,p2.f]
   show _↔(_∨(a.fol pb p q∨b.fol (pb+a.np) p q∨(a.lst pb p∧b.fst (pb+a.np) q)))
   simp only[or_assoc]
 | .alt a b,nb,pb,l,ps,next,hp,hn=>by
  have hp:pb+(a.np+b.np)≤10:=hp
  have ha:=a.sz_pos
  have hb:=b.sz_pos
  obtain⟨ps1,n1,e1,k1,p1,o1⟩:=linkL_rx a nb pb (b.flat (nb+a.sz) (pb+a.np)++([(2,((nb+a.sz - 1:Nat):Int),((nb+a.sz+b.sz - 1:Nat):Int))]++l)) ps next (by omega) hn
  obtain⟨ps2,n2,e2,k2,p2,o2⟩:=linkL_rx b (nb+a.sz) (pb+a.np) ([(2,((nb+a.sz - 1:Nat):Int),((nb+a.sz+b.sz - 1:Nat):Int))]++l) ps1 n1 (by omega) o1.s
  rw[←k2 (nb+a.sz - 1) (by omega)]at p1
  have en:nodeP ps2 (2,((nb+a.sz - 1:Nat):Int),((nb+a.sz+b.sz - 1:Nat):Int)) n2=((orI (ps2 (nb+a.sz - 1)).1 (ps2 (nb+a.sz+b.sz - 1)).1,orI (ps2 (nb+a.sz - 1)).2.1 (ps2 (nb+a.sz+b.sz - 1)).2.1,(ps2 (nb+a.sz - 1)).2.2 || (ps2 (nb+a.sz+b.sz - 1)).2.2),n2):=by
   unfold nodeP wholeP;simp
  refine⟨fun i=>if i=nb+a.sz+b.sz then(orI (ps2 (nb+a.sz - 1)).1 (ps2 (nb+a.sz+b.sz - 1)).1,orI (ps2 (nb+a.sz - 1)).2.1 (ps2 (nb+a.sz+b.sz - 1)).2.1,(ps2 (nb+a.sz - 1)).2.2 || (ps2 (nb+a.sz+b.sz - 1)).2.2)else ps2 i,n2, ?_,fun i hi=> ?_, ?_, ?_⟩
  ·show linkL ((a.flat nb pb++(b.flat (nb+a.sz) (pb+a.np)++ [_]))++l) nb ps next=_
   rw[List.append_assoc,List.append_assoc,e1,e2,List.singleton_append,linkL,en]
   show _=linkL l (nb+(a.sz+b.sz+1)) _ _
   rw[show nb+(a.sz+b.sz+1)=nb+a.sz+b.sz+1 by omega]
  ·simp only
   rw[if_neg (by omega),k2 i (by omega),k1 i hi]
  ·show PartOk (if nb+(a.sz+b.sz+1) - 1=nb+a.sz+b.sz then _ else _) (.alt a b) pb
   rw[if_pos (by omega)]
   generalize ps2 (nb+a.sz - 1)=x at*
   generalize ps2 (nb+a.sz+b.sz - 1)=y at*
   refine⟨isSet_or p1.s1 p2.s1,isSet_or p1.s2 p2.s2,fun p=> ?_,fun p=> ?_, ?_⟩
   ·show _↔(a.fst pb p∨b.fst (pb+a.np) p)
    simp only
    rw[←p1.f,←p2.f,inS_or p1.s1 p2.s1,Bool.or_eq_true]
   ·show _↔(a.lst pb p∨b.lst (pb+a.np) p)
    simp only
    rw[←p1.l,←p2.l,inS_or p1.s2 p2.s2,Bool.or_eq_true]
   ·show(x.2.2 || y.2.2)=(a.nul || b.nul)
    rw[p1.n,p2.n]
  ·refine⟨o2.s,fun p q=> ?_⟩
   rw[o2.f,o1.f]
   show _↔(_∨(a.fol pb p q∨b.fol (pb+a.np) p q))
   simp only[or_assoc]
 | .opt a,nb,pb,l,ps,next,hp,hn=>by
  have ha:=a.sz_pos
  obtain⟨ps1,n1,e1,k1,p1,o1⟩:=linkL_rx a nb pb ([(3,((nb+a.sz - 1:Nat):Int),0)]++l) ps next hp hn
  have en:nodeP ps1 (3,((nb+a.sz - 1:Nat):Int),0) n1=(((ps1 (nb+a.sz - 1)).1,(ps1 (nb+a.sz - 1)).2.1,true),n1):=by
   unfold nodeP wholeP;simp
  refine⟨fun i=>if i=nb+a.sz then((ps1 (nb+a.sz - 1)).1,(ps1 (nb+a.sz - 1)).2.1,true)else ps1 i,n1, ?_,fun i hi=> ?_, ?_,⟨o1.s,o1.f⟩⟩
  ·show linkL ((a.flat nb pb++ [_])++l) nb ps next=linkL l (nb+(a.sz+1)) _ _
   rw[List.append_assoc,e1,List.singleton_append,linkL,en]
   rfl
  ·simp only
   rw[if_neg (by omega),k1 i hi]
  ·show PartOk (if nb+(a.sz+1) - 1=nb+a.sz then _ else _) (.opt a) pb
   rw[if_pos (by omega)]
   exact⟨p1.s1,p1.s2,p1.f,p1.l,rfl⟩
 | .plus a,nb,pb,l,ps,next,hp,hn=>by
  have ha:=a.sz_pos
  obtain⟨ps1,n1,e1,k1,p1,o1⟩:=linkL_rx a nb pb ([(4,((nb+a.sz - 1:Nat):Int),0)]++l) ps next hp hn
  have en:nodeP ps1 (4,((nb+a.sz - 1:Nat):Int),0) n1=(ps1 (nb+a.sz - 1),nleadP n1 (ps1 (nb+a.sz - 1)).2.1 (ps1 (nb+a.sz - 1)).1):=by
   unfold nodeP wholeP;simp
  refine⟨fun i=>if i=nb+a.sz then ps1 (nb+a.sz - 1)else ps1 i,nleadP n1 (ps1 (nb+a.sz - 1)).2.1 (ps1 (nb+a.sz - 1)).1, ?_,fun i hi=> ?_, ?_, ?_⟩
  ·show linkL ((a.flat nb pb++ [_])++l) nb ps next=linkL l (nb+(a.sz+1)) _ _
   rw[List.append_assoc,e1,List.singleton_append,linkL,en]
   rfl
  ·simp only
   rw[if_neg (by omega),k1 i hi]
  ·show PartOk (if nb+(a.sz+1) - 1=nb+a.sz then _ else _) (.plus a) pb
   rw[if_pos (by omega)]
   exact⟨p1.s1,p1.s2,p1.f,p1.l,p1.n⟩
  ·refine⟨nlead_set o1.s p1.s1,fun p q=> ?_⟩
   rw[nlead_in o1.s p1.s2 p1.s1,o1.f,p1.l,p1.f]
   show _↔(_∨(a.fol pb p q∨(a.lst pb p∧a.fst pb q)))
   simp only[or_assoc]
 | .star a,nb,pb,l,ps,next,hp,hn=>by
  have ha:=a.sz_pos
  obtain⟨ps1,n1,e1,k1,p1,o1⟩:=linkL_rx a nb pb ([(5,((nb+a.sz - 1:Nat):Int),0)]++l) ps next hp hn
  have en:nodeP ps1 (5,((nb+a.sz - 1:Nat):Int),0) n1=(((ps1 (nb+a.sz - 1)).1,(ps1 (nb+a.sz - 1)).2.1,true),nleadP n1 (ps1 (nb+a.sz - 1)).2.1 (ps1 (nb+a.sz - 1)).1):=by
   unfold nodeP wholeP;simp
  refine⟨fun i=>if i=nb+a.sz then((ps1 (nb+a.sz - 1)).1,(ps1 (nb+a.sz - 1)).2.1,true)else ps1 i,nleadP n1 (ps1 (nb+a.sz - 1)).2.1 (ps1 (nb+a.sz - 1)).1, ?_,fun i hi=> ?_, ?_, ?_⟩
  ·show linkL ((a.flat nb pb++ [_])++l) nb ps next=linkL l (nb+(a.sz+1)) _ _
   rw[List.append_assoc,e1,List.singleton_append,linkL,en]
   rfl
  ·simp only
   rw[if_neg (by omega),k1 i hi]
  ·show PartOk (if nb+(a.sz+1) - 1=nb+a.sz then _ else _) (.star a) pb
   rw[if_pos (by omega)]
   exact⟨p1.s1,p1.s2,p1.f,p1.l,rfl⟩
  ·refine⟨nlead_set o1.s p1.s1,fun p q=> ?_⟩
   rw[nlead_in o1.s p1.s2 p1.s1,o1.f,p1.l,p1.f]
   show _↔(_∨(a.fol pb p q∨(a.lst pb p∧a.fst pb q)))
   simp only[or_assoc]
end Go.Stn

namespace Go.Stn
def Rx.fns:Rx→List (Nat→Bool)
 | .pl f=>[f]
 | .cat a b=>a.fns++b.fns
 | .alt a b=>a.fns++b.fns
 | .opt a=>a.fns
 | .plus a=>a.fns
 | .star a=>a.fns
theorem Rx.fns_len:∀r:Rx,r.fns.length=r.np
 | .pl _=>rfl
 | .cat a b=>by show(a.fns++b.fns).length=a.np+b.np;rw[List.length_append,a.fns_len,b.fns_len]
 | .alt a b=>by show(a.fns++b.fns).length=a.np+b.np;rw[List.length_append,a.fns_len,b.fns_len]
 | .opt a=>a.fns_len
 | .plus a=>a.fns_len
 | .star a=>a.fns_len
def isB (t:ByteArray)(b:Int)(a:Nat):Bool:=decide (peekP t a=b)
def escX (t:ByteArray)(a:Nat):Option (Int×Nat):=
 if isB t 110 a=true then some (10,a+1)
 else if isB t 115 a=true then some (32,a+1)
 else if visB (peekP t a)=true∧lodB (peekP t a)=false then some (peekP t a,a+1)
 else none
def singleX (t sp:ByteArray)(a:Nat):Option (Int×Nat):=
 if isB t 92 a=true then escX t (a+1)
 else if plainB (peekP t a) sp=true then some (peekP t a,a+1)
 else none
def memberX (t:ByteArray)(f:Nat→Bool)(a:Nat):Option ((Nat→Bool)×Nat):=
 match singleX t spIn a with
 | none=>none
 | some (x,a1)=>if isB t 45 a1=false then some (withB f x x,a1)else
  match singleX t spIn (a1+1)with
  | none=>none
  | some (y,a2)=>if y<x then none else some (withB f x y,a2)
def setLoopX (t:ByteArray):Nat→(Nat→Bool)→Nat→Option ((Nat→Bool)×Nat)
 | 0,_,_=>none
 | n+1,f,a=>if isB t 93 a=true then some (f,a+1)else
  match memberX t f a with
  | none=>none
  | some (g,a1)=>setLoopX t n g a1
def setRX (t:ByteArray)(a:Nat):Option ((Nat→Bool)×Nat):=
 match memberX t zeroF a with
 | none=>none
 | some (f,a1)=>setLoopX t (t.size+1) f a1
def setX (t:ByteArray)(a:Nat):Option ((Nat→Bool)×Nat):=
 if isB t 94 a=true then
  match setRX t (a+1)with
  | none=>none
  | some (f,a1)=>some ((fun i=> !(f i)),a1)
 else setRX t a
def allowedX (t:ByteArray)(a:Nat):Option ((Nat→Bool)×Nat):=
 if isB t 91 a=true then setX t (a+1)
 else if isB t 46 a=true then some ((fun i=> !(zeroF i)),a+1)
 else match singleX t spOut a with
  | none=>none
  | some (x,a1)=>some (withB zeroF x x,a1)
def atPieceX (t:ByteArray)(a:Nat):Bool:=
 decide (peekP t a=40∨peekP t a=91∨peekP t a=46∨peekP t a=92) || plainB (peekP t a) spOut
def atomX (t:ByteArray)(ex:Nat→Option (Rx×Nat))(a:Nat):Option (Rx×Nat):=
 if isB t 40 a=true then
  match ex (a+1)with
  | none=>none
  | some (r,a1)=>if isB t 41 a1=true then some (r,a1+1)else none
 else match allowedX t a with
  | none=>none
  | some (f,a1)=>some (.pl f,a1)
def markX (k:Int)(r:Rx):Rx:=if k=3 then .opt r else if k=4 then .plus r else .star r
def pieceX (t:ByteArray)(ex:Nat→Option (Rx×Nat))(a:Nat):Option (Rx×Nat):=
 match atomX t ex a with
 | none=>none
 | some (r,a1)=>if markK (peekP t a1)=0 then some (r,a1)else some (markX (markK (peekP t a1)) r,a1+1)
def altLoopX (t:ByteArray)(ex:Nat→Option (Rx×Nat)):Nat→Rx→Nat→Option (Rx×Nat)
 | 0,_,_=>none
 | n+1,r,a=>if atPieceX t a=false then some (r,a)else
  match pieceX t ex a with
  | none=>none
  | some (r2,a2)=>altLoopX t ex n (.cat r r2) a2
def altX (t:ByteArray)(ex:Nat→Option (Rx×Nat))(a:Nat):Option (Rx×Nat):=
 match pieceX t ex a with
 | none=>none
 | some (r,a1)=>altLoopX t ex (t.size+1) r a1
def exprLoopX (t:ByteArray)(ex:Nat→Option (Rx×Nat)):Nat→Rx→Nat→Option (Rx×Nat)
 | 0,_,_=>none
 | n+1,r,a=>if isB t 124 a=false then some (r,a)else
  match altX t ex (a+1)with
  | none=>none
  | some (r2,a2)=>exprLoopX t ex n (.alt r r2) a2
def exprX (t:ByteArray):Nat→Nat→Option (Rx×Nat)
 | 0,_=>none
 | f+1,a=>match altX t (exprX t f) a with
  | none=>none
  | some (r,a1)=>exprLoopX t (exprX t f) (t.size+1) r a1
def atS (st:PSt)(a:Nat):PSt:= {st with at_:=a}
def putR (st:PSt)(r:Rx)(a:Nat):PSt:=⟨a,st.rules,st.nodes++r.flat st.nodes.length st.places.length,st.places++r.fns⟩
def SimI (p:Int×Bool×PSt)(st:PSt):Option (Int×Nat)→Prop
 | none=>p.2.1=false
 | some (x,a)=>p=(x,true,atS st a)
def SimF (p:(Nat→Bool)×Bool×PSt)(st:PSt):Option ((Nat→Bool)×Nat)→Prop
 | none=>p.2.1=false
 | some (x,a)=>p=(x,true,atS st a)
def SimR (p:Int×Bool×PSt)(st:PSt):Option (Rx×Nat)→Prop
 | none=>p.2.1=false
 | some (r,a)=>p=(((st.nodes.length+r.sz - 1:Nat):Int),true,putR st r a)
theorem nextB_is (t:ByteArray)(b:Int)(st:PSt):nextB t b st=isB t b st.at_:=by
 rw[Bool.eq_iff_iff]
 exact Iff.rfl
theorem adv_atS (st:PSt):adv st=atS st (st.at_+1):=rfl
theorem esc_sim (t:ByteArray)(st:PSt):SimI (escP t st) st (escX t st.at_):=by
 unfold escP escX
 simp only[nextB_is,adv_atS]
 split
 ·rfl
 ·split
  ·rfl
  ·split
   ·rfl
   ·rfl
theorem single_sim (t sp:ByteArray)(st:PSt):SimI (singleP t sp st) st (singleX t sp st.at_):=by
 unfold singleP singleX
 simp only[nextB_is,adv_atS]
 split
 ·have:=esc_sim t (atS st (st.at_+1))
  show SimI _ _ (escX t (atS st (st.at_+1)).at_)
  cases h:escX t (atS st (st.at_+1)).at_ with
  | none=>rw[h]at this;exact this
  | some x=>rw[h]at this;exact this
 ·split
  ·rfl
  ·rfl
theorem member_sim (t:ByteArray)(f:Nat→Bool)(st:PSt):SimF (memberP t f st) st (memberX t f st.at_):=by
 have h1:=single_sim t spIn st
 unfold memberX
 cases e1:singleX t spIn st.at_ with
 | none=>
  rw[e1]at h1
  obtain⟨b,ok,s1,hS⟩:∃b ok s,singleP t spIn st=(b,ok,s):=⟨_,_,_,rfl⟩
  have ho:ok=false:=by have:(singleP t spIn st).2.1=false:=h1;rw[hS]at this;exact this
  subst ho
  show(memberP t f st).2.1=false
  rw[memberP_no1 hS]
 | some y=>
  obtain⟨x,a1⟩:=y
  rw[e1]at h1
  have h1:singleP t spIn st=(x,true,atS st a1):=h1
  simp only
  by_cases e2:isB t 45 a1=false
  ·rw[if_pos e2]
   exact memberP_one h1 e2
  ·rw[if_neg e2]
   have e2':nextB t 45 (atS st a1)=true:=by
    have:isB t 45 a1=true:=by simpa using e2
    exact this
   have h2:=single_sim t spIn (adv (atS st a1))
   rw[show(adv (atS st a1)).at_=a1+1 from rfl]at h2
   cases e3:singleX t spIn (a1+1)with
   | none=>
    rw[e3]at h2
    obtain⟨b,ok,s1,hS⟩:∃b ok s,singleP t spIn (adv (atS st a1))=(b,ok,s):=⟨_,_,_,rfl⟩
    have ho:ok=false:=by have:(singleP t spIn (adv (atS st a1))).2.1=false:=h2;rw[hS]at this;exact this
    show(memberP t f st).2.1=false
    rw[memberP_no2 h1 e2' hS (.inl ho)]
   | some z=>
    obtain⟨y,a2⟩:=z
    rw[e3]at h2
    have h2:singleP t spIn (adv (atS st a1))=(y,true,atS st a2):=h2
    simp only
    by_cases e4:y<x
    ·rw[if_pos e4]
     show(memberP t f st).2.1=false
     rw[memberP_no2 h1 e2' h2 (.inr e4)]
    ·rw[if_neg e4]
     exact memberP_two h1 e2' h2 e4
theorem setLoop_sim (t:ByteArray):∀(n:Nat) (f:Nat→Bool) (st:PSt),SimF (setLoop t n f true st) st (setLoopX t n f st.at_):=by
 intro n
 induction n with
 | zero=>intro f st;rfl
 | succ k ih=>
  intro f st
  rw[setLoopX]
  by_cases h:isB t 93 st.at_=true
  ·rw[if_pos h,setLoop_done h];rfl
  ·rw[if_neg h,setLoop_more (by simpa[nextB_is]using h)]
   have hm:=member_sim t f st
   cases e:memberX t f st.at_ with
   | none=>
    rw[e]at hm
    have hm:(memberP t f st).2.1=false:=hm
    show(setLoop t k (memberP t f st).1 (memberP t f st).2.1 (memberP t f st).2.2).2.1=false
    rw[hm,setLoop_false]
   | some y=>
    obtain⟨g,a1⟩:=y
    rw[e]at hm
    have hm:memberP t f st=(g,true,atS st a1):=hm
    rw[hm]
    have:=ih g (atS st a1)
    rw[show(atS st a1).at_=a1 from rfl]at this
    simp only
    cases e2:setLoopX t k g a1 with
    | none=>rw[e2]at this;exact this
    | some z=>rw[e2]at this;exact this
theorem setR_sim (t:ByteArray)(st:PSt):SimF (setR t st) st (setRX t st.at_):=by
 unfold setR setRX
 have hm:=member_sim t zeroF st
 cases e:memberX t zeroF st.at_ with
 | none=>
  rw[e]at hm
  have hm:(memberP t zeroF st).2.1=false:=hm
  show(setLoop t (t.size+1) _ (memberP t zeroF st).2.1 _).2.1=false
  rw[hm,setLoop_false]
 | some y=>
  obtain⟨g,a1⟩:=y
  rw[e]at hm
  have hm:memberP t zeroF st=(g,true,atS st a1):=hm
  rw[hm]
  have:=setLoop_sim t (t.size+1) g (atS st a1)
  rw[show(atS st a1).at_=a1 from rfl]at this
  simp only
  cases e2:setLoopX t (t.size+1) g a1 with
  | none=>rw[e2]at this;exact this
  | some z=>rw[e2]at this;exact this
theorem set_sim (t:ByteArray)(st:PSt):SimF (setP t st) st (setX t st.at_):=by
 unfold setP setX
 simp only[nextB_is]
 by_cases h:isB t 94 st.at_=true
 ·have hR:=setR_sim t (adv st)
  rw[if_pos h,if_pos h]
  rw[show(adv st).at_=st.at_+1 from rfl]at hR
  cases e:setRX t (st.at_+1)with
  | none=>
   rw[e]at hR
   have hR:(setR t (adv st)).2.1=false:=hR
   rw[if_neg (by rw[hR];decide)]
   rfl
  | some y=>
   obtain⟨g,a1⟩:=y
   rw[e]at hR
   have hR:setR t (adv st)=(g,true,atS st a1):=hR
   rw[hR]
   rfl
 ·have hR:=setR_sim t st
  rw[if_neg h,if_neg h]
  cases e:setRX t st.at_ with
  | none=>
   rw[e]at hR
   have hR:(setR t st).2.1=false:=hR
   rw[if_neg (by rw[hR];decide)]
   rfl
  | some y=>
   obtain⟨g,a1⟩:=y
   rw[e]at hR
   have hR:setR t st=(g,true,atS st a1):=hR
   rw[hR]
   rfl
theorem allowed_sim (t:ByteArray)(st:PSt):SimF (allowedP t st) st (allowedX t st.at_):=by
 unfold allowedP allowedX
 simp only[nextB_is]
 by_cases h:isB t 91 st.at_=true
 ·rw[if_pos h,if_pos h]
  have:=set_sim t (adv st)
  rw[show(adv st).at_=st.at_+1 from rfl]at this
  cases e:setX t (st.at_+1)with
  | none=>rw[e]at this;exact this
  | some y=>rw[e]at this;exact this
 ·rw[if_neg h,if_neg h]
  by_cases h2:isB t 46 st.at_=true
  ·rw[if_pos h2,if_pos h2];rfl
  ·rw[if_neg h2,if_neg h2]
   have hS:=single_sim t spOut st
   cases e:singleX t spOut st.at_ with
   | none=>
    rw[e]at hS
    have hS:(singleP t spOut st).2.1=false:=hS
    rw[if_neg (by rw[hS];decide)]
    rfl
   | some y=>
    obtain⟨x,a1⟩:=y
    rw[e]at hS
    have hS:singleP t spOut st=(x,true,atS st a1):=hS
    rw[hS]
    rfl
theorem place_sim (t:ByteArray)(st:PSt):SimR (placeP t st) st (match allowedX t st.at_ with
  | none=>none
  | some (f,a1)=>some (.pl f,a1)):=by
 unfold placeP
 have hS:=allowed_sim t st
 cases e:allowedX t st.at_ with
 | none=>
  rw[e]at hS
  have hS:(allowedP t st).2.1=false:=hS
  rw[if_neg (by rw[hS];decide)]
  rfl
 | some y=>
  obtain⟨f,a1⟩:=y
  rw[e]at hS
  have hS:allowedP t st=(f,true,atS st a1):=hS
  rw[hS]
  rfl
def SimE (ex:PSt→Int×Bool×PSt)(exx:Nat→Option (Rx×Nat)):Prop:=∀st,SimR (ex st) st (exx st.at_)
theorem atom_sim {t:ByteArray}{ex:PSt→Int×Bool×PSt}{exx:Nat→Option (Rx×Nat)}(h:SimE ex exx)(st:PSt):SimR (atomP t ex st) st (atomX t exx st.at_):=by
 unfold atomP atomX
 simp only[nextB_is]
 by_cases h1:isB t 40 st.at_=true
 ·rw[if_pos h1,if_pos h1]
  have hS:=h (adv st)
  rw[show(adv st).at_=st.at_+1 from rfl]at hS
  cases e:exx (st.at_+1)with
  | none=>
   rw[e]at hS
   have hS:(ex (adv st)).2.1=false:=hS
   rw[if_neg (by rw[hS];simp)]
   rfl
  | some y=>
   obtain⟨r,a1⟩:=y
   rw[e]at hS
   have hS:ex (adv st)=(((st.nodes.length+r.sz - 1:Nat):Int),true,putR (adv st) r a1):=hS
   rw[hS]
   by_cases h2:isB t 41 a1=true
   ·rw[if_pos ⟨rfl,h2⟩]
    simp only[if_pos h2]
    rfl
   ·rw[if_neg (fun hh=>h2 hh.2)]
    simp only[if_neg h2]
    rfl
 ·rw[if_neg h1,if_neg h1]
  exact place_sim t st
theorem markX_flat {p:Int}(h:markK p≠0)(r:Rx)(nb pb:Nat):(markX (markK p) r).flat nb pb=r.flat nb pb++ [(markK p,((nb+r.sz - 1:Nat):Int),0)]∧(markX (markK p) r).sz=r.sz+1∧(markX (markK p) r).fns=r.fns∧(markX (markK p) r).np=r.np:=by
 unfold markK at*
 unfold markX
 split at h
 ·rename_i e;rw[if_pos e];exact⟨rfl,rfl,rfl,rfl⟩
 ·rename_i e
  rw[if_neg e]
  split at h
  ·rename_i e;rw[if_pos e];exact⟨rfl,rfl,rfl,rfl⟩
  ·rename_i e
   rw[if_neg e]
   split at h
   ·rename_i e;rw[if_pos e];exact⟨rfl,rfl,rfl,rfl⟩
   ·exact absurd rfl h
theorem piece_sim {t:ByteArray}{ex:PSt→Int×Bool×PSt}{exx:Nat→Option (Rx×Nat)}(h:SimE ex exx)(st:PSt):SimR (pieceP t ex st) st (pieceX t exx st.at_):=by
 unfold pieceP pieceX
 have hS:=atom_sim (t:=t) h st
 cases e:atomX t exx st.at_ with
 | none=>
  rw[e]at hS
  have hS:(atomP t ex st).2.1=false:=hS
  rw[if_neg (by rw[hS];decide)]
  rfl
 | some y=>
  obtain⟨r,a1⟩:=y
  rw[e]at hS
  have hS:atomP t ex st=(((st.nodes.length+r.sz - 1:Nat):Int),true,putR st r a1):=hS
  rw[hS]
  rw[if_pos rfl]
  simp only
  rw[show(putR st r a1).at_=a1 from rfl]
  by_cases hm:markK (peekP t a1)=0
  ·rw[if_pos hm,if_pos hm];rfl
  ·rw[if_neg hm,if_neg hm]
   obtain⟨f1,f2,f3,f4⟩:=markX_flat hm r st.nodes.length st.places.length
   show(_,true,addN (markK (peekP t a1),_,0) (adv (putR st r a1)))=(_,true,putR st (markX (markK (peekP t a1)) r) (a1+1))
   unfold putR addN adv
   rw[f1,f2,f3]
   have:=r.sz_pos
   simp[Rx.flat_len]
theorem putR_cat (st:PSt)(r r2:Rx)(a1 a2:Nat):addN (1,((st.nodes.length+r.sz - 1:Nat):Int),(((putR st r a1).nodes.length+r2.sz - 1:Nat):Int)) (putR (putR st r a1) r2 a2)=putR st (.cat r r2) a2:=by
 unfold putR addN
 simp only[PSt.mk.injEq,true_and]
 refine⟨?_, ?_⟩
 ·show _=st.nodes++(r.flat _ _++(r2.flat _ _++ [_]))
  simp only[List.length_append,r.flat_len,r.fns_len,List.append_assoc]
 ·show _=st.places++(r.fns++r2.fns)
  rw[List.append_assoc]
theorem putR_alt (st:PSt)(r r2:Rx)(a1 a2:Nat):addN (2,((st.nodes.length+r.sz - 1:Nat):Int),(((putR st r a1).nodes.length+r2.sz - 1:Nat):Int)) (putR (putR st r a1) r2 a2)=putR st (.alt r r2) a2:=by
 unfold putR addN
 simp only[PSt.mk.injEq,true_and]
 refine⟨?_, ?_⟩
 ·show _=st.nodes++(r.flat _ _++(r2.flat _ _++ [_]))
  simp only[List.length_append,r.flat_len,r.fns_len,List.append_assoc]
 ·show _=st.places++(r.fns++r2.fns)
  rw[List.append_assoc]
theorem putR_len (st:PSt)(r:Rx)(a:Nat):(putR st r a).nodes.length=st.nodes.length+r.sz:=by
 unfold putR;simp[r.flat_len]
theorem altLoop_bad (t:ByteArray)(ex:PSt→Int×Bool×PSt)(n:Nat)(x:Int)(st:PSt):(altLoop t ex n x false st).2.1=false:=by cases n<;> rfl
theorem exprLoop_bad (t:ByteArray)(ex:PSt→Int×Bool×PSt)(n:Nat)(x:Int)(st:PSt):(exprLoop t ex n x false st).2.1=false:=by cases n<;> rfl
theorem altLoop_sim {t:ByteArray}{ex:PSt→Int×Bool×PSt}{exx:Nat→Option (Rx×Nat)}(h:SimE ex exx)(st:PSt):∀(n:Nat) (r:Rx) (a:Nat),
  SimR (altLoop t ex n ((st.nodes.length+r.sz - 1:Nat):Int) true (putR st r a)) st (altLoopX t exx n r a):=by
 intro n
 induction n with
 | zero=>intro r a;rfl
 | succ k ih=>
  intro r a
  rw[altLoop,altLoopX,if_neg (by decide)]
  rw[show atPieceB t (putR st r a)=atPieceX t a from rfl]
  by_cases hp:atPieceX t a=false
  ·rw[if_pos hp,if_pos hp];rfl
  ·rw[if_neg hp,if_neg hp]
   have hS:=piece_sim (t:=t) h (putR st r a)
   rw[show(putR st r a).at_=a from rfl]at hS
   cases e:pieceX t exx a with
   | none=>
    rw[e]at hS
    have hS:(pieceP t ex (putR st r a)).2.1=false:=hS
    rw[hS]
    exact altLoop_bad _ _ _ _ _
   | some y=>
    obtain⟨r2,a2⟩:=y
    rw[e]at hS
    have hS:pieceP t ex (putR st r a)=((((putR st r a).nodes.length+r2.sz - 1:Nat):Int),true,putR (putR st r a) r2 a2):=hS
    rw[hS]
    simp only
    rw[putR_cat]
    have hlen:(putR (putR st r a) r2 a2).nodes.length=st.nodes.length+(Rx.cat r r2).sz - 1:=by
     rw[putR_len,putR_len];show _=st.nodes.length+(r.sz+r2.sz+1) - 1;omega
    rw[hlen]
    exact ih (.cat r r2) a2
theorem alt_sim {t:ByteArray}{ex:PSt→Int×Bool×PSt}{exx:Nat→Option (Rx×Nat)}(h:SimE ex exx)(st:PSt):SimR (altP t ex st) st (altX t exx st.at_):=by
 unfold altP altX
 have hS:=piece_sim (t:=t) h st
 cases e:pieceX t exx st.at_ with
 | none=>
  rw[e]at hS
  have hS:(pieceP t ex st).2.1=false:=hS
  rw[hS]
  exact altLoop_bad _ _ _ _ _
 | some y=>
  obtain⟨r,a1⟩:=y
  rw[e]at hS
  have hS:pieceP t ex st=(((st.nodes.length+r.sz - 1:Nat):Int),true,putR st r a1):=hS
  rw[hS]
  exact altLoop_sim h st _ r a1
theorem exprLoop_sim {t:ByteArray}{ex:PSt→Int×Bool×PSt}{exx:Nat→Option (Rx×Nat)}(h:SimE ex exx)(st:PSt):∀(n:Nat) (r:Rx) (a:Nat),
  SimR (exprLoop t ex n ((st.nodes.length+r.sz - 1:Nat):Int) true (putR st r a)) st (exprLoopX t exx n r a):=by
 intro n
 induction n with
 | zero=>intro r a;rfl
 | succ k ih=>
  intro r a
  rw[exprLoop,exprLoopX,if_neg (by decide)]
  rw[show nextB t 124 (putR st r a)=isB t 124 a from rfl]
  by_cases hp:isB t 124 a=false
  ·rw[if_pos hp,if_pos hp];rfl
  ·rw[if_neg hp,if_neg hp]
   have hS:=alt_sim (t:=t) h (adv (putR st r a))
   rw[show(adv (putR st r a)).at_=a+1 from rfl]at hS
   have he:∀r2 a2,putR (adv (putR st r a)) r2 a2=putR (putR st r a) r2 a2:=fun _ _=>rfl
   cases e:altX t exx (a+1)with
   | none=>
    rw[e]at hS
    have hS:(altP t ex (adv (putR st r a))).2.1=false:=hS
    rw[hS]
    exact exprLoop_bad _ _ _ _ _
   | some y=>
    obtain⟨r2,a2⟩:=y
    rw[e]at hS
    have hS:altP t ex (adv (putR st r a))=((((putR st r a).nodes.length+r2.sz - 1:Nat):Int),true,putR (putR st r a) r2 a2):=hS
    rw[hS]
    simp only
    rw[putR_alt]
    have hlen:(putR (putR st r a) r2 a2).nodes.length=st.nodes.length+(Rx.alt r r2).sz - 1:=by
     rw[putR_len,putR_len];show _=st.nodes.length+(r.sz+r2.sz+1) - 1;omega
    rw[hlen]
    exact ih (.alt r r2) a2
theorem expr_sim (t:ByteArray):∀f,SimE (exprP t f) (exprX t f):=by
 intro f
 induction f with
 | zero=>intro st;rfl
 | succ k ih=>
  intro st
  rw[exprP,exprX]
  have hS:=alt_sim (t:=t) ih st
  cases e:altX t (exprX t k) st.at_ with
  | none=>
   rw[e]at hS
   have hS:(altP t (exprP t k) st).2.1=false:=hS
   rw[hS]
   exact exprLoop_bad _ _ _ _ _
  | some y=>
   obtain⟨r,a1⟩:=y
   rw[e]at hS
   have hS:altP t (exprP t k) st=(((st.nodes.length+r.sz - 1:Nat):Int),true,putR st r a1):=hS
   rw[hS]
   exact exprLoop_sim ih st _ r a1
end Go.Stn

namespace Go.Proofs.Ytgjgjgihceijnaa
open Go.RowKit Go.Stn
theorem letters_lod:∀c:Nat,c<256→amB c lettersT=lodB (c:Int):=by decide+kernel
theorem cl_plain:∀c:Nat,c<256→c≠92→plainB (c:Int) spIn=(visB (c:Int) && !amB c spCl):=by decide+kernel
theorem peek_byte {s:ByteArray}{i:Nat}(h:i<s.size)(b:Nat):isB s (b:Int) i=decide (bt s i=b):=by
 unfold isB;rw[peekP_at h];congr 1;simp only[eq_iff_iff];omega
theorem peek_end {s:ByteArray}{i:Nat}(h:s.size≤i)(b:Nat):isB s (b:Int) i=false:=by
 unfold isB;rw[peekP_end h,decide_eq_false_iff_not];omega
def optR (p:Nat×Nat×Bool):Option (Int×Nat):=if p.2.2=true then some ((p.1:Int),p.2.1)else none
theorem esc_same {s:ByteArray}{i:Nat}:escX s i=if s.size≤i then none else optR ((escR (bt s i)).1,i+1,(escR (bt s i)).2):=by
 by_cases h:s.size≤i
 ·rw[if_pos h]
  have a1:=peek_end h 110
  have a2:=peek_end h 115
  unfold escX
  rw[if_neg (by rw[show((110:Nat):Int)=110 from rfl]at a1;rw[a1];simp),if_neg (by rw[show((115:Nat):Int)=115 from rfl]at a2;rw[a2];simp),peekP_end h,if_neg (by decide)]
 ·rw[if_neg h]
  have hlt:i<s.size:=by omega
  have a1:isB s 110 i=decide (bt s i=110):=peek_byte hlt 110
  have a2:isB s 115 i=decide (bt s i=115):=peek_byte hlt 115
  unfold escX
  rw[a1,a2,peekP_at hlt,←letters_lod _ (bt_lt s i)]
  unfold escR optR
  by_cases h1:bt s i=110
  ·simp[h1]
  ·by_cases h2:bt s i=115
   ·simp[h2]
   ·simp[h1,h2]
theorem single_item {s:ByteArray}{i:Nat}:singleX s spIn i=optR (itemR s i):=by
 by_cases h:s.size≤i
 ·have a1:isB s 92 i=false:=peek_end h 92
  unfold singleX itemR
  rw[a1,if_pos h,peekP_end h]
  rfl
 ·have hlt:i<s.size:=by omega
  have a1:isB s 92 i=decide (bt s i=92):=peek_byte hlt 92
  unfold singleX itemR
  rw[a1,if_neg h]
  by_cases h1:bt s i=92
  ·rw[if_pos (by simp[h1]),if_pos h1,esc_same]
   by_cases h2:s.size≤i+1
   ·rw[if_pos h2,if_pos h2];rfl
   ·rw[if_neg h2,if_neg h2]
  ·rw[if_neg (by simp[h1]),if_neg h1,peekP_at hlt,cl_plain _ (bt_lt s i) h1]
   rfl
end Go.Proofs.Ytgjgjgihceijnaa

