/- Texts put together: RfPure3, RfPure4, RfAdd, RfPlace. -/
import Derived.Test.YtgjgjgihceijnaaG04
import Derived.Test.YtgjgjgihceijnaaG05
import Derived.Deep.RegionLaw
import Derived.Deep.Cut
import Derived.Deep.DrawnRows
import Derived.Great.BuildSlice
namespace Go.Stn
def sameL (a b:PSt):Prop:=b.rules=a.rules∧b.nodes=a.nodes∧b.places=a.places
theorem sameL.refl (a:PSt):sameL a a:=⟨rfl,rfl,rfl⟩
theorem sameL.adv (a:PSt):sameL a (Go.Stn.adv a):=⟨rfl,rfl,rfl⟩
theorem sameL.trans {a b c:PSt}(h:sameL a b)(k:sameL b c):sameL a c:=⟨k.1.trans h.1,k.2.1.trans h.2.1,k.2.2.trans h.2.2⟩
theorem escP_same (t:ByteArray)(st:PSt):sameL st (escP t st).2.2:=by
 unfold escP
 by_cases h1:nextB t 110 st=true
 ·rw[if_pos h1];exact sameL.adv st
 ·rw[if_neg h1]
  by_cases h2:nextB t 115 st=true
  ·rw[if_pos h2];exact sameL.adv st
  ·rw[if_neg h2]
   split
   ·exact sameL.adv st
   ·exact sameL.refl st
theorem singleP_same (t sp:ByteArray)(st:PSt):sameL st (singleP t sp st).2.2:=by
 unfold singleP
 by_cases h1:nextB t 92 st=true
 ·rw[if_pos h1];exact(sameL.adv st).trans (escP_same t _)
 ·rw[if_neg h1]
  split
  ·exact sameL.adv st
  ·exact sameL.refl st
theorem memberP_same (t:ByteArray)(f:Nat→Bool)(st:PSt):sameL st (memberP t f st).2.2:=by
 have h1:=singleP_same t spIn st
 obtain⟨b1,ok1,s1,hS1⟩:∃b ok s,singleP t spIn st=(b,ok,s):=⟨_,_,_,rfl⟩
 rw[hS1]at h1
 cases ok1 with
 | false=>rw[memberP_no1 hS1];exact h1
 | true=>
  cases hn:nextB t 45 s1 with
  | false=>rw[memberP_one hS1 hn];exact h1
  | true=>
   have h2:=singleP_same t spIn (adv s1)
   obtain⟨b2,ok2,s2,hS2⟩:∃b ok s,singleP t spIn (adv s1)=(b,ok,s):=⟨_,_,_,rfl⟩
   rw[hS2]at h2
   have h3:=(h1.trans (sameL.adv s1)).trans h2
   by_cases hb:ok2=false∨b2<b1
   ·rw[memberP_no2 hS1 hn hS2 hb];exact h3
   ·have ho:ok2=true:=by cases ok2<;> simp_all
    subst ho
    rw[memberP_two hS1 hn hS2 (by simp at hb;omega)];exact h3
theorem setLoop_same (t:ByteArray):∀(n:Nat) (f:Nat→Bool) (ok:Bool) (st:PSt),sameL st (setLoop t n f ok st).2.2:=by
 intro n
 induction n with
 | zero=>intro f ok st;exact sameL.refl st
 | succ e ih=>
  intro f ok st
  rw[setLoop]
  split
  ·exact sameL.refl st
  ·split
   ·exact sameL.adv st
   ·exact(memberP_same t f st).trans (ih _ _ _)
theorem setR_same (t:ByteArray)(st:PSt):sameL st (setR t st).2.2:=(memberP_same t zeroF st).trans (setLoop_same t _ _ _ _)
theorem setP_same (t:ByteArray)(st:PSt):sameL st (setP t st).2.2:=by
 unfold setP
 by_cases h1:nextB t 94 st=true
 ·rw[if_pos h1]
  have:=(sameL.adv st).trans (setR_same t (adv st))
  split<;> exact this
 ·rw[if_neg h1]
  have:=setR_same t st
  split<;> exact this
theorem allowedP_same (t:ByteArray)(st:PSt):sameL st (allowedP t st).2.2:=by
 unfold allowedP
 by_cases h1:nextB t 91 st=true
 ·rw[if_pos h1];exact(sameL.adv st).trans (setP_same t _)
 ·rw[if_neg h1]
  by_cases h2:nextB t 46 st=true
  ·rw[if_pos h2];exact sameL.adv st
  ·rw[if_neg h2]
   have:=singleP_same t spOut st
   split<;> exact this
end Go.Stn

namespace Go.Stn
def addN (x:Int×Int×Int)(st:PSt):PSt:= {st with nodes:=st.nodes++ [x]}
def addP (f:Nat→Bool)(st:PSt):PSt:= {st with places:=st.places++ [f]}
def placeP (t:ByteArray)(st:PSt):Int×Bool×PSt:=
 if(allowedP t st).2.1=true then(((allowedP t st).2.2.nodes.length:Int),true,addN (0,((allowedP t st).2.2.places.length:Int),0) (addP (allowedP t st).1 (allowedP t st).2.2))
 else(0,false,(allowedP t st).2.2)
def atPieceB (t:ByteArray)(st:PSt):Bool:=
 decide (peekP t st.at_=40∨peekP t st.at_=91∨peekP t st.at_=46∨peekP t st.at_=92) || plainB (peekP t st.at_) spOut
def atomP (t:ByteArray)(ex:PSt→Int×Bool×PSt)(st:PSt):Int×Bool×PSt:=
 if nextB t 40 st=true then
  (if(ex (adv st)).2.1=true∧nextB t 41 (ex (adv st)).2.2=true then((ex (adv st)).1,true,adv (ex (adv st)).2.2)else(0,false,(ex (adv st)).2.2))
 else placeP t st
def markK (p:Int):Int:=if p=63 then 3 else if p=43 then 4 else if p=42 then 5 else 0
def pieceP (t:ByteArray)(ex:PSt→Int×Bool×PSt)(st:PSt):Int×Bool×PSt:=
 if(atomP t ex st).2.1=true then
  (if markK (peekP t (atomP t ex st).2.2.at_)=0 then((atomP t ex st).1,true,(atomP t ex st).2.2)
   else(((atomP t ex st).2.2.nodes.length:Int),true,addN (markK (peekP t (atomP t ex st).2.2.at_),(atomP t ex st).1,0) (adv (atomP t ex st).2.2)))
 else(0,false,(atomP t ex st).2.2)
def altLoop (t:ByteArray)(ex:PSt→Int×Bool×PSt):Nat→Int→Bool→PSt→Int×Bool×PSt
 | 0,whole,_,st=>(whole,false,st)
 | n+1,whole,ok,st=>
  if ok=false then(whole,false,st)
  else if atPieceB t st=false then(whole,true,st)
  else altLoop t ex n ((pieceP t ex st).2.2.nodes.length:Int) (pieceP t ex st).2.1 (addN (1,whole,(pieceP t ex st).1) (pieceP t ex st).2.2)
def altP (t:ByteArray)(ex:PSt→Int×Bool×PSt)(st:PSt):Int×Bool×PSt:=
 altLoop t ex (t.size+1) (pieceP t ex st).1 (pieceP t ex st).2.1 (pieceP t ex st).2.2
def exprLoop (t:ByteArray)(ex:PSt→Int×Bool×PSt):Nat→Int→Bool→PSt→Int×Bool×PSt
 | 0,whole,_,st=>(whole,false,st)
 | n+1,whole,ok,st=>
  if ok=false then(whole,false,st)
  else if nextB t 124 st=false then(whole,true,st)
  else exprLoop t ex n ((altP t ex (adv st)).2.2.nodes.length:Int) (altP t ex (adv st)).2.1 (addN (2,whole,(altP t ex (adv st)).1) (altP t ex (adv st)).2.2)
def exprP (t:ByteArray):Nat→PSt→Int×Bool×PSt
 | 0,st=>(0,false,st)
 | f+1,st=>exprLoop t (exprP t f) (t.size+1) (altP t (exprP t f) st).1 (altP t (exprP t f) st).2.1 (altP t (exprP t f) st).2.2
def Gr (t:ByteArray)(a b:PSt):Prop:=a.at_≤b.at_∧b.at_≤t.size∧b.nodes.length+3*a.at_≤a.nodes.length+3*b.at_∧b.places.length+a.at_≤a.places.length+b.at_
def GrS (t:ByteArray)(a b:PSt):Prop:=(b.nodes.length+1+3*a.at_≤a.nodes.length+3*b.at_∧a.at_<b.at_∧b.at_≤t.size∧b.places.length+a.at_≤a.places.length+b.at_)∨
 (b.nodes.length=a.nodes.length∧b.at_=a.at_∧b.places.length=a.places.length∧b.at_≤t.size)
theorem Gr.refl {t:ByteArray}{a:PSt}(h:a.at_≤t.size):Gr t a a:=⟨Nat.le_refl _,h,Nat.le_refl _,Nat.le_refl _⟩
theorem Gr.trans {t:ByteArray}{a b c:PSt}(h:Gr t a b)(k:Gr t b c):Gr t a c:=by
 obtain⟨h1,h2,h3,h4⟩:=h
 obtain⟨k1,k2,k3,k4⟩:=k
 exact⟨by omega,k2,by omega,by omega⟩
theorem GrS.gr {t:ByteArray}{a b:PSt}(h:GrS t a b):Gr t a b:=by
 rcases h with⟨h1,h2,h3,h4⟩ | ⟨h1,h2,h3,h4⟩
 ·exact⟨by omega,h3,by omega,h4⟩
 ·exact⟨by omega,h4,by omega,by omega⟩
theorem setLoop_at {t:ByteArray}:∀(n:Nat) (f:Nat→Bool) (ok:Bool) (st:PSt),st.at_≤t.size→st.at_≤(setLoop t n f ok st).2.2.at_∧(setLoop t n f ok st).2.2.at_≤t.size:=by
 intro n
 induction n with
 | zero=>intro f ok st h;exact⟨Nat.le_refl _,h⟩
 | succ e ih=>
  intro f ok st h
  rw[setLoop]
  split
  ·exact⟨Nat.le_refl _,h⟩
  ·split
   ·rename_i hn;have:=nextB_lt (by omega) hn;simp only[adv_at];omega
   ·have h1:=memberP_at (f:=f) h
    have h2:=ih (memberP t f st).1 (memberP t f st).2.1 (memberP t f st).2.2 h1.2
    omega
theorem setR_at {t:ByteArray}{st:PSt}(h:st.at_≤t.size):st.at_≤(setR t st).2.2.at_∧(setR t st).2.2.at_≤t.size:=by
 have h1:=memberP_at (f:=zeroF) h
 have h2:=setLoop_at (t:=t) (t.size+1) (memberP t zeroF st).1 (memberP t zeroF st).2.1 (memberP t zeroF st).2.2 h1.2
 unfold setR
 omega
theorem setP_at {t:ByteArray}{st:PSt}(h:st.at_≤t.size):st.at_≤(setP t st).2.2.at_∧(setP t st).2.2.at_≤t.size:=by
 unfold setP
 by_cases h1:nextB t 94 st=true
 ·rw[if_pos h1]
  have hl:=nextB_lt (by omega) h1
  have:=setR_at (t:=t) (st:=adv st) (by rw[adv_at];omega)
  rw[adv_at]at this
  split<;> (simp only;omega)
 ·rw[if_neg h1]
  have:=setR_at (t:=t) h
  split<;> exact this
theorem allowedP_at {t:ByteArray}{st:PSt}(h:st.at_≤t.size):st.at_≤(allowedP t st).2.2.at_∧(allowedP t st).2.2.at_≤t.size:=by
 unfold allowedP
 by_cases h1:nextB t 91 st=true
 ·rw[if_pos h1]
  have hl:=nextB_lt (by omega) h1
  have:=setP_at (t:=t) (st:=adv st) (by rw[adv_at];omega)
  rw[adv_at]at this;omega
 ·rw[if_neg h1]
  by_cases h2:nextB t 46 st=true
  ·rw[if_pos h2];have:=nextB_lt (by omega) h2;simp only[adv_at];omega
  ·rw[if_neg h2]
   have:=singleP_at (sp:=spOut) h
   split<;> exact this
theorem allowedP_adv {t:ByteArray}{st:PSt}(hok:atPieceB t st=true)(hn:nextB t 40 st=false):st.at_<(allowedP t st).2.2.at_:=by
 unfold allowedP
 by_cases h1:nextB t 91 st=true
 ·rw[if_pos h1]
  have hl:=nextB_lt (by omega) h1
  have:=setP_at (t:=t) (st:=adv st) (by rw[adv_at];omega)
  rw[adv_at]at this;omega
 ·rw[if_neg h1]
  by_cases h2:nextB t 46 st=true
  ·rw[if_pos h2];simp only[adv_at];omega
  ·rw[if_neg h2]
   have h3:st.at_<(singleP t spOut st).2.2.at_:=by
    unfold singleP
    by_cases h4:nextB t 92 st=true
    ·rw[if_pos h4]
     have hl:=nextB_lt (by omega) h4
     have:=escP_at (t:=t) (st:=adv st) (by rw[adv_at];omega)
     rw[adv_at]at this;omega
    ·rw[if_neg h4]
     have h5:plainB (peekP t st.at_) spOut=true:=by
      unfold atPieceB at hok
      rw[Bool.or_eq_true,decide_eq_true_eq]at hok
      rcases hok with(e | e | e | e) | e
      ·unfold nextB at hn;rw[decide_eq_false_iff_not]at hn;exact absurd e hn
      ·unfold nextB at h1;rw[decide_eq_true_eq]at h1;exact absurd e h1
      ·unfold nextB at h2;rw[decide_eq_true_eq]at h2;exact absurd e h2
      ·unfold nextB at h4;rw[decide_eq_true_eq]at h4;exact absurd e h4
      ·exact e
     rw[if_pos h5];simp only[adv_at];omega
   split<;> exact h3
theorem GrS_same {t:ByteArray}{a b:PSt}(h:sameL a b)(h1:a.at_≤b.at_)(h2:b.at_≤t.size):GrS t a b:=by
 have e1:b.nodes.length=a.nodes.length:=by rw[h.2.1]
 have e2:b.places.length=a.places.length:=by rw[h.2.2]
 by_cases e:a.at_=b.at_
 ·exact .inr ⟨e1,e.symm,e2,h2⟩
 ·exact .inl ⟨by omega,by omega,h2,by omega⟩
theorem allowedP_adv2 {t:ByteArray}{st:PSt}(hok:(allowedP t st).2.1=true):st.at_<(allowedP t st).2.2.at_:=by
 unfold allowedP at hok ⊢
 by_cases h1:nextB t 91 st=true
 ·rw[if_pos h1]
  have hl:=nextB_lt (by omega) h1
  have:=setP_at (t:=t) (st:=adv st) (by rw[adv_at];omega)
  rw[adv_at]at this;omega
 ·rw[if_neg h1]at hok ⊢
  by_cases h2:nextB t 46 st=true
  ·rw[if_pos h2];simp only[adv_at];omega
  ·rw[if_neg h2]at hok ⊢
   by_cases h3:(singleP t spOut st).2.1=true
   ·rw[if_pos h3];exact singleP_adv h3
   ·rw[if_neg h3]at hok;simp at hok
theorem placeP_gr {t:ByteArray}{st:PSt}(h:st.at_≤t.size):GrS t st (placeP t st).2.2:=by
 have h1:=allowedP_at h
 have h2:=allowedP_same t st
 have e1:(allowedP t st).2.2.nodes.length=st.nodes.length:=by rw[h2.2.1]
 have e2:(allowedP t st).2.2.places.length=st.places.length:=by rw[h2.2.2]
 unfold placeP
 by_cases hok:(allowedP t st).2.1=true
 ·have h3:=allowedP_adv2 hok
  rw[if_pos hok]
  left
  refine⟨?_,h3,h1.2, ?_⟩
  ·simp only[addN,addP,List.length_append,List.length_singleton];omega
  ·simp only[addN,addP,List.length_append,List.length_singleton];omega
 ·rw[if_neg hok];exact GrS_same h2 h1.1 h1.2
def ExOk (t:ByteArray)(ex:PSt→Int×Bool×PSt):Prop:=∀st,st.at_≤t.size→Gr t st (ex st).2.2
theorem Gr_adv {t:ByteArray}{a b:PSt}(h:Gr t (adv a) b):GrS t a b:=by
 obtain⟨h1,h2,h3,h4⟩:=h
 rw[adv_at]at h1 h3 h4
 have e1:(adv a).nodes=a.nodes:=rfl
 have e2:(adv a).places=a.places:=rfl
 rw[e1]at h3
 rw[e2]at h4
 exact .inl ⟨by omega,by omega,h2,by omega⟩
theorem atomP_gr {t:ByteArray}{ex:PSt→Int×Bool×PSt}(hx:ExOk t ex){st:PSt}(h:st.at_≤t.size):GrS t st (atomP t ex st).2.2:=by
 unfold atomP
 by_cases h1:nextB t 40 st=true
 ·rw[if_pos h1]
  have hl:=nextB_lt (by omega) h1
  have hg:=hx (adv st) (by rw[adv_at];omega)
  split
  ·rename_i hc
   have hl2:=nextB_lt (by omega) hc.2
   refine Gr_adv (hg.trans ⟨by rw[adv_at];omega,by rw[adv_at];omega, ?_, ?_⟩)
   ·show(ex (adv st)).2.2.nodes.length+3*(ex (adv st)).2.2.at_≤(ex (adv st)).2.2.nodes.length+3*(adv (ex (adv st)).2.2).at_;rw[adv_at];omega
   ·show(ex (adv st)).2.2.places.length+(ex (adv st)).2.2.at_≤(ex (adv st)).2.2.places.length+(adv (ex (adv st)).2.2).at_;rw[adv_at];omega
  ·exact Gr_adv hg
 ·rw[if_neg h1];exact placeP_gr h
theorem markK_lt {t:ByteArray}{a:Nat}(h:markK (peekP t a)≠0):a<t.size:=by
 rcases Nat.lt_or_ge a t.size with h1 | h1
 ·exact h1
 ·rw[peekP_end h1]at h;exact absurd rfl h
theorem pieceP_gr {t:ByteArray}{ex:PSt→Int×Bool×PSt}(hx:ExOk t ex){st:PSt}(h:st.at_≤t.size):GrS t st (pieceP t ex st).2.2:=by
 have hg:=atomP_gr hx h
 unfold pieceP
 split
 ·split
  ·exact hg
  ·rename_i hm
   have hl:=markK_lt hm
   left
   have e1:(addN (markK (peekP t (atomP t ex st).2.2.at_),(atomP t ex st).1,0) (adv (atomP t ex st).2.2)).nodes.length=(atomP t ex st).2.2.nodes.length+1:=by simp[addN,adv]
   have e2:(addN (markK (peekP t (atomP t ex st).2.2.at_),(atomP t ex st).1,0) (adv (atomP t ex st).2.2)).places=(atomP t ex st).2.2.places:=rfl
   have e3:(addN (markK (peekP t (atomP t ex st).2.2.at_),(atomP t ex st).1,0) (adv (atomP t ex st).2.2)).at_=(atomP t ex st).2.2.at_+1:=rfl
   simp only[e1,e2,e3]
   rcases hg with⟨g1,g2,g3,g4⟩ | ⟨g1,g2,g3,g4⟩
   ·exact⟨by omega,by omega,by omega,by omega⟩
   ·exact⟨by omega,by omega,by omega,by omega⟩
 ·exact hg
theorem pieceP_adv {t:ByteArray}{ex:PSt→Int×Bool×PSt}(hx:ExOk t ex){st:PSt}(hp:atPieceB t st=true):st.at_<(pieceP t ex st).2.2.at_:=by
 have ha:st.at_<(atomP t ex st).2.2.at_:=by
  unfold atomP
  by_cases h1:nextB t 40 st=true
  ·rw[if_pos h1]
   have hl:=nextB_lt (by omega) h1
   have hg:=(hx (adv st) (by rw[adv_at];omega)).1
   rw[adv_at]at hg
   split
   ·simp only[adv_at];omega
   ·simp only;omega
  ·rw[if_neg h1]
   have h2:=allowedP_adv hp (by simpa using h1)
   unfold placeP
   split
   ·exact h2
   ·exact h2
 unfold pieceP
 split
 ·split
  ·exact ha
  ·show st.at_<(atomP t ex st).2.2.at_+1;omega
 ·exact ha
theorem altLoop_gr {t:ByteArray}{ex:PSt→Int×Bool×PSt}(hx:ExOk t ex):∀(n:Nat) (whole:Int) (ok:Bool) (st:PSt),st.at_≤t.size→Gr t st (altLoop t ex n whole ok st).2.2:=by
 intro n
 induction n with
 | zero=>intro whole ok st h;exact Gr.refl h
 | succ e ih=>
  intro whole ok st h
  rw[altLoop]
  split
  ·exact Gr.refl h
  ·split
   ·exact Gr.refl h
   ·rename_i hp
    have hp:atPieceB t st=true:=by simpa using hp
    have ha:=pieceP_adv hx hp
    have hg:=pieceP_gr hx h
    have h1:Gr t st (addN (1,whole,(pieceP t ex st).1) (pieceP t ex st).2.2):=by
     rcases hg with⟨g1,g2,g3,g4⟩ | ⟨g1,g2,g3,g4⟩
     ·exact⟨by show st.at_≤(pieceP t ex st).2.2.at_;omega,g3,by simp only[addN,List.length_append,List.length_singleton];omega,g4⟩
     ·omega
    exact h1.trans (ih _ _ _ h1.2.1)
theorem altP_gr {t:ByteArray}{ex:PSt→Int×Bool×PSt}(hx:ExOk t ex){st:PSt}(h:st.at_≤t.size):Gr t st (altP t ex st).2.2:=by
 have hg:=(pieceP_gr hx h).gr
 exact hg.trans (altLoop_gr hx _ _ _ _ hg.2.1)
theorem exprLoop_gr {t:ByteArray}{ex:PSt→Int×Bool×PSt}(hx:ExOk t ex):∀(n:Nat) (whole:Int) (ok:Bool) (st:PSt),st.at_≤t.size→Gr t st (exprLoop t ex n whole ok st).2.2:=by
 intro n
 induction n with
 | zero=>intro whole ok st h;exact Gr.refl h
 | succ e ih=>
  intro whole ok st h
  rw[exprLoop]
  split
  ·exact Gr.refl h
  ·split
   ·exact Gr.refl h
   ·rename_i hp
    have hl:=nextB_lt (by omega) (show nextB t 124 st=true by simpa using hp)
    have hg:=Gr_adv (altP_gr hx (st:=adv st) (by rw[adv_at];omega))
    have h1:Gr t st (addN (2,whole,(altP t ex (adv st)).1) (altP t ex (adv st)).2.2):=by
     have ha:=(altP_gr hx (st:=adv st) (by rw[adv_at];omega)).1
     rw[adv_at]at ha
     rcases hg with⟨g1,g2,g3,g4⟩ | ⟨g1,g2,g3,g4⟩
     ·exact⟨by show st.at_≤(altP t ex (adv st)).2.2.at_;omega,g3,by simp only[addN,List.length_append,List.length_singleton];omega,g4⟩
     ·omega
    exact h1.trans (ih _ _ _ h1.2.1)
theorem exprP_ok (t:ByteArray):∀f,ExOk t (exprP t f):=by
 intro f
 induction f with
 | zero=>intro st h;exact Gr.refl h
 | succ e ih=>
  intro st h
  have hg:=altP_gr ih h
  exact hg.trans (exprLoop_gr ih _ _ _ _ hg.2.1)
theorem altLoop_false (t:ByteArray)(ex:PSt→Int×Bool×PSt)(n:Nat)(whole:Int)(st:PSt):altLoop t ex n whole false st=(whole,false,st):=by cases n<;> rfl
theorem altLoop_done {t:ByteArray}{ex:PSt→Int×Bool×PSt}{n:Nat}{whole:Int}{st:PSt}(h:atPieceB t st=false):altLoop t ex (n+1) whole true st=(whole,true,st):=by
 rw[altLoop,if_neg (by decide),if_pos h]
theorem altLoop_more {t:ByteArray}{ex:PSt→Int×Bool×PSt}{n:Nat}{whole:Int}{st:PSt}(h:atPieceB t st=true):
  altLoop t ex (n+1) whole true st=altLoop t ex n ((pieceP t ex st).2.2.nodes.length:Int) (pieceP t ex st).2.1 (addN (1,whole,(pieceP t ex st).1) (pieceP t ex st).2.2):=by
 rw[altLoop,if_neg (by decide),if_neg (by rw[h];decide)]
theorem exprLoop_false (t:ByteArray)(ex:PSt→Int×Bool×PSt)(n:Nat)(whole:Int)(st:PSt):exprLoop t ex n whole false st=(whole,false,st):=by cases n<;> rfl
theorem exprLoop_done {t:ByteArray}{ex:PSt→Int×Bool×PSt}{n:Nat}{whole:Int}{st:PSt}(h:nextB t 124 st=false):exprLoop t ex (n+1) whole true st=(whole,true,st):=by
 rw[exprLoop,if_neg (by decide),if_pos h]
theorem exprLoop_more {t:ByteArray}{ex:PSt→Int×Bool×PSt}{n:Nat}{whole:Int}{st:PSt}(h:nextB t 124 st=true):
  exprLoop t ex (n+1) whole true st=exprLoop t ex n ((altP t ex (adv st)).2.2.nodes.length:Int) (altP t ex (adv st)).2.1 (addN (2,whole,(altP t ex (adv st)).1) (altP t ex (adv st)).2.2):=by
 rw[exprLoop,if_neg (by decide),if_neg (by rw[h];decide)]
end Go.Stn

namespace Go.Proofs.Ytgjgjgihceijnaa
open Go.RowKit Go.Stn
theorem Try.infoNode:(Try.prog.info? 191).map (fun i=>(i.zero,i.size,i.bytes))=some (some (.agg #[.int .i64 0,.int .i64 0,.int .i64 0]),3,24):=by kernel_rfl
set_option maxRecDepth 100000 in
set_option maxHeartbeats 1000000 in
theorem add_any (t:ByteArray)(st:PSt)(x y z:Int)(rb base:Nat)(vr vn vp:Value)(w:World)(h:Rd w rb base w.heap.size t st vr vn vp)(hn:st.nodes.length≤100000):
  Calls Try.prog 131 #[.pointer (some ⟨rb,0,none⟩),.agg #[.int .i64 x,.int .i64 y,.int .i64 z]] w fun e w'=>e= .returned (.int .i64 st.nodes.length)∧RdOut w rb base t vr vn vp (addN (x,y,z) st) w':=by
 have HR0:=hidK (h.below ((Below.refl _ _).alloc (Nat.le_refl _) (.cells #[.int .i64 x,.int .i64 y,.int .i64 z] 191)))
 have HB0:=hidK ((Below.refl w.heap.size w).alloc (Nat.le_refl _) (.cells #[.int .i64 x,.int .i64 y,.int .i64 z] 191))
 have g0:(w.alloc (.cells #[.int .i64 x,.int .i64 y,.int .i64 z] 191)).cell? ⟨w.heap.size,0,none⟩=some (.int .i64 x):=by rw[World.cell?_alloc_new];rfl
 have g1:(w.alloc (.cells #[.int .i64 x,.int .i64 y,.int .i64 z] 191)).cell? ⟨w.heap.size,1,none⟩=some (.int .i64 y):=by rw[World.cell?_alloc_new];rfl
 have g2:(w.alloc (.cells #[.int .i64 x,.int .i64 y,.int .i64 z] 191)).cell? ⟨w.heap.size,2,none⟩=some (.int .i64 z):=by rw[World.cell?_alloc_new];rfl
 have hsz0:(w.alloc (.cells #[.int .i64 x,.int .i64 y,.int .i64 z] 191)).heap.size=w.heap.size+1:=by simp
 go_enter Try.func131,Try.ntmps131
 go_wp2_with fail
 generalize w.alloc (.cells #[.int .i64 x,.int .i64 y,.int .i64 z] 191)=W at*
 have c3:=HR0.out.c3
 have hrb:rb<w.heap.size:=by have:=h.hb;have:=h.hbt;omega
 have hbs:base≤W.heap.size:=by have:=h.hbt;omega
 have hrne:some rb≠vn.ownBlock:=fun e=>by have:=h.rn.lt rb e.symm;have:=h.hb;omega
 have f3:=HR0.out.fz 3
 go_region_law ((refine step_app1 W.drew rfl (.tmp 10) (.tmp 12) 81 rfl base 191 (.agg #[.int .i64 0,.int .i64 0,.int .i64 0]) 3 24 Try.underlying81 Try.infoNode rfl (by decide) (by decide) vn st.nodes.length (cells3' st.nodes) [.int .i64 x,.int .i64 y,.int .i64 z] _ (by simp[Act.eval]) HR0.out.rn _ rfl (by simp[Act.eval]) rfl (by simp[Value.oneCell']) (by omega) hbs ?_;intro g4 cap4 w4 hown4 hgrow4 hat4 hlt4;have m3:=((grow_cell hgrow4 (k:=rb) (by show rb<W.heap.size;omega) hrne).1 3).trans c3;have n3:=((grow_cell hgrow4 (k:=rb) (by show rb<W.heap.size;omega) hrne).2 3).trans f3;have HM:=hidK (HR0.out.drew.moreN (x:=(x,y,z)) hown4 hgrow4 hat4 hlt4)))
 all_goals
  go_wp2
  go_ret
  refine⟨?_,_,_,_,HM.out.1.raise,(Fr.of_grown (grown_of_below HB0.out (Nat.le_refl _) (some rb))).trans HM.out.2.of_drew⟩
  first | rfl | (simp;done) | (congr 2;omega)
end Go.Proofs.Ytgjgjgihceijnaa

namespace Go.Proofs.Ytgjgjgihceijnaa
open Go.RowKit Go.Stn
theorem fill_bits (f:Nat→Bool)(cells:Array Value)(h:cells.size=256):Instr.fill (fun i=>some (i*256,256)) cells [(0,.agg (bitL f).toArray)]=some (bitL f).toArray:=by
 have hf:=Go.Great.fill_whole (s:=256) (by decide) [.agg (bitL f).toArray] cells (fun v hv=>by rw[List.mem_singleton]at hv;subst hv;exact bitL_size f) (by simp[h])
 have e:([Value.agg (bitL f).toArray].flatMap fun v=>v.cells.toList).toArray=(bitL f).toArray:=by simp[Value.cells]
 rw[e]at hf
 exact hf
def aggCells (v:Value):Array Value:=match v with
 | .agg cs=>cs
 | _=> #[]
def isAgg256 (v:Value):Prop:=∃f,v= .agg (bitL f).toArray
theorem Try.infoBytes:(Try.prog.info? 187).map (fun i=>(i.zero,i.size,i.bytes))=some (some (.agg Try.zeroCells187),256,256):=by kernel_rfl
theorem Try.wpBuildBits {d:Option Tmp}{x:Operand}{ty:TypeId}{p:String}{af:Array Edge}{gd:Option (Nat×Bool)}{a:Act}{X:World}{K:Act→World→Prop}{Q:Exit→Act→World→Prop}
  (h:isAgg256 (a.eval x)):
  Oper.wp Try.prog {dst:=d,op:= .buildSlice 82 1 #[(0,x)],type:=ty,pos:=p,after:=af,guard:=gd} a X K Q=K (a.put d (.slice (some ⟨X.heap.size,0,none⟩) 1 1)) (X.alloc (.cells (aggCells (a.eval x)) 187)):=by
 obtain⟨f,hf⟩:=h
 obtain⟨i,hi,hz,hsize,hb⟩:=info_parts Try.infoBytes
 have hr:=run_buildSlice (P:=Try.prog) X 82 187 1 #[(0,.agg (bitL f).toArray)] (bitL f).toArray i _ Try.underlying82 hi hz (by rw[hsize];decide) (by rw[hsize];decide)
  (by rw[hsize];exact fill_bits f _ (by simp))
 unfold Oper.wp execOp
 simp only[List.map_toArray,List.map_cons,List.map_nil,hf,Sem.run_bind,hr,Result.andThen_ok,aggCells]
 rfl
def bitsOf (X:World)(v:Value):Nat→Bool:=match v with
 | .pointer (some a)=>bitsAt X a.block
 | _=>fun _=>false
def loadsBits (X:World)(v:Value):Prop:=∃B,v= .pointer (some ⟨B,0,none⟩)∧isBits X B
theorem Try.wpLoadBits {d:Option Tmp}{x:Operand}{ty:TypeId}{p:String}{af:Array Edge}{gd:Option (Nat×Bool)}{a:Act}{X:World}{K:Act→World→Prop}{Q:Exit→Act→World→Prop}
  (h:loadsBits X (a.eval x)):
  Oper.wp Try.prog {dst:=d,op:= .load 187 x,type:=ty,pos:=p,after:=af,guard:=gd} a X K Q=K (a.put d (.agg (bitL (bitsOf X (a.eval x))).toArray)) X:=by
 obtain⟨B,hx,hb⟩:=h
 have hr:=run_loadVar_mid (P:=Try.prog) X B 0 187 (bitL (bitsAt X B)) _ hb Try.underlying187 rfl (by rw[bitL_len];exact Try.bytesSize)
 unfold Oper.wp execOp
 simp only[hx,Instr.loadAt,Instr.sureAddr,Sem.run_bind,Sem.run_pure,Result.andThen_ok,hr,bitsOf]
 rfl
attribute [local go_sem] aggCells
attribute [local go_sem ↓] Go.wp_at_zero Go.wp_at_succ Try.wpBuildBits Try.wpLoadBits
set_option maxRecDepth 100000 in
set_option maxHeartbeats 400000 in
theorem place_any (t:ByteArray)(st:PSt)(rb base:Nat)(vr vn vp:Value)(w:World)(ht:t.size≤120)(hat:st.at_≤t.size)(h:Rd w rb base w.heap.size t st vr vn vp)(hn:st.nodes.length≤1000)(hpl:st.places.length≤1000):
  Calls Try.prog 146 #[.pointer (some ⟨rb,0,none⟩)] w fun e w'=>e= .returned (.tuple #[.int .i64 (placeP t st).1,.bool (placeP t st).2.1])∧RdOut w rb base t vr vn vp (placeP t st).2.2 w':=by
 have hrb:rb<w.heap.size:=by have:=h.hb;have:=h.hbt;omega
 have hc1:=allowed_any t st rb base vr vn vp w ht hat h
 have hY:(allowedP t st).2.1=true→placeP t st=(((allowedP t st).2.2.nodes.length:Int),true,addN (0,((allowedP t st).2.2.places.length:Int),0) (addP (allowedP t st).1 (allowedP t st).2.2)):=fun hq=>by unfold placeP;rw[if_pos hq]
 have hN:(allowedP t st).2.1=false→placeP t st=(0,false,(allowedP t st).2.2):=fun hq=>by unfold placeP;rw[if_neg (by rw[hq];decide)]
 have hsm:=allowedP_same t st
 generalize allowedP t st=M at*
 obtain⟨f,ok,st1⟩:=M
 simp only at hc1 hY hN hsm
 have hn1:st1.nodes.length≤1000:=by rw[hsm.2.1];exact hn
 have hp1:st1.places.length≤1000:=by rw[hsm.2.2];exact hpl
 clear hsm
 have HY:=hidK hY
 have HN:=hidK hN
 clear hY hN
 go_enter Try.func146,Try.ntmps146
 go_wp2_with fail
 refine hc1.mono ?_
 rintro e w1 ⟨rfl,hg1,hr1⟩
 have HN1:=hidK (there_newA w1 Try.zeroCells187 187 _ 256 Try.bytesZero rfl)
 have hsz1:=hg1.size
 clear hc1
 have HR2:=hidK (((h.retop hr1 hsz1).below ((Below.refl _ _).alloc (by omega) (.cells Try.zeroCells187 187))).below (below_setCells (bitL f) 0 _ w1.heap.size (Below.refl w.heap.size _) (by omega)))
 have HG2:=hidK (grown_setCells (grown_alloc2 hg1 (.cells Try.zeroCells187 187)) w1.heap.size 0 (bitL f) (by omega))
 have HF2:=hidK (World.rangeAt_setCells_same (w1.alloc (.cells Try.zeroCells187 187)) w1.heap.size 0 (bitL f) (by rw[bitL_len];exact HN1.out))
 have HZ2:Hid (w1.heap.size<((w1.alloc (.cells Try.zeroCells187 187)).setCells w1.heap.size 0 (bitL f)).heap.size):=by
  unfold Hid
  have:=(below_setCells (bitL f) 0 (w1.alloc (.cells Try.zeroCells187 187)) w1.heap.size (Below.refl 0 _) (Nat.zero_le _)).size
  simp at this;omega
 have HG1:=hidK hg1
 clear hg1 hr1
 go_upto_region 2 with(first | (refine wpList_store_bits rfl 187 (.tmp 4) (.tmp 10) rfl w1.heap.size 0 f ?_ ?_ ?_ Try.bytesSize ?_;rfl;rfl;exact HN1.out))
 generalize (w1.alloc (.cells Try.zeroCells187 187)).setCells w1.heap.size 0 (bitL f)=X at*
 have HB1:Hid (w.heap.size≤w1.heap.size):=hsz1
 clear HN1 HG1 hsz1
 generalize w1.heap.size=B1 at*
 cases ok with
 | false=>
  have HE:=hidK (HN.out rfl)
  go_wp2
  go_ret2
  rw[HE.out]
  exact⟨rfl,_,_,_,HR2.out.raise,Fr.of_grown HG2.out⟩
 | true=>
  have HE:=hidK (HY.out rfl)
  obtain⟨av,cv,hvp⟩:=rowSlice HR2.out.rp
  subst hvp
  have c4:=HR2.out.c4
  have f4:=HR2.out.fz 4
  go_wp2_with fail
  have hrne:some rb≠(Value.slice av st1.places.length cv).ownBlock:=fun e=>by have:=HR2.out.rp.lt rb e.symm;have:=h.hb;omega
  have hbs:base≤X.heap.size:=by have:=HR2.out.hbt;have:=HR2.out.hz;omega
  have hag:isAgg256 (.agg (bitL f).toArray):=⟨f,rfl⟩
  have hrz:rb<X.heap.size:=by have:=HR2.out.hz;omega
  have hu:=Try.underlying187
  have hi:(Try.prog.info? 187).map (·.size)=some (bitL f).length:=by rw[bitL_len];exact Try.bytesSize
  have hll:=bitL_len f
  have hoc:=bitL_one f
  have hF:=HF2.out
  have hB1z:B1<X.heap.size:=HZ2.out
  have hB1n:some B1≠(Value.slice av st1.places.length cv).ownBlock:=fun e=>by have:=HR2.out.lp B1 e.symm;have:=HB1.out;omega
  have hB1r:rb≠B1:=by have:=HB1.out;omega
  obtain⟨hbq0,hib⟩:=isBits_of (X:=X.drew) (B:=B1) (f:=f) hF
  have hlb:loadsBits X.drew (.pointer (some ⟨B1,0,none⟩)):=⟨B1,rfl,hib⟩
  have hbq:bitL (bitsOf X.drew (.pointer (some ⟨B1,0,none⟩)))=bitL f:=hbq0
  clear hbq0 hib hu hi hll hoc
  go_region_law ((refine step_app1 X.drew rfl (.tmp 25) (.tmp 27) 82 rfl base 187 (.agg Try.zeroCells187) 256 256 Try.underlying82 Try.infoBytes Try.bytesZero (by decide) (by decide) _ st1.places.length (bitsC st1.places) (bitL f) _ (by simp[Act.eval]) HR2.out.rp _ rfl (by simp[Act.eval]) (bitL_len f) (bitL_one f) (by omega) hbs ?_;intro g4 cap4 w4 hown4 hgrow4 hat4 hlt4;have m3:=((grow_cell hgrow4 (k:=rb) hrz hrne).1 4).trans c4;have n3:=((grow_cell hgrow4 (k:=rb) hrz hrne).2 4).trans f4;have hF4:w4.rangeAt B1 0 (bitL f):=fun j v hv=>((grow_cell hgrow4 (k:=B1) hB1z hB1n).1 (0+j)).trans (hF j v hv);have HM:=hidK (HR2.out.drew.moreP (x:=f) hown4 hgrow4 hat4 hlt4)))
  all_goals
   have hk5:=HM.out.1.raise
   have HK5:=hidK hk5
   have HF5:=hidK ((Fr.of_grown HG2.out).trans HM.out.2.of_drew)
   clear hk5
   generalize w4.setCell ⟨rb,4,none⟩ (.slice (some ⟨g4,0,none⟩) (st1.places.length+1) cap4)=w5 at*
   go_wp2_with fail
   refine(add_any t (addP f st1) 0 (st1.places.length:Int) 0 rb base _ _ _ w5 HK5.out (by show st1.nodes.length≤100000;omega)).mono ?_
   rintro e w6 ⟨rfl,vr6,vn6,vp6,hr6,hf6⟩
   have HR6:=hidK hr6
   have HF6:=hidK (HF5.out.trans hf6)
   clear hr6 hf6
   go_wp2
   go_ret2
   rw[HE.out]
   exact⟨rfl,_,_,_,HR6.out,HF6.out⟩
end Go.Proofs.Ytgjgjgihceijnaa

