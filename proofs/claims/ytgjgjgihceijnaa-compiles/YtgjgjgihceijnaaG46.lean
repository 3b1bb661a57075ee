/- Texts put together: RxShift, RxPiece, RxCuts, RxConds, RxLine. -/
import Derived.Test.YtgjgjgihceijnaaG26
import Derived.Test.YtgjgjgihceijnaaG30
import Derived.Test.YtgjgjgihceijnaaG31
import Derived.Test.YtgjgjgihceijnaaG21
namespace Go.Stn
def blankI (p:Int):Prop:=p= -1∨p=10∨p=32
def ShB (s x:ByteArray)(a:Nat):Prop:=∀i,i≤x.size→(peekP s (a+i)=peekP x i)∨(blankI (peekP x i)∧blankI (peekP s (a+i)))
def shO {α:Type}(a:Nat):Option (α×Nat)→Option (α×Nat)
 | none=>none
 | some (v,j)=>some (v,a+j)
variable {s x:ByteArray} {a i:Nat}
theorem ShB.is (h:ShB s x a)(hi:i≤x.size){b:Int}(hb:b≠ -1∧b≠10∧b≠32):isB s b (a+i)=isB x b i:=by
 unfold isB
 rcases h i hi with e | ⟨e1,e2⟩
 ·rw[e]
 ·have h1:¬peekP s (a+i)=b:=fun e=>by rcases e2 with k | k | k<;> omega
  have h2:¬peekP x i=b:=fun e=>by rcases e1 with k | k | k<;> omega
  rw[decide_eq_false h1,decide_eq_false h2]
theorem visB_blank {p:Int}(h:blankI p):visB p=false:=by
 rcases h with rfl | rfl | rfl<;> rfl
theorem ShB.vis (h:ShB s x a)(hi:i≤x.size):visB (peekP s (a+i))=visB (peekP x i)∧(visB (peekP x i)=true→peekP s (a+i)=peekP x i):=by
 rcases h i hi with e | ⟨e1,e2⟩
 ·rw[e];exact⟨rfl,fun _=>rfl⟩
 ·rw[visB_blank e1,visB_blank e2];exact⟨rfl,fun h=>by cases h⟩
theorem ShB.plain (h:ShB s x a)(hi:i≤x.size)(sp:ByteArray):plainB (peekP s (a+i)) sp=plainB (peekP x i) sp∧(plainB (peekP x i) sp=true→peekP s (a+i)=peekP x i):=by
 rcases h i hi with e | ⟨e1,e2⟩
 ·rw[e];exact⟨rfl,fun _=>rfl⟩
 ·unfold plainB
  rw[visB_blank e1,visB_blank e2]
  exact⟨rfl,fun h=>by simp at h⟩
theorem esc_sh (h:ShB s x a)(hi:i≤x.size):escX s (a+i)=shO a (escX x i):=by
 unfold escX
 rw[h.is hi (b:=110) (by decide),h.is hi (b:=115) (by decide)]
 by_cases h1:isB x 110 i=true
 ·rw[if_pos h1,if_pos h1];rfl
 ·rw[if_neg h1,if_neg h1]
  by_cases h2:isB x 115 i=true
  ·rw[if_pos h2,if_pos h2];rfl
  ·rw[if_neg h2,if_neg h2]
   obtain⟨v1,v2⟩:=h.vis hi
   by_cases h3:visB (peekP x i)=true
   ·rw[v2 h3]
    split
    ·rfl
    ·rfl
   ·rw[if_neg (fun e=>h3 (by rw[←v1];exact e.1)),if_neg (fun e=>h3 e.1)];rfl
theorem single_sh (h:ShB s x a)(hi:i≤x.size)(sp:ByteArray):singleX s sp (a+i)=shO a (singleX x sp i):=by
 unfold singleX
 rw[h.is hi (b:=92) (by decide)]
 by_cases h1:isB x 92 i=true
 ·rw[if_pos h1,if_pos h1]
  have:=isB_in (by omega) h1
  rw[show a+i+1=a+(i+1) by omega]
  exact esc_sh h (by omega)
 ·rw[if_neg h1,if_neg h1]
  obtain⟨v1,v2⟩:=h.plain hi sp
  rw[v1]
  by_cases h3:plainB (peekP x i) sp=true
  ·rw[if_pos h3,if_pos h3,v2 h3];rfl
  ·rw[if_neg h3,if_neg h3];rfl
theorem member_sh (h:ShB s x a)(hi:i≤x.size)(f:Nat→Bool):memberX s f (a+i)=shO a (memberX x f i):=by
 unfold memberX
 rw[single_sh h hi]
 cases e:singleX x spIn i with
 | none=>rfl
 | some y=>
  obtain⟨v,j⟩:=y
  have hj:=singleX_b _ _ _ _ _ e
  show(if isB s 45 (a+j)=false then _ else _)=shO a (if isB x 45 j=false then _ else _)
  rw[h.is hj.2 (b:=45) (by decide)]
  by_cases h1:isB x 45 j=false
  ·rw[if_pos h1,if_pos h1];rfl
  ·rw[if_neg h1,if_neg h1]
   have hlt:=isB_in (b:=45) (by omega) (by simpa using h1)
   rw[show a+j+1=a+(j+1) by omega,single_sh h (by omega)]
   cases singleX x spIn (j+1)with
   | none=>rfl
   | some y2=>
    obtain⟨v2,j2⟩:=y2
    show(if v2<v then none else some (withB f v v2,a+j2))=shO a (if v2<v then none else some (withB f v v2,j2))
    split<;> rfl
theorem setLoop_sh (h:ShB s x a):∀(n m:Nat) (f:Nat→Bool) (i:Nat),i≤x.size→x.size<n+i→x.size<m+i→setLoopX s m f (a+i)=shO a (setLoopX x n f i):=by
 intro n
 induction n with
 | zero=>intro m f i h1 h2;omega
 | succ n ih=>
  intro m f i hi hn hm
  obtain⟨m,rfl⟩:∃k,m=k+1:=⟨m - 1,by omega⟩
  rw[setLoopX,setLoopX,h.is hi (b:=93) (by decide)]
  by_cases h1:isB x 93 i=true
  ·rw[if_pos h1,if_pos h1];rfl
  ·rw[if_neg h1,if_neg h1,member_sh h hi]
   cases e:memberX x f i with
   | none=>rfl
   | some y=>
    obtain⟨g,j⟩:=y
    have hj:=memberX_b _ _ _ _ _ e
    exact ih m g j hj.2 (by omega) (by omega)
theorem setR_sh (h:ShB s x a)(hi:i≤x.size)(hz:x.size≤s.size):setRX s (a+i)=shO a (setRX x i):=by
 unfold setRX
 rw[member_sh h hi]
 cases e:memberX x zeroF i with
 | none=>rfl
 | some y=>
  obtain⟨g,j⟩:=y
  have hj:=memberX_b _ _ _ _ _ e
  exact setLoop_sh h (x.size+1) (s.size+1) g j hj.2 (by omega) (by omega)
theorem set_sh (h:ShB s x a)(hi:i≤x.size)(hz:x.size≤s.size):setX s (a+i)=shO a (setX x i):=by
 unfold setX
 rw[h.is hi (b:=94) (by decide)]
 by_cases h1:isB x 94 i=true
 ·have hlt:=isB_in (by omega) h1
  rw[if_pos h1,if_pos h1,show a+i+1=a+(i+1) by omega,setR_sh h (by omega) hz]
  cases setRX x (i+1)with
  | none=>rfl
  | some y=>rfl
 ·rw[if_neg h1,if_neg h1]
  exact setR_sh h hi hz
theorem allowed_sh (h:ShB s x a)(hi:i≤x.size)(hz:x.size≤s.size):allowedX s (a+i)=shO a (allowedX x i):=by
 unfold allowedX
 rw[h.is hi (b:=91) (by decide),h.is hi (b:=46) (by decide)]
 by_cases h1:isB x 91 i=true
 ·have hlt:=isB_in (by omega) h1
  rw[if_pos h1,if_pos h1,show a+i+1=a+(i+1) by omega]
  exact set_sh h (by omega) hz
 ·rw[if_neg h1,if_neg h1]
  by_cases h2:isB x 46 i=true
  ·rw[if_pos h2,if_pos h2];rfl
  ·rw[if_neg h2,if_neg h2,single_sh h hi]
   cases singleX x spOut i with
   | none=>rfl
   | some y=>rfl
def ShE (x:ByteArray)(a lo:Nat)(eS eX:Nat→Option (Rx×Nat)):Prop:=∀i,lo≤i→i≤x.size→eS (a+i)=shO a (eX i)
theorem atom_sh {eS eX:Nat→Option (Rx×Nat)}{lo:Nat}(h:ShB s x a)(hz:x.size≤s.size)(hx:BndE x eX)(he:ShE x a (lo+1) eS eX):ShE x a lo (atomX s eS) (atomX x eX):=fun i hl hi=>by
 unfold atomX
 rw[h.is hi (b:=40) (by decide)]
 by_cases h1:isB x 40 i=true
 ·have hlt:=isB_in (by omega) h1
  rw[if_pos h1,if_pos h1,show a+i+1=a+(i+1) by omega,he (i+1) (by omega) (by omega)]
  cases e:eX (i+1)with
  | none=>rfl
  | some y=>
   obtain⟨r,j⟩:=y
   have hj:=hx _ _ _ e
   show(if isB s 41 (a+j)=true then _ else _)=shO a (if isB x 41 j=true then _ else _)
   rw[h.is hj.2 (b:=41) (by decide)]
   split<;> rfl
 ·rw[if_neg h1,if_neg h1,allowed_sh h hi hz]
  cases allowedX x i with
  | none=>rfl
  | some y=>rfl
theorem mark_sh (h:ShB s x a)(hi:i≤x.size):markK (peekP s (a+i))=markK (peekP x i):=by
 rcases h i hi with e | ⟨e1,e2⟩
 ·rw[e]
 ·have hb:∀p,blankI p→markK p=0:=fun p hp=>by rcases hp with rfl | rfl | rfl<;> rfl
  rw[hb _ e1,hb _ e2]
theorem piece_sh {eS eX:Nat→Option (Rx×Nat)}{lo:Nat}(h:ShB s x a)(hz:x.size≤s.size)(hx:BndE x eX)(he:ShE x a (lo+1) eS eX):ShE x a lo (pieceX s eS) (pieceX x eX):=fun i hl hi=>by
 unfold pieceX
 rw[atom_sh h hz hx he i hl hi]
 cases e:atomX x eX i with
 | none=>rfl
 | some y=>
  obtain⟨r,j⟩:=y
  have hj:=atomX_b hx _ _ _ e
  show(if markK (peekP s (a+j))=0 then _ else _)=shO a (if markK (peekP x j)=0 then _ else _)
  rw[mark_sh h hj.2]
  split<;> rfl
theorem atPiece_sh (h:ShB s x a)(hi:i≤x.size):atPieceX s (a+i)=atPieceX x i:=by
 rcases h i hi with e | ⟨e1,e2⟩
 ·unfold atPieceX;rw[e]
 ·have hb:∀p,blankI p→(decide (p=40∨p=91∨p=46∨p=92) || plainB p spOut)=false:=fun p hp=>by rcases hp with rfl | rfl | rfl<;> rfl
  unfold atPieceX
  rw[hb _ e1,hb _ e2]
theorem altLoop_sh {eS eX:Nat→Option (Rx×Nat)}{lo:Nat}(h:ShB s x a)(hz:x.size≤s.size)(hx:BndE x eX)(he:ShE x a (lo+1) eS eX):∀(n m:Nat) (r:Rx) (i:Nat),lo≤i→i≤x.size→x.size<n+i→x.size<m+i→altLoopX s eS m r (a+i)=shO a (altLoopX x eX n r i):=by
 intro n
 induction n with
 | zero=>intro m r i _ h1 h2;omega
 | succ n ih=>
  intro m r i hl hi hn hm
  obtain⟨m,rfl⟩:∃k,m=k+1:=⟨m - 1,by omega⟩
  rw[altLoopX,altLoopX,atPiece_sh h hi]
  by_cases h1:atPieceX x i=false
  ·rw[if_pos h1,if_pos h1];rfl
  ·rw[if_neg h1,if_neg h1,piece_sh h hz hx he i hl hi]
   cases e:pieceX x eX i with
   | none=>rfl
   | some y=>
    obtain⟨r2,j⟩:=y
    have hj:=pieceX_b hx _ _ _ e
    exact ih m _ j (by omega) hj.2 (by omega) (by omega)
theorem alt_sh {eS eX:Nat→Option (Rx×Nat)}{lo:Nat}(h:ShB s x a)(hz:x.size≤s.size)(hx:BndE x eX)(he:ShE x a (lo+1) eS eX):ShE x a lo (altX s eS) (altX x eX):=fun i hl hi=>by
 unfold altX
 rw[piece_sh h hz hx he i hl hi]
 cases e:pieceX x eX i with
 | none=>rfl
 | some y=>
  obtain⟨r2,j⟩:=y
  have hj:=pieceX_b hx _ _ _ e
  exact altLoop_sh h hz hx he (x.size+1) (s.size+1) r2 j (by omega) hj.2 (by omega) (by omega)
theorem exprLoop_sh {eS eX:Nat→Option (Rx×Nat)}{lo:Nat}(h:ShB s x a)(hz:x.size≤s.size)(hx:BndE x eX)(he:ShE x a (lo+1) eS eX):∀(n m:Nat) (r:Rx) (i:Nat),lo≤i→i≤x.size→x.size<n+i→x.size<m+i→exprLoopX s eS m r (a+i)=shO a (exprLoopX x eX n r i):=by
 intro n
 induction n with
 | zero=>intro m r i _ h1 h2;omega
 | succ n ih=>
  intro m r i hl hi hn hm
  obtain⟨m,rfl⟩:∃k,m=k+1:=⟨m - 1,by omega⟩
  rw[exprLoopX,exprLoopX,h.is hi (b:=124) (by decide)]
  by_cases h1:isB x 124 i=false
  ·rw[if_pos h1,if_pos h1];rfl
  ·have hlt:=isB_in (b:=124) (by omega) (by simpa using h1)
   rw[if_neg h1,if_neg h1,show a+i+1=a+(i+1) by omega,alt_sh h hz hx he (i+1) (by omega) (by omega)]
   cases e:altX x eX (i+1)with
   | none=>rfl
   | some y=>
    obtain⟨r2,j⟩:=y
    have hj:=altX_b hx _ _ _ e
    exact ih m _ j (by omega) hj.2 (by omega) (by omega)
theorem expr_sh (h:ShB s x a)(hz:x.size≤s.size):∀(f g:Nat),∀i,x.size<f+i→x.size<g+i→i≤x.size→exprX s g (a+i)=shO a (exprX x f i):=by
 intro f
 induction f with
 | zero=>intro g i h1 _ h3;omega
 | succ f ih=>
  intro g i hf hg hi
  obtain⟨g,rfl⟩:∃k,g=k+1:=⟨g - 1,by omega⟩
  have he:ShE x a (i+1) (exprX s g) (exprX x f):=fun j hj hjx=>ih g j (by omega) (by omega) hjx
  rw[exprX,exprX,alt_sh h hz (exprX_b x f) he i (Nat.le_refl _) hi]
  cases e:altX x (exprX x f) i with
  | none=>rfl
  | some y=>
   obtain⟨r2,j⟩:=y
   have hj:=altX_b (exprX_b x f) _ _ _ e
   exact exprLoop_sh h hz (exprX_b x f) he (x.size+1) (s.size+1) r2 j (by omega) hj.2 (by omega) (by omega)
end Go.Stn

namespace Go.Stn
theorem piece_size {s:ByteArray}{a b:Nat}(hb:b≤s.size):(s.extract a b).size=b - a:=by rw[ByteArray.size_extract];omega
theorem bt_piece {s:ByteArray}{a b i:Nat}(hb:b≤s.size)(hi:i<b - a):bt (s.extract a b) i=bt s (a+i):=by
 have h1:i<(s.extract a b).size:=by rw[piece_size hb];exact hi
 have h2:a+i<s.size:=by omega
 rw[←bt_eq (s.extract a b) i h1,←bt_eq s (a+i) h2]
 congr 1
 exact ByteArray.getElem_extract _
theorem shB_piece {s:ByteArray}{a b:Nat}(hb:b≤s.size)(hab:a≤b)(he:b=s.size∨bt s b=10∨bt s b=32):ShB s (s.extract a b) a:=fun i hi=>by
 rw[piece_size hb]at hi
 by_cases hlt:i<b - a
 ·left
  rw[peekP_at (show a+i<s.size by omega),peekP_at (show i<(s.extract a b).size by rw[piece_size hb];exact hlt),bt_piece hb hlt]
 ·right
  have e:a+i=b:=by omega
  refine⟨.inl (peekP_end (by rw[piece_size hb];omega)), ?_⟩
  rw[e]
  by_cases hz:b=s.size
  ·exact .inl (peekP_end (by omega))
  ·rw[peekP_at (by omega)]
   rcases he with h | h | h
   ·exact absurd h hz
   ·exact .inr (.inl (by omega))
   ·exact .inr (.inr (by omega))
end Go.Stn

namespace Go.Stn
def Cuts (s:ByteArray)(c:Nat):Nat→List (Nat×Nat)→Prop
 | a,[]=>a=s.size+1
 | a,p::l=>p.1=a∧a≤p.2∧p.2≤s.size∧(∀j,a≤j→j<p.2→bt s j≠c)∧(p.2=s.size∨bt s p.2=c)∧Cuts s c (p.2+1) l
theorem spl_cuts (s:ByteArray)(c:Nat):∀(n fr i:Nat),n+i=s.size+1→fr≤i→(∀j,fr≤j→j<i→bt s j≠c)→(n=0→fr=s.size+1)→Cuts s c fr (spl s c n fr i):=by
 intro n
 induction n with
 | zero=>intro fr i _ _ _ h;exact h rfl
 | succ n ih=>
  intro fr i hn hfr hj _
  by_cases hc:i=s.size∨bt s i=c
  ·rw[spl_cut hc]
   exact⟨rfl,hfr,by show i≤s.size;omega,hj,hc,ih (i+1) (i+1) (by omega) (Nat.le_refl _) (fun j h1 h2=>by omega) (fun h=>by omega)⟩
  ·rw[spl_go hc]
   refine ih fr (i+1) (by omega) (by omega) (fun j h1 h2=> ?_) (fun h=> ?_)
   ·by_cases e:j=i
    ·rw[e];exact fun h=>hc (.inr h)
    ·exact hj j h1 (by omega)
   ·exact absurd (.inl (by omega)) hc
theorem splitL_cuts (s:ByteArray)(c:Nat):Cuts s c 0 (splitL s c):=spl_cuts s c (s.size+1) 0 0 (by omega) (Nat.le_refl _) (fun j h1 h2=>by omega) (fun h=>by omega)
end Go.Stn

namespace Go.Proofs.Ytgjgjgihceijnaa
open Go.Stn
theorem letter_piece {s x:ByteArray}{a i:Nat}(h:ShB s x a)(hi:i<x.size):letterX s (a+i)=if 0≤condR (bt x i)then some (condR (bt x i),a+i+1)else none:=by
 have hp:=peekP_at hi
 unfold letterX condR
 rcases h i (by omega)with e | ⟨e1,e2⟩
 ·rw[e,hp]
  by_cases hl:65≤bt x i∧bt x i<69
  ·rw[if_pos (by omega),if_pos hl,if_pos (by omega)]
  ·rw[if_neg (by omega),if_neg hl,if_neg (by omega)]
 ·have k1:¬(65≤peekP s (a+i)∧peekP s (a+i)<69):=by rcases e2 with k | k | k<;> omega
  have k2:¬(65≤bt x i∧bt x i<69):=by rw[hp]at e1;rcases e1 with k | k | k<;> omega
  rw[if_neg k1,if_neg k2,if_neg (by omega)]
theorem letter_end {s x:ByteArray}{a:Nat}(h:ShB s x a):letterX s (a+x.size)=none:=by
 have e1:peekP x x.size= -1:=peekP_end (Nat.le_refl _)
 unfold letterX
 rw[if_neg]
 rcases h x.size (Nat.le_refl _)with e | ⟨_,e2⟩
 ·rw[e,e1];omega
 ·rcases e2 with k | k | k<;> omega
theorem conds_piece {s x:ByteArray}{a:Nat}(h:ShB s x a):∀(n m:Nat) (f:Nat→Bool) (last:Int) (i:Nat),i≤x.size→x.size<n+i→ -1≤last→last≤3→4≤(m:Int)+last→
  (∀g l,condsG x n f last i=some (g,l)→condsLoopX s m f last (a+i)=some (g,a+x.size))∧(condsG x n f last i=none→∀g b,condsLoopX s m f last (a+i)=some (g,b)→b<a+x.size):=by
 intro n
 induction n with
 | zero=>intro m f last i h1 h2;omega
 | succ n ih=>
  intro m f last i hi hn h1 h2 hm
  obtain⟨m,rfl⟩:∃k,m=k+1:=⟨m - 1,by omega⟩
  by_cases hlt:i<x.size
  ·have hl:=letter_piece h hlt
   have hcr:=condR_in (bt x i)
   by_cases hc:condR (bt x i)≤last
   ·rw[condsG_bad hlt hc]
    refine⟨fun g l e=>(by cases e),fun _ g b hb=> ?_⟩
    rw[condsLoopX,hl]at hb
    by_cases h0:0≤condR (bt x i)
    ·rw[if_pos h0]at hb
     simp only at hb
     rw[if_pos hc]at hb
     cases hb
    ·rw[if_neg h0]at hb
     injection hb with hb
     injection hb with _ hb
     omega
   ·rw[condsG_more hlt hc,condsLoopX,hl,if_pos (show 0≤condR (bt x i) by omega)]
    simp only
    rw[if_neg hc]
    exact ih m _ _ (i+1) (by omega) (by omega) (by omega) (by omega) (by omega)
  ·have e:i=x.size:=by omega
   rw[condsG_done (by omega),e,condsLoopX,letter_end h]
   exact⟨fun g l e2=>(by injection e2 with e2;injection e2 with e2 _;rw[e2]),fun e2=>(by cases e2)⟩
theorem condsX_loop {s:ByteArray}{a:Nat}:condsX s a=match letterX s a with
  | none=>none
  | some _=>condsLoopX s 6 zeroF (-1) a:=by
 unfold condsX
 cases e:letterX s a with
 | none=>rfl
 | some y=>
  obtain⟨x,a1⟩:=y
  rw[condsLoopX,e]
  simp only
  have h0:0≤x:=by
   unfold letterX at e
   split at e
   ·injection e with e;injection e with e _;omega
   ·cases e
  rw[if_neg (by omega)]
theorem conds_first {s x:ByteArray}{a:Nat}(h:ShB s x a)(hx:0<x.size):
  (∀g l,condsG x (x.size+1) zeroF (-1) 0=some (g,l)→condsX s a=some (g,a+x.size))∧(condsG x (x.size+1) zeroF (-1) 0=none→∀g b,condsX s a=some (g,b)→b<a+x.size):=by
 have hp:=conds_piece h (x.size+1) 6 zeroF (-1) 0 (by omega) (by omega) (by omega) (by omega) (by omega)
 rw[Nat.add_zero]at hp
 rw[condsX_loop]
 have hl:=letter_piece h hx
 rw[Nat.add_zero]at hl
 have hcr:=condR_in (bt x 0)
 rw[hl]
 by_cases h0:0≤condR (bt x 0)
 ·rw[if_pos h0];exact hp
 ·rw[if_neg h0]
  refine⟨fun g l e=> ?_,fun _ g b e=>(by cases e)⟩
  rw[condsG_bad hx (by omega)]at e
  cases e
end Go.Proofs.Ytgjgjgihceijnaa

namespace Go.Proofs.Ytgjgjgihceijnaa
open Go.Stn
def thenN (c:Nat):Int:=if c=46 then 0 else if c=45 then 1 else(c:Int) - 65+2
def toX (x:LineT):RuleX:=(x.1,thenN x.2.2.1,x.2.2.2)
theorem extract2 {t:ByteArray}{a e b c:Nat}(_:e≤t.size)(hc:a+c≤e):(t.extract a e).extract b c=t.extract (a+b) (a+c):=by
 rw[ByteArray.extract_extract,Nat.min_eq_left hc]
theorem isB_no {t:ByteArray}{b:Int}{a:Nat}(h:peekP t a≠b):isB t b a=false:=by
 unfold isB
 rw[decide_eq_false_iff_not]
 exact h
theorem isB_blank {t:ByteArray}{a:Nat}(h:a<t.size)(hb:bt t a=32):isB t 32 a=true:=by
 unfold isB
 rw[decide_eq_true_eq,peekP_at h,hb]
 rfl
theorem notB {t:ByteArray}{a:Nat}{c:Nat}(h:a<t.size→bt t a≠c):isB t (c:Int) a=false:=by
 apply isB_no
 intro e
 by_cases ha:a<t.size
 ·rw[peekP_at ha]at e
  exact h ha (by omega)
 ·rw[peekP_end (by omega)]at e
  omega
theorem not32 {t:ByteArray}{a:Nat}(h:a<t.size→bt t a≠32):isB t 32 a=false:=notB (c:=32) h
theorem not10 {t:ByteArray}{a:Nat}(h:a<t.size→bt t a≠10):isB t 10 a=false:=notB (c:=10) h
theorem condsLoopX_b (t:ByteArray):∀(n:Nat) (f:Nat→Bool) (last:Int) (a:Nat) (g:Nat→Bool) (b:Nat),condsLoopX t n f last a=some (g,b)→a≤b
 | 0,f,last,a,g,b,h=>by cases h
 | n+1,f,last,a,g,b,h=>by
  rw[condsLoopX]at h
  unfold letterX at h
  split at h
  ·injection h with h;injection h with _ h;omega
  ·rename_i x a1 e
   split at e
   ·injection e with e
    injection e with _ e
    split at h
    ·cases h
    ·have:=condsLoopX_b t n _ _ _ _ _ h
     omega
   ·cases e
theorem condsX_b {t:ByteArray}{a:Nat}{g:Nat→Bool}{b:Nat}(h:condsX t a=some (g,b)):a≤b:=by
 rw[condsX_loop]at h
 split at h
 ·cases h
 ·exact condsLoopX_b t _ _ _ _ _ _ h
theorem behindX_at {t:ByteArray}{a:Nat}(h:a<t.size):behindX t a=if condR (bt t a)<0∧bt t a≠46∧bt t a≠45 then none else some (thenN (bt t a),a+1):=by
 unfold behindX letterX isB condR thenN
 rw[peekP_at h]
 simp only[decide_eq_true_eq]
 by_cases h1:bt t a=46
 ·rw[h1];rfl
 ·rw[if_neg (by omega)]
  by_cases h2:bt t a=45
  ·rw[h2];rfl
  ·rw[if_neg (by omega)]
   by_cases h3:65≤bt t a∧bt t a<69
   ·rw[if_pos (by omega),if_pos h3,if_neg (by omega),if_neg h1,if_neg h2]
   ·rw[if_neg (by omega),if_neg h3,if_pos (by omega)]
theorem behindX_end {t:ByteArray}{a:Nat}(h:t.size≤a):behindX t a=none:=by
 unfold behindX letterX isB
 rw[peekP_end h]
 rfl
section
variable {t:ByteArray} {a e:Nat}
theorem piece_in (he:e≤t.size)(hae:a≤e)(_:∀j,a≤j→j<e→bt t j≠10)(hE:e=t.size∨bt t e=10){p q:Nat}(hpq:p≤q)(hq:q≤e - a)
  (h32:∀j,p≤j→j<q→bt (t.extract a e) j≠32) (hend:q=e - a∨bt (t.extract a e) q=32):
  ShB t (t.extract (a+p) (a+q)) (a+p)∧(t.extract (a+p) (a+q)).size=q - p∧(∀j,a+p≤j→j<a+q→bt t j≠32)∧(q<e - a→a+q<t.size∧bt t (a+q)=32)∧(q=e - a→isB t 32 (a+q)=false):=by
 refine⟨shB_piece (by omega) (by omega) ?_, ?_,fun j h1 h2=> ?_,fun h=> ?_,fun h=> ?_⟩
 ·rcases hend with h | h
  ·rcases hE with k | k
   ·exact .inl (by omega)
   ·exact .inr (.inl (by rw[show a+q=e by omega];exact k))
  ·by_cases hlt:q<e - a
   ·rw[bt_piece he hlt]at h
    exact .inr (.inr h)
   ·rcases hE with k | k
    ·exact .inl (by omega)
    ·exact .inr (.inl (by rw[show a+q=e by omega];exact k))
 ·rw[piece_size (by omega)];omega
 ·have:=h32 (j - a) (by omega) (by omega)
  rw[bt_piece he (by omega),show a+(j - a)=j by omega]at this
  exact this
 ·rcases hend with k | k
  ·omega
  ·rw[bt_piece he h]at k
   exact⟨by omega,k⟩
 ·refine not32 (fun h2=> ?_)
  rcases hE with k | k
  ·omega
  ·rw[show a+q=e by omega,k];decide
theorem expr_piece {x:ByteArray}{b:Nat}(h:ShB t x b)(hz:x.size≤t.size):exprX t (t.size+1) b=shO b (exprX x (x.size+1) 0):=by
 have:=expr_sh h hz (x.size+1) (t.size+1) 0 (by omega) (by omega) (by omega)
 rw[Nat.add_zero]at this
 exact this
theorem ruleX_conds {f:Nat→Bool}{a1:Nat}(h:condsX t a=some (f,a1))(h2:isB t 32 a1=true):ruleX t a=match exprX t (t.size+1) (a1+1)with
  | none=>none
  | some (r,a2)=>if isB t 32 a2=false then none else match behindX t (a2+1)with
   | none=>none
   | some (b,a3)=>some ((f,b,r),a3):=by
 unfold ruleX
 rw[h]
 simp only
 rw[if_neg (by rw[h2];decide)]
 rfl
theorem line_rule (he:e≤t.size)(hae:a≤e)(hn:∀j,a≤j→j<e→bt t j≠10)(hE:e=t.size∨bt t e=10):
  (∀x,lineR (t.extract a e)=some x→ruleX t a=some (toX x,e))∧(lineR (t.extract a e)=none→∀x b,ruleX t a=some (x,b)→a≤b∧b<e):=by
 have hsz:(t.extract a e).size=e - a:=piece_size he
 have hcut:=splitL_cuts (t.extract a e) 32
 unfold lineR
 cases hl:splitL (t.extract a e) 32 with
 | nil=>rw[hl]at hcut;have:0=(t.extract a e).size+1:=hcut;omega
 | cons p0 l0=>
  rw[hl]at hcut
  obtain⟨c1,c2,c3,c4,c5,c6⟩:=hcut
  obtain⟨q0,q1⟩:=p0
  simp only at c1 c2 c3 c4 c5 c6
  subst c1
  rw[hsz]at c3 c5
  obtain⟨i1,i2,i3,i4,i5⟩:=piece_in he hae hn hE (p:=0) (q:=q1) c2 c3 c4 c5
  rw[Nat.add_zero]at i1 i2 i3
  rw[Nat.sub_zero]at i2
  obtain⟨x0,hx0⟩:∃x,x=t.extract a (a+q1):=⟨_,rfl⟩
  rw[←hx0]at i1 i2
  have hX0:(t.extract a e).extract 0 q1=x0:=by rw[extract2 he (by omega),hx0];rfl
  -- the conditions end at the piece's end,or the rule is none
  have hk:(ruleX t a=none)∨(0<x0.size∧∃g l,condsG x0 (x0.size+1) zeroF (-1) 0=some (g,l)∧condsX t a=some (g,a+q1)):=by
   by_cases hz:0<x0.size
   ·obtain⟨k1,k2⟩:=conds_first i1 hz
    cases hg:condsG x0 (x0.size+1) zeroF (-1) 0 with
    | some y=>exact .inr ⟨hz,y.1,y.2,rfl,by rw[k1 y.1 y.2 hg,i2]⟩
    | none=>
     left
     unfold ruleX
     cases hc:condsX t a with
     | none=>rfl
     | some y=>
      obtain⟨g,b⟩:=y
      have h1:=k2 hg g b hc
      have h2:=condsX_b hc
      simp only
      rw[if_pos (not32 (fun _=>i3 b h2 (by omega)))]
   ·left
    unfold ruleX
    rw[condsX_loop]
    have hle:=letter_end i1
    rw[i2,show q1=0 by omega,Nat.add_zero]at hle
    rw[hle]
  cases l0 with
  | nil=>
   have c6:q1+1=(t.extract a e).size+1:=c6
   have hN:ruleX t a=none:=by
    rcases hk with h | ⟨_,g,l,_,h⟩
    ·exact h
    ·unfold ruleX
     rw[h]
     simp only
     rw[if_pos (i5 (by omega))]
   rw[hN]
   exact⟨fun x h=>(by cases h),fun _ x b h=>(by cases h)⟩
  | cons p1 l1=>
   obtain⟨d1,d2,d3,d4,d5,d6⟩:=c6
   obtain⟨q2,q3⟩:=p1
   simp only at d1 d2 d3 d4 d5 d6
   subst d1
   rw[hsz]at d3 d5
   have hb1:=i4 (by omega)
   obtain⟨j1,j2,j3,j4,j5⟩:=piece_in he hae hn hE (p:=q1+1) (q:=q3) d2 d3 d4 d5
   obtain⟨x1,hx1⟩:∃x,x=t.extract (a+(q1+1)) (a+q3):=⟨_,rfl⟩
   rw[←hx1]at j1 j2
   have hX1:(t.extract a e).extract (q1+1) q3=x1:=by rw[extract2 he (by omega),hx1]
   have hex:=expr_piece j1 (by omega)
   have hXb:=exprX_b x1 (x1.size+1)
   -- the expression ends at the piece's end,or the rule is none
   have hk2:(ruleX t a=none)∨(0<x0.size∧∃g l r,condsG x0 (x0.size+1) zeroF (-1) 0=some (g,l)∧exprX x1 (x1.size+1) 0=some (r,x1.size)∧isB t 32 (a+q3)=true∧ruleX t a=match behindX t (a+q3+1)with
     | none=>none
     | some (b,a3)=>some ((g,b,r),a3)):=by
    rcases hk with h | ⟨hz,g,l,hg,h⟩
    ·exact .inl h
    ·rw[ruleX_conds h (isB_blank hb1.1 hb1.2),show a+q1+1=a+(q1+1) by omega,hex]
     cases hr:exprX x1 (x1.size+1) 0 with
     | none=>exact .inl rfl
     | some y=>
      obtain⟨r,i⟩:=y
      have h1:=hXb _ _ _ hr
      show((if isB t 32 (a+(q1+1)+i)=false then none else _)=none)∨_
      by_cases hi:i<x1.size
      ·left
       rw[if_pos (not32 (fun _=>j3 (a+(q1+1)+i) (by omega) (by omega)))]
      ·have ei:i=x1.size:=by omega
       have e3:a+(q1+1)+i=a+q3:=by omega
       by_cases hb:isB t 32 (a+q3)=true
       ·right
        refine⟨hz,g,l,r,hg,by rw[ei],hb, ?_⟩
        show(if isB t 32 (a+(q1+1)+i)=false then none else match behindX t (a+(q1+1)+i+1)with | none=>none | some (b,a3)=>some ((g,b,r),a3))=_
        rw[e3,if_neg (by rw[hb];decide)]
       ·left
        rw[e3,if_pos (by simpa using hb)]
   cases l1 with
   | nil=>
    have d6:q3+1=(t.extract a e).size+1:=d6
    have hN:ruleX t a=none:=by
     rcases hk2 with h | ⟨_,g,l,r,_,_,hb,_⟩
     ·exact h
     ·rw[j5 (by omega)]at hb;cases hb
    rw[hN]
    exact⟨fun x h=>(by cases h),fun _ x b h=>(by cases h)⟩
   | cons p2 l2=>
    obtain⟨f1,f2,f3,f4,f5,f6⟩:=d6
    obtain⟨q4,q5⟩:=p2
    simp only at f1 f2 f3 f4 f5 f6
    subst f1
    rw[hsz]at f3 f5
    obtain⟨x2,hx2⟩:∃x,x=t.extract (a+(q3+1)) (a+q5):=⟨_,rfl⟩
    have hX2:(t.extract a e).extract (q3+1) q5=x2:=by rw[extract2 he (by omega),hx2]
    obtain⟨m1,m2,m3,m4,m5⟩:=piece_in he hae hn hE (p:=q3+1) (q:=q5) f2 f3 f4 f5
    rw[←hx2]at m2
    -- where the rule ends
    have hz5:∀x b,ruleX t a=some (x,b)→b=a+(q3+1)+1∧q3+1<q5:=fun x b h=>by
     rcases hk2 with h2 | ⟨_,g,l,r,_,_,_,h2⟩
     ·rw[h2]at h;cases h
     ·rw[h2]at h
      by_cases hp:a+q3+1<t.size
      ·rw[behindX_at hp]at h
       split at h
       ·cases h
       ·rename_i b2 a3 hb2
        split at hb2
        ·cases hb2
        ·rename_i hne
         injection hb2 with hb2
         injection hb2 with _ hb2
         injection h with h
         injection h with _ h
         refine⟨by omega, ?_⟩
         apply Classical.byContradiction
         intro hq
         have eq:q5=q3+1:=by omega
         apply hne
         by_cases hlt:q5<e - a
         ·have:=(m4 hlt).2
          rw[eq,←Nat.add_assoc]at this
          rw[this];decide
         ·have:bt t (a+q3+1)=10:=by
           rcases hE with k | k
           ·omega
           ·rw[show a+q3+1=e by omega];exact k
          rw[this];decide
      ·rw[behindX_end (by omega)]at h;cases h
    cases l2 with
    | cons p3 l3=>
     refine⟨fun x h=>(by cases h),fun _ x b h=> ?_⟩
     obtain⟨g1,g2,g3,_⟩:=f6
     rw[hsz]at g3
     have:=hz5 x b h
     omega
    | nil=>
     have f6:q5+1=(t.extract a e).size+1:=f6
     simp only[hX0,hX1,hX2]
     unfold partsR
     by_cases hbad:x0.size=0∨x2.size≠1
     ·rw[if_pos hbad]
      refine⟨fun x h=>(by cases h),fun _ x b h=> ?_⟩
      rcases hk2 with h2 | ⟨h0,_⟩
      ·rw[h2]at h;cases h
      ·have:=hz5 x b h
       omega
     ·rw[if_neg hbad]
      have hx2s:x2.size=1:=by omega
      have hbt:bt x2 0=bt t (a+q3+1):=by rw[hx2,bt_piece (by omega) (by omega),Nat.add_zero,←Nat.add_assoc]
      rcases hk2 with h2 | ⟨h0,g,l,r,hg,hr,hb,h2⟩
      · -- the rule is none:so is the line
       rw[h2]
       refine⟨fun x hx=> ?_,fun _ x b h=>(by cases h)⟩
       exfalso
       -- the line is not none:build the rule
       cases hg:condsG x0 (x0.size+1) zeroF (-1) 0 with
       | none=>rw[hg]at hx;cases hx
       | some y=>
        obtain⟨g,l⟩:=y
        rw[hg]at hx
        simp only at hx
        split at hx
        ·cases hx
        ·rename_i hc
         unfold stopX at hx
         cases hr:exprX x1 (x1.size+1) 0 with
         | none=>rw[hr]at hx;cases hx
         | some y2=>
          obtain⟨r,i⟩:=y2
          rw[hr]at hx
          simp only at hx
          split at hx
          ·cases hx
          ·rename_i r' a' hs
           split at hs
           ·injection hs with hs
            injection hs with _ hs
            split at hx
            ·rename_i ea
             have hcx:condsX t a=some (g,a+q1):=by
              have:=(conds_first i1 (by omega)).1 g l hg
              rw[this,i2]
             have hb3:=j4 (by omega)
             rw[ruleX_conds hcx (isB_blank hb1.1 hb1.2),show a+q1+1=a+(q1+1) by omega,hex,hr]at h2
             have e3:a+(q1+1)+i=a+q3:=by omega
             have h2:(if isB t 32 (a+(q1+1)+i)=false then none else match behindX t (a+(q1+1)+i+1)with | none=>none | some (b,a3)=>some ((g,b,r),a3))=none:=h2
             rw[e3,if_neg (by rw[isB_blank hb3.1 hb3.2];decide),behindX_at (by omega),if_neg (by rw[←hbt];exact hc)]at h2
             cases h2
            ·cases hx
           ·cases hs
      ·rw[hg]
       simp only
       rw[h2,behindX_at (by omega),←hbt]
       by_cases hc:condR (bt x2 0)<0∧bt x2 0≠46∧bt x2 0≠45
       ·rw[if_pos hc,if_pos hc]
        exact⟨fun x h=>(by cases h),fun _ x b h=>(by cases h)⟩
       ·rw[if_neg hc,if_neg hc]
        have hst:stopX x1 (exprX x1 (x1.size+1)) 0=some (r,x1.size):=by
         unfold stopX
         rw[hr]
         simp only
         rw[if_pos (by unfold stopB;rw[decide_eq_true_eq];exact .inl (Nat.le_refl _))]
        rw[hst]
        simp only[if_true]
        refine⟨fun x h=> ?_,fun h=>(by cases h)⟩
        injection h with h
        rw[←h]
        show some ((g,thenN (bt x2 0),r),a+q3+1+1)=some ((g,thenN (bt x2 0),r),e)
        rw[show a+q3+1+1=e by omega]
end
theorem lines_rules {t:ByteArray}:∀(ps:List (Nat×Nat)) (n:Nat) (acc:List RuleX) (q:Nat),Cuts t 10 (q+1) ps→ps.length<n→(ps= []→q=t.size)→(ps≠ []→q<t.size∧bt t q=10)→
  (∀l,lnR t ps=some l→rulesLoopX t n acc q=some (acc++l.map toX,t.size))∧(lnR t ps=none→∀l b,rulesLoopX t n acc q=some (l,b)→b<t.size)
 | [],n,acc,q,_,hn,h0,_=>by
  obtain⟨n,rfl⟩:∃k,n=k+1:=⟨n - 1,by simp at hn;omega⟩
  have hq:=h0 rfl
  refine⟨fun l hl=> ?_,fun hl=>(by cases hl)⟩
  have hl:some []=some l:=hl
  injection hl with hl
  rw[rulesLoopX,if_pos (not10 (fun h=>by omega)),←hl,hq]
  simp
 | p::ps,n,acc,q,hc,hn,_,h1=>by
  obtain⟨n,rfl⟩:∃k,n=k+1:=⟨n - 1,by omega⟩
  obtain⟨hq1,hq2⟩:=h1 (by simp)
  obtain⟨c1,c2,c3,c4,c5,c6⟩:=hc
  have hline:=line_rule (t:=t) (a:=q+1) (e:=p.2) c3 c2 c4 c5
  have h10:isB t 10 q=true:=by unfold isB;rw[decide_eq_true_eq,peekP_at hq1,hq2];rfl
  have ih:=fun acc'=>lines_rules ps n acc' p.2 c6 (by simp at hn;omega) (fun e=>by rw[e]at c6;have:p.2+1=t.size+1:=c6;omega) (fun e=>by
   rcases c5 with k | k
   ·exfalso
    cases ps with
    | nil=>exact e rfl
    | cons p' ps'=>
     obtain⟨_,k2,k3,_⟩:=c6
     omega
   ·refine⟨?_,k⟩
    apply Classical.byContradiction
    intro hge
    cases ps with
    | nil=>exact e rfl
    | cons p' ps'=>
     obtain⟨_,k2,k3,_⟩:=c6
     omega)
  rw[rulesLoopX,if_neg (by rw[h10];decide)]
  unfold lnR
  rw[c1]
  cases hl:lineR (t.extract (q+1) p.2)with
  | none=>
   refine⟨fun l h=>(by cases h),fun _ l b h=> ?_⟩
   cases hr:ruleX t (q+1)with
   | none=>rw[hr]at h;cases h
   | some y=>
    obtain⟨x,b2⟩:=y
    have hb:=hline.2 hl x b2 hr
    rw[hr]at h
    simp only at h
    cases n with
    | zero=>cases h
    | succ n=>
     rw[rulesLoopX,if_pos (not10 (fun _=>c4 b2 hb.1 hb.2))]at h
     injection h with h
     injection h with _ h
     omega
  | some x=>
   have hr:=hline.1 x hl
   rw[hr]
   simp only
   have ih2:=ih (acc++ [toX x])
   cases e2:lnR t ps with
   | none=>exact⟨fun l h=>(by cases h),fun _ l b h=>ih2.2 e2 l b h⟩
   | some l2=>
    refine⟨fun l h=> ?_,fun h=>(by cases h)⟩
    injection h with h
    rw[ih2.1 l2 e2,←h]
    simp
theorem cuts_len {t:ByteArray}{c:Nat}:∀{ps:List (Nat×Nat)} {a:Nat},Cuts t c a ps→a+ps.length≤t.size+1
 | [],a,h=>by have h:a=t.size+1:=h;simp;omega
 | p::ps,a,h=>by
  obtain⟨_,h2,h3,_,_,h6⟩:=h
  have:=cuts_len h6
  simp only[List.length_cons]
  omega
theorem lnX_len {t:ByteArray}:∀{ps:List (Nat×Nat)} {l:List LineT},lnR t ps=some l→l.length=ps.length
 | [],l,h=>by injection h with h;rw[←h];rfl
 | p::ps,l,h=>by
  unfold lnR at h
  cases e:lineR (t.extract p.1 p.2)with
  | none=>rw[e]at h;cases h
  | some x=>
   rw[e]at h
   simp only at h
   cases e2:lnR t ps with
   | none=>rw[e2]at h;cases h
   | some l2=>
    rw[e2]at h
    injection h with h
    rw[←h,List.length_cons,List.length_cons,lnX_len e2]
theorem file_lines (t:ByteArray):fileX t=if 8<(splitL t 10).length then none else(lnR t (splitL t 10)).map (fun l=>l.map toX):=by
 have hc:=splitL_cuts t 10
 cases hl:splitL t 10 with
 | nil=>rw[hl]at hc;have:0=t.size+1:=hc;omega
 | cons p ps=>
  rw[hl]at hc
  have hlen:=cuts_len hc
  obtain⟨c1,c2,c3,c4,c5,c6⟩:=hc
  have hline:=line_rule (t:=t) (a:=0) (e:=p.2) c3 c2 c4 c5
  have ih:=fun acc'=>lines_rules (t:=t) ps (t.size+1) acc' p.2 c6 (by simp at hlen;omega) (fun e=>by rw[e]at c6;have:p.2+1=t.size+1:=c6;omega) (fun e=>by
   rcases c5 with k | k
   ·exfalso
    cases ps with
    | nil=>exact e rfl
    | cons p' ps'=>
     obtain⟨_,k2,k3,_⟩:=c6
     omega
   ·refine⟨?_,k⟩
    apply Classical.byContradiction
    intro hge
    cases ps with
    | nil=>exact e rfl
    | cons p' ps'=>
     obtain⟨_,k2,k3,_⟩:=c6
     omega)
  unfold fileX rulesX lnR
  rw[c1]
  cases e1:lineR (t.extract 0 p.2)with
  | none=>
   have hN:(match (match ruleX t 0 with | none=>none | some (x,a)=>rulesLoopX t (t.size+1) [x] a)with | none=>none | some (l,a)=>if a=t.size∧l.length≤8 then some l else none)=(none:Option (List RuleX)):=by
    cases hr:ruleX t 0 with
    | none=>rfl
    | some y=>
     obtain⟨x,b2⟩:=y
     have hb:=hline.2 e1 x b2 hr
     simp only
     rw[rulesLoopX,if_pos (not10 (fun _=>c4 b2 hb.1 hb.2))]
     simp only
     rw[if_neg (fun h=>by omega)]
   refine Eq.trans hN ?_
   split<;> rfl
  | some x=>
   have hr:=hline.1 x e1
   rw[hr]
   simp only
   have ih2:=ih [toX x]
   cases e2:lnR t ps with
   | none=>
    have hN:(match rulesLoopX t (t.size+1) [toX x] p.2 with | none=>none | some (l,a)=>if a=t.size∧l.length≤8 then some l else none)=(none:Option (List RuleX)):=by
     cases hr2:rulesLoopX t (t.size+1) [toX x] p.2 with
     | none=>rfl
     | some y=>
      obtain⟨l,b⟩:=y
      have:=ih2.2 e2 l b hr2
      simp only
      rw[if_neg (fun h=>by omega)]
    refine Eq.trans hN ?_
    split<;> rfl
   | some l2=>
    rw[ih2.1 l2 e2]
    simp only[true_and]
    have:=lnX_len e2
    by_cases h8:8<(p::ps).length
    ·rw[if_pos h8,if_neg (by simp at h8 ⊢;omega)]
    ·rw[if_neg h8,if_pos (by simp at h8 ⊢;omega)]
     rfl
theorem npS_sum:∀(l:List LineT),sumNp (l.map toX)=npS l
 | []=>rfl
 | x::l=>by
  show(toX x).2.2.np+sumNp (l.map toX)=x.2.2.2.np+npS l
  rw[npS_sum l];rfl
theorem read_parse (t:ByteArray):(∀c,readR t=(none,c)→c≠0∧parseC t=(c:Int))∧(∀l c,readR t=(some l,c)→parseC t=0∧fileX t=some (l.map toX)∧npS l≤10∧t.size≤120∧lnR t (splitL t 10)=some l):=by
 obtain⟨p1,p2,p3⟩:=parse_file t
 have hf:=file_lines t
 unfold readR
 by_cases h1:120<t.size
 ·rw[if_pos h1]
  refine⟨fun c h=> ?_,fun l c h=>(by injection h with h;cases h)⟩
  injection h with _ h
  rw[←h]
  exact⟨by decide,p1 h1⟩
 ·rw[if_neg h1]
  by_cases h2:8<(splitL t 10).length
  ·rw[if_pos h2]
   rw[if_pos h2]at hf
   refine⟨fun c h=> ?_,fun l c h=>(by injection h with h;cases h)⟩
   injection h with _ h
   rw[←h]
   exact⟨by decide,p2 (by omega) hf⟩
  ·rw[if_neg h2]
   rw[if_neg h2]at hf
   cases e:lnR t (splitL t 10)with
   | none=>
    rw[e]at hf
    refine⟨fun c h=> ?_,fun l c h=>(by injection h with h;cases h)⟩
    injection h with _ h
    rw[←h]
    exact⟨by decide,p2 (by omega) hf⟩
   | some l=>
    rw[e]at hf
    have hf:fileX t=some (l.map toX):=hf
    obtain⟨q1,q2⟩:=p3 (by omega) _ hf
    rw[putRules_places,show st0.places.length=0 from rfl,Nat.zero_add,npS_sum]at q1 q2
    simp only
    by_cases h3:10<npS l
    ·rw[if_pos h3]
     refine⟨fun c h=> ?_,fun l c h=>(by injection h with h;cases h)⟩
     injection h with _ h
     rw[←h]
     exact⟨by decide,q1 h3⟩
    ·rw[if_neg h3]
     refine⟨fun c h=>(by injection h with h;cases h),fun l' c h=> ?_⟩
     injection h with h _
     injection h with h
     subst h
     exact⟨(q2 (by omega)).1,hf,by omega,by omega,rfl⟩
end Go.Proofs.Ytgjgjgihceijnaa

