import Derived.Test.YtgjgjgihceijnaaGreatG02
import Derived.Test.YtgjgjgihceijnaaGreatG01
import Derived.Test.YtgjgjgihceijnaaGreatChecked
import Derived.WalkKit
import Derived.WalkSpells
import Derived.WalkLawsBesides
import Derived.Deep.QuietTactic
import Derived.Deep.LoopGhost
import Derived.BigQuiet
open List renaming map_congr_left->aL,range_succ_eq_map->aO,singleton_append->aR,append_assoc->bC,range->bD,map_cons->bO,map_map->bT
open Bool renaming and_eq_true->aT
open Nat renaming add_mul->bK,le_refl->cL,zero_le->cN
open Go.World renaming cell?_of_block->bM,cell?_setCell_other->bN,cell?_setCell_same->bS,frozen?_setCell->cF,setCell->cO
open Go.Value renaming int->cP
set_option maxRecDepth 100000
set_option maxHeartbeats 8000000
namespace Go.Stn
def iR (s:ByteArray):Nat:=bt s 3
def iM (s:ByteArray):Nat:=bt s (4+iR s)
def iK (s:ByteArray):Nat:=bt s (5+iR s)+1
def iAt (s:ByteArray):Nat->Nat
 | 0=>262+iR s
 | c+1=>vC s (iR s) (iK s) (iAt s c)
def Jl (s:ByteArray):Bool:=
 decide (4<=s.size) && (decide (bt s 0=83/\bt s 1=84/\bt s 2=1) && (decide (1<=iR s) && decide (iR s<=8)))
def Dw (s:ByteArray):Bool:=qV s (4+iR s) 1 4 && decide (iM s≠0)
def Di (s:ByteArray):Bool:=qV s 4 (iR s) (1+(iM s:Int)) && qV s (5+iR s) 1 255
def T4 (s:ByteArray):Bool:=qV s (6+iR s) 256 ((iK s:Int) - 1)
def fV (s:ByteArray):Bool:=
 Jl s && (Dw s && (Di s && (T4 s && (decide (∀c,c<iM s->xM s (iR s) (iK s) (iAt s c)=true) && decide (iAt s (iM s)=s.size)))))
theorem Wf (s:ByteArray):1<=iK s:=by unfold iK;omega
theorem hZ {s:ByteArray}:fV s=true↔
  Jl s=true/\Dw s=true/\Di s=true/\T4 s=true/\(∀c,c<iM s->xM s (iR s) (iK s) (iAt s c)=true)/\iAt s (iM s)=s.size:=by
 unfold fV;simp only[aT,decide_eq_true_eq]
theorem pC {s:ByteArray}:Jl s=true↔4<=s.size/\(bt s 0=83/\bt s 1=84/\bt s 2=1)/\1<=iR s/\iR s<=8:=by
 unfold Jl;simp only[aT,decide_eq_true_eq]
theorem F9 {s:ByteArray}{c:Nat}(h:xM s (iR s) (iK s) (iAt s c)=true):
  iAt s (c+1)=iAt s c+1+bt s (iAt s c)*(1+iK s)/\iAt s (c+1)<=s.size:=by
 have h2:iAt s (c+1)=vC s (iR s) (iK s) (iAt s c):=rfl;rw[h2,(Hx h).2];exact⟨rfl,(nN.1 h).2.2.2.1⟩
theorem Bl {s:ByteArray}{i n:Nat}{m:Int}(h:qV s i n m=true):i+n<=s.size:=by
 unfold qV at h;simp only[aT,decide_eq_true_eq]at h;exact h.1
theorem zH {s:ByteArray}{i n:Nat}{m:Int}(h:qV s i n m=true):∀j,j<n->(bt s (i+j):Int)<=m:=by
 unfold qV at h;simp only[aT,decide_eq_true_eq]at h;exact h.2
end Go.Stn
namespace Go.Stn
def nSt (s:ByteArray)(c:Nat):Nat:=bt s (iAt s c)
def oA (s:ByteArray)(c st:Nat):Nat:=iAt s c+1+st*(1+iK s)
def oO (s:ByteArray)(v:Nat):Nat:=bt s (6+iR s+v)
def bE (s:ByteArray)(c st v:Nat):Nat:=bt s (oA s c st+1+oO s v)
def eA (s:ByteArray)(c st:Nat):Nat:=bt s (oA s c st)
theorem nJ {s:ByteArray}(h:fV s=true):iR s<=8/\1<=iR s/\1<=iM s/\iM s<=4/\6+iR s+256<=s.size:=by
 rw[hZ]at h;have hA:=pC.1 h.1;have hB:=h.2.1;unfold Dw at hB;simp only[aT,decide_eq_true_eq]at hB;have hm:=zH hB.1 0 (by omega);have hD:=h.2.2.2.1;unfold T4 at hD;have:=Bl hD;have e:(bt s (4+iR s+0):Int)=(iM s:Int):=rfl;rw[e]at hm;exact⟨hA.2.2.2,hA.2.2.1,by omega,by omega,by omega⟩
theorem sJ {s:ByteArray}(h:fV s=true)(v:Nat)(hv:v<256):oO s v<iK s:=by
 rw[hZ]at h;have hD:=h.2.2.2.1;unfold T4 at hD;have:=zH hD v hv;unfold oO;omega
theorem vW {s:ByteArray}(h:fV s=true){c:Nat}(hc:c<iM s):xM s (iR s) (iK s) (iAt s c)=true:=(hZ.1 h).2.2.2.2.1 c hc
theorem Jv {s:ByteArray}(h:fV s=true){c st v:Nat}(hc:c<iM s)(hst:st<nSt s c)(hv:v<256):bE s c st v<nSt s c\/bE s c st v=255:=by
 have hs:=nN.1 (vW h hc);have hr:=hs.2.2.2.2 st hst;rw[pA]at hr;have:=hr.2 (oO s v) (sJ h v hv);unfold bE oA nSt;have e:iAt s c+1+st*(1+iK s)+(oO s v+1)=iAt s c+1+st*(1+iK s)+1+oO s v:=by omega
 rw[e]at this;exact this
theorem Uj {s:ByteArray}(h:fV s=true){c st:Nat}(hc:c<iM s)(hst:st<nSt s c):eA s c st<=iR s:=by
 have hs:=nN.1 (vW h hc);have hr:=hs.2.2.2.2 st hst;rw[pA]at hr;exact hr.1
theorem X7 {s:ByteArray}(h:fV s=true){c:Nat}(hc:c<iM s):nSt s c<=100/\1<=nSt s c:=by
 have hs:=nN.1 (vW h hc);unfold nSt;have:=hs.2.1;have:=hs.2.2.1;omega
end Go.Stn
namespace Go.Stn
abbrev LSt:=Nat×Bool
def bX (s:ByteArray)(lo hi:Nat)(r:LSt):Nat×LSt:=
 if r.1<s.size then
  if bt s r.1<lo\/hi<bt s r.1 then(lo,(r.1+1,true))else(bt s r.1,(r.1+1,r.2))
 else(lo,(r.1,true))
def iO (s:ByteArray)(hi:Nat):Nat->List Nat->LSt->List Nat×LSt
 | 0,l,r=>(l,r)
 | n+1,l,r=>iO s hi n (l++ [(bX s 0 hi r).1]) (bX s 0 hi r).2
def lA (s:ByteArray)(count:Nat)(r:LSt):Int×LSt:=
 if(bX s 0 255 r).1=255 then(-1,(bX s 0 255 r).2)
 else if count<=(bX s 0 255 r).1 then(((bX s 0 255 r).1:Int),((bX s 0 255 r).2.1,true))
 else(((bX s 0 255 r).1:Int),(bX s 0 255 r).2)
def jB (s:ByteArray)(count:Nat):Nat->List Int->LSt->List Int×LSt
 | 0,l,r=>(l,r)
 | n+1,l,r=>jB s count n (l++ [(lA s count r).1]) (lA s count r).2
def C7 (s:ByteArray)(rules classes count:Nat):Nat->List (Nat×List Int)->LSt->List (Nat×List Int)×LSt
 | 0,l,r=>(l,r)
 | n+1,l,r=>C7 s rules classes count n (l++ [((bX s 0 rules r).1,(jB s count classes [] (bX s 0 rules r).2).1)]) (jB s count classes [] (bX s 0 rules r).2).2
def lB (s:ByteArray)(rules classes:Nat)(r:LSt):List (Nat×List Int)×LSt:=
 C7 s rules classes (bX s 1 100 r).1 (bX s 1 100 r).1 [] (bX s 1 100 r).2
def jY (s:ByteArray)(rules classes:Nat):Nat->List (List (Nat×List Int))->LSt->List (List (Nat×List Int))×LSt
 | 0,l,r=>(l,r)
 | n+1,l,r=>jY s rules classes n (l++ [(lB s rules classes r).1]) (lB s rules classes r).2
def oM (l:List Nat)(m:Nat):Bool:=decide (∃x∈l,m<x)
def lh3 (s:ByteArray):LSt:=(bX s 1 1 (bX s 84 84 (bX s 83 83 (0,false)).2).2).2
def eK (s:ByteArray):Nat:=(bX s 1 8 (lh3 s)).1
def lh4 (s:ByteArray):LSt:=(bX s 1 8 (lh3 s)).2
def iJ (s:ByteArray):List Nat:=(iO s 5 (eK s) [] (lh4 s)).1
def lh5 (s:ByteArray):LSt:=(iO s 5 (eK s) [] (lh4 s)).2
def qI (s:ByteArray):Nat:=(bX s 1 4 (lh5 s)).1
def lh6 (s:ByteArray):LSt:=((bX s 1 4 (lh5 s)).2.1,(bX s 1 4 (lh5 s)).2.2 || oM (iJ s) (1+qI s))
def gC (s:ByteArray):Nat:=1+(bX s 0 255 (lh6 s)).1
def lh7 (s:ByteArray):LSt:=(bX s 0 255 (lh6 s)).2
def bL (s:ByteArray):List Nat:=(iO s (gC s - 1) 256 [] (lh7 s)).1
def lh8 (s:ByteArray):LSt:=(iO s (gC s - 1) 256 [] (lh7 s)).2
def vF (s:ByteArray):List (List (Nat×List Int)):=(jY s (eK s) (gC s) (qI s) [] (lh8 s)).1
def lh9 (s:ByteArray):LSt:=(jY s (eK s) (gC s) (qI s) [] (lh8 s)).2
theorem wQ {s:ByteArray}{lo hi:Nat}{r:LSt}(h:lo<=hi):lo<=(bX s lo hi r).1/\(bX s lo hi r).1<=hi:=by
 unfold bX;split
 ·split
  ·exact⟨cL _,h⟩
  ·rename_i hn;simp only;omega
 ·exact⟨cL _,h⟩
theorem fG {s:ByteArray}{lo hi:Nat}{r:LSt}(h:r.1<=s.size):(bX s lo hi r).2.1<=s.size:=by
 unfold bX;split
 ·split<;> simp only<;> omega
 ·exact h
theorem yE {s:ByteArray}{lo hi:Nat}{r:LSt}(h:r.2=true):(bX s lo hi r).2.2=true:=by
 unfold bX;split
 ·split
  ·rfl
  ·exact h
 ·rfl
theorem dW {s:ByteArray}{lo hi a:Nat}(h:a<s.size)(h1:lo<=bt s a)(h2:bt s a<=hi):bX s lo hi (a,false)=(bt s a,(a+1,false)):=by
 unfold bX;rw[if_pos h,if_neg (by simp only;omega)]
theorem jH {s:ByteArray}{lo hi:Nat}{r:LSt}(h:(bX s lo hi r).2.2=false):r.2=false/\r.1<s.size/\lo<=bt s r.1/\bt s r.1<=hi:=by
 unfold bX at h;split at h
 ·split at h
  ·cases h
  ·rename_i h1 h2;exact⟨h,h1,by omega,by omega⟩
 ·cases h
theorem G3 {s:ByteArray}{hi:Nat}:∀n l r,r.1<=s.size->(iO s hi n l r).2.1<=s.size:=by
 intro n;induction n with
 | zero=>intro l r h;exact h
 | succ k ih=>intro l r h;exact ih _ _ (fG h)
theorem jJ {s:ByteArray}{hi:Nat}:∀n l r,(iO s hi n l r).1.length=l.length+n:=by
 intro n;induction n with
 | zero=>intro l r;rfl
 | succ k ih=>intro l r;rw[iO,ih];simp;omega
theorem Ns {s:ByteArray}{hi:Nat}:∀n l r,(∀x∈l,x<=hi)->∀x∈(iO s hi n l r).1,x<=hi:=by
 intro n;induction n with
 | zero=>intro l r h;exact h
 | succ k ih=>
  intro l r h;refine ih _ _ (fun x hx=> ?_);rcases List.mem_append.1 hx with h1 | h1
  ·exact h x h1
  ·rw[List.mem_singleton]at h1;rw[h1];exact(wQ (cN _)).2
theorem F5 {s:ByteArray}{hi:Nat}:∀n l r,(iO s hi n l r).2.2=false->r.2=false/\(r.1<=s.size->r.1+n<=s.size)/\∀j,j<n->bt s (r.1+j)<=hi:=by
 intro n;induction n with
 | zero=>intro l r h;exact⟨h,fun h=>h,fun j hj=>by omega⟩
 | succ k ih=>
  intro l r h;rw[iO]at h;obtain⟨h1,h2,h3⟩:=ih _ _ h;obtain⟨g1,g2,g3,g4⟩:=jH h1;have e:bX s 0 hi r=(bt s r.1,(r.1+1,false)):=by
   have:r=(r.1,false):=by rw[←g1]
   rw[this];exact dW g2 (by omega) g4
  rw[e]at h2 h3;simp only at h2 h3;refine⟨g1,fun _=>by have:=h2 (by omega);omega,fun j hj=> ?_⟩
  cases j with
  | zero=>exact g4
  | succ m=>have:=h3 m (by omega);rw[show r.1+(m+1)=r.1+1+m by omega];exact this
theorem zO {s:ByteArray}{hi:Nat}:∀n l a,a+n<=s.size->(∀j,j<n->bt s (a+j)<=hi)->iO s hi n l (a,false)=(l++(bD n).map (fun j=>bt s (a+j)),(a+n,false)):=by
 intro n;induction n with
 | zero=>intro l a _ _;simp[iO]
 | succ k ih=>
  intro l a h1 h2;have e:=dW (s:=s) (lo:=0) (hi:=hi) (a:=a) (by omega) (cN _) (h2 0 (by omega));rw[iO,e];rw[ih _ _ (by omega) (fun j hj=>by have:=h2 (j+1) (by omega);rw[show a+1+j=a+(j+1) by omega];exact this)];refine Prod.ext ?_ (by simp only;congr 1;omega);simp only[bC];congr 1;rw[aO];simp only[bO,bT];rw[aR];congr 1;refine aL (fun j _=> ?_);simp only[Function.comp];rw[show a+1+j=a+(j+1) by omega]
def fD (x:Nat):Int:=if x=255 then -1 else(x:Int)
theorem Dj {s:ByteArray}{n:Nat}{r:LSt}(h:r.1<=s.size):(lA s n r).2.1<=s.size:=by
 unfold lA;split
 ·exact fG h
 ·split<;> exact fG h
theorem Nf {s:ByteArray}{n:Nat}{r:LSt}(h:r.2=true):(lA s n r).2.2=true:=by
 unfold lA;split
 ·exact yE h
 ·split
  ·rfl
  ·exact yE h
theorem Fy {s:ByteArray}{n:Nat}{r:LSt}(h:(lA s n r).2.2=false):r.2=false/\r.1<s.size/\(bt s r.1<n\/bt s r.1=255):=by
 have hg:(bX s 0 255 r).2.2=false:=by
  unfold lA at h;split at h
  ·exact h
  ·split at h
   ·cases h
   ·exact h
 obtain⟨g1,g2,g3,g4⟩:=jH hg;have e:bX s 0 255 r=(bt s r.1,(r.1+1,false)):=by
  have:r=(r.1,false):=by rw[←g1]
  rw[this];exact dW g2 (by omega) g4
 refine⟨g1,g2, ?_⟩;unfold lA at h;rw[e]at h;simp only at h;split at h
 ·right;assumption
 ·split at h
  ·cases h
  ·left;omega
theorem Q2 {s:ByteArray}{n a:Nat}(h:a<s.size)(h1:bt s a<n\/bt s a=255):lA s n (a,false)=(fD (bt s a),(a+1,false)):=by
 have e:=dW (s:=s) (lo:=0) (hi:=255) (a:=a) h (cN _) (by have:=jS s a;omega);unfold lA fD;rw[e];simp only;by_cases h2:bt s a=255
 ·rw[if_pos h2,if_pos h2]
 ·rw[if_neg h2,if_neg h2,if_neg (by omega)]
theorem Kj {s:ByteArray}{c:Nat}:∀n l r,r.1<=s.size->(jB s c n l r).2.1<=s.size:=by
 intro n;induction n with
 | zero=>intro l r h;exact h
 | succ k ih=>intro l r h;exact ih _ _ (Dj h)
theorem Fo {s:ByteArray}{c:Nat}:∀n l r,r.2=true->(jB s c n l r).2.2=true:=by
 intro n;induction n with
 | zero=>intro l r h;exact h
 | succ k ih=>intro l r h;exact ih _ _ (Nf h)
theorem De {s:ByteArray}{c:Nat}:∀n l r,(jB s c n l r).2.2=false->r.2=false/\(r.1<=s.size->r.1+n<=s.size)/\∀j,j<n->bt s (r.1+j)<c\/bt s (r.1+j)=255:=by
 intro n;induction n with
 | zero=>intro l r h;exact⟨h,fun h=>h,fun j hj=>by omega⟩
 | succ k ih=>
  intro l r h;rw[jB]at h;obtain⟨h1,h2,h3⟩:=ih _ _ h;obtain⟨g1,g2,g4⟩:=Fy h1;have e:lA s c r=(fD (bt s r.1),(r.1+1,false)):=by
   have:r=(r.1,false):=by rw[←g1]
   rw[this];exact Q2 g2 g4
  rw[e]at h2 h3;simp only at h2 h3;refine⟨g1,fun _=>by have:=h2 (by omega);omega,fun j hj=> ?_⟩
  cases j with
  | zero=>exact g4
  | succ m=>have:=h3 m (by omega);rw[show r.1+(m+1)=r.1+1+m by omega];exact this
theorem Fs {s:ByteArray}{c:Nat}:∀n l a,a+n<=s.size->(∀j,j<n->bt s (a+j)<c\/bt s (a+j)=255)->jB s c n l (a,false)=(l++(bD n).map (fun j=>fD (bt s (a+j))),(a+n,false)):=by
 intro n;induction n with
 | zero=>intro l a _ _;simp[jB]
 | succ k ih=>
  intro l a h1 h2;have e:=Q2 (s:=s) (n:=c) (a:=a) (by omega) (h2 0 (by omega));rw[jB,e];rw[ih _ _ (by omega) (fun j hj=>by have:=h2 (j+1) (by omega);rw[show a+1+j=a+(j+1) by omega];exact this)];refine Prod.ext ?_ (by simp only;congr 1;omega);simp only[bC];congr 1;rw[aO];simp only[bO,bT];rw[aR];congr 1;refine aL (fun j _=> ?_);simp only[Function.comp];rw[show a+1+j=a+(j+1) by omega]
def V3 (s:ByteArray)(classes a:Nat):Nat×List Int:=(bt s a,(bD classes).map fun k=>fD (bt s (a+(k+1))))
theorem Tx {s:ByteArray}{ru cl c:Nat}:∀n l r,r.1<=s.size->(C7 s ru cl c n l r).2.1<=s.size:=by
 intro n;induction n with
 | zero=>intro l r h;exact h
 | succ k ih=>intro l r h;exact ih _ _ (Kj _ _ _ (fG h))
theorem Rc {s:ByteArray}{ru cl c:Nat}:∀n l r,r.2=true->(C7 s ru cl c n l r).2.2=true:=by
 intro n;induction n with
 | zero=>intro l r h;exact h
 | succ k ih=>intro l r h;exact ih _ _ (Fo _ _ _ (yE h))
theorem Qq {s:ByteArray}{ru cl c:Nat}{r:LSt}(h:(jB s c cl [] (bX s 0 ru r).2).2.2=false):r.2=false/\r.1+1+cl<=s.size/\A9 s ru cl c r.1=true:=by
 obtain⟨h1,h2,h3⟩:=De _ _ _ h;obtain⟨g1,g2,g3,g4⟩:=jH h1;have e:bX s 0 ru r=(bt s r.1,(r.1+1,false)):=by
  have:r=(r.1,false):=by rw[←g1]
  rw[this];exact dW g2 (by omega) g4
 rw[e]at h2 h3;simp only at h2 h3;refine⟨g1,h2 (by omega),pA.2 ⟨g4,fun k hk=> ?_⟩⟩;have:=h3 k hk;rw[show r.1+(k+1)=r.1+1+k by omega];exact this
theorem Jx {s:ByteArray}{ru cl c a:Nat}(h:a+1+cl<=s.size)(h1:A9 s ru cl c a=true):
  bX s 0 ru (a,false)=(bt s a,(a+1,false))/\jB s c cl [] (a+1,false)=((V3 s cl a).2,(a+(1+cl),false)):=by
 obtain⟨h2,h3⟩:=pA.1 h1;refine⟨dW (by omega) (by omega) h2, ?_⟩;rw[Fs _ _ _ (by omega) (fun j hj=>by have:=h3 j hj;rw[show a+1+j=a+(j+1) by omega];exact this)];refine Prod.ext ?_ (by simp only;congr 1;omega);simp only[List.nil_append,V3];refine aL (fun j _=> ?_);rw[show a+1+j=a+(j+1) by omega]
theorem Mv {s:ByteArray}{ru cl c:Nat}:∀n l r,(C7 s ru cl c n l r).2.2=false->r.2=false/\(r.1<=s.size->r.1+n*(1+cl)<=s.size)/\∀j,j<n->A9 s ru cl c (r.1+j*(1+cl))=true:=by
 intro n;induction n with
 | zero=>intro l r h;exact⟨h,fun h=>by omega,fun j hj=>by omega⟩
 | succ k ih=>
  intro l r h;rw[C7]at h;obtain⟨h1,h2,h3⟩:=ih _ _ h;obtain⟨g1,g2,g4⟩:=Qq h1;have er:r=(r.1,false):=by rw[←g1]
  obtain⟨e1,e2⟩:=Jx g2 g4;rw[←er]at e1;rw[e1]at h2 h3;simp only at h2 h3;rw[e2]at h2 h3;simp only at h2 h3;refine⟨g1,fun _=>by have:=h2 (by omega);rw[bK];omega,fun j hj=> ?_⟩
  cases j with
  | zero=>simpa using g4
  | succ m=>have:=h3 m (by omega);rw[show r.1+(m+1)*(1+cl)=r.1+(1+cl)+m*(1+cl) by rw[bK];omega];exact this
theorem Ri {s:ByteArray}{ru cl c:Nat}:∀n l a,a+n*(1+cl)<=s.size->(∀j,j<n->A9 s ru cl c (a+j*(1+cl))=true)->
  C7 s ru cl c n l (a,false)=(l++(bD n).map (fun j=>V3 s cl (a+j*(1+cl))),(a+n*(1+cl),false)):=by
 intro n;induction n with
 | zero=>intro l a _ _;simp[C7]
 | succ k ih=>
  intro l a h1 h2;rw[bK]at h1;obtain⟨e1,e2⟩:=Jx (s:=s) (ru:=ru) (cl:=cl) (c:=c) (a:=a) (by omega) (by simpa using h2 0 (by omega));rw[C7,e1];simp only;rw[e2];simp only;rw[ih _ _ (by omega) (fun j hj=>by have:=h2 (j+1) (by omega);rw[show a+(1+cl)+j*(1+cl)=a+(j+1)*(1+cl) by rw[bK];omega];exact this)];refine Prod.ext ?_ (by simp only;congr 1;rw[bK];omega);simp only[bC];congr 1;rw[aO];simp only[bO,bT];rw[aR];congr 1
  ·simp[V3]
  refine aL (fun j _=> ?_);simp only[Function.comp];rw[show a+(1+cl)+j*(1+cl)=a+(j+1)*(1+cl) by rw[bK];omega]
theorem Db {s:ByteArray}{ru cl:Nat}{r:LSt}(h:r.1<=s.size):(lB s ru cl r).2.1<=s.size:=Tx _ _ _ (fG h)
theorem Q7 {s:ByteArray}{ru cl:Nat}{r:LSt}(h:r.2=true):(lB s ru cl r).2.2=true:=Rc _ _ _ (yE h)
theorem Fc {s:ByteArray}{ru cl:Nat}{r:LSt}(h:(lB s ru cl r).2.2=false):r.2=false/\xM s ru cl r.1=true:=by
 unfold lB at h;obtain⟨h1,h2,h3⟩:=Mv _ _ _ h;obtain⟨g1,g2,g3,g4⟩:=jH h1;have e:bX s 1 100 r=(bt s r.1,(r.1+1,false)):=by
  have:r=(r.1,false):=by rw[←g1]
  rw[this];exact dW g2 g3 g4
 rw[e]at h2 h3;simp only at h2 h3;exact⟨g1,nN.2 ⟨by omega,g4,by omega,h2 (by omega),h3⟩⟩
theorem S9 {s:ByteArray}{ru cl a:Nat}(h:xM s ru cl a=true):lB s ru cl (a,false)=((bD (bt s a)).map (fun j=>V3 s cl (a+1+j*(1+cl))),(vC s ru cl a,false)):=by
 obtain⟨h1,h2,h3,h4,h5⟩:=nN.1 h;have e:=dW (s:=s) (lo:=1) (hi:=100) (a:=a) (by omega) (by omega) h2;unfold lB;rw[e];simp only;rw[Ri _ _ _ h4 h5,(Hx h).2];simp
theorem Lt {s:ByteArray}{ru cl:Nat}:∀n l r,r.1<=s.size->(jY s ru cl n l r).2.1<=s.size:=by
 intro n;induction n with
 | zero=>intro l r h;exact h
 | succ k ih=>intro l r h;exact ih _ _ (Db h)
theorem Bz {s:ByteArray}:∀n l c r,r.1=iAt s c->(jY s (iR s) (iK s) n l r).2.2=false->r.2=false/\(∀j,j<n->xM s (iR s) (iK s) (iAt s (c+j))=true)/\(jY s (iR s) (iK s) n l r).2.1=iAt s (c+n):=by
 intro n;induction n with
 | zero=>intro l c r hr h;exact⟨h,fun j hj=>by omega,hr⟩
 | succ k ih=>
  intro l c r hr h;rw[jY]at h ⊢;have hbad:(lB s (iR s) (iK s) r).2.2=false:=by
   cases hb:(lB s (iR s) (iK s) r).2.2 with
   | false=>rfl
   | true=>
    have:∀n l (r:LSt),r.2=true->(jY s (iR s) (iK s) n l r).2.2=true:=by
     intro n;induction n with
     | zero=>intro l r h;exact h
     | succ k ih=>intro l r h;exact ih _ _ (Q7 h)
    rw[this _ _ _ hb]at h;cases h
  obtain⟨g1,g2⟩:=Fc hbad;have er:r=(r.1,false):=by rw[←g1]
  have e:=S9 g2;rw[←er,hr]at e;obtain⟨h1,h2,h3⟩:=ih (l++ [(lB s (iR s) (iK s) r).1]) (c+1) (lB s (iR s) (iK s) r).2 (by rw[e];rfl) h;refine⟨g1,fun j hj=> ?_,by rw[h3];congr 1;omega⟩
  cases j with
  | zero=>rw[hr]at g2;exact g2
  | succ m=>have:=h2 m (by omega);rw[show c+(m+1)=c+1+m by omega];exact this
theorem Ft {s:ByteArray}:∀n l c,(∀j,j<n->xM s (iR s) (iK s) (iAt s (c+j))=true)->
  jY s (iR s) (iK s) n l (iAt s c,false)=(l++(bD n).map (fun j=>(bD (nSt s (c+j))).map fun st=>V3 s (iK s) (oA s (c+j) st)),(iAt s (c+n),false)):=by
 intro n;induction n with
 | zero=>intro l c _;simp[jY]
 | succ k ih=>
  intro l c h;have e:=S9 (h 0 (by omega));rw[Nat.add_zero]at e;rw[jY,e];simp only;have e2:vC s (iR s) (iK s) (iAt s c)=iAt s (c+1):=rfl;rw[e2,ih _ _ (fun j hj=>by have:=h (j+1) (by omega);rw[show c+1+j=c+(j+1) by omega];exact this)];refine Prod.ext ?_ (by simp only;congr 2;omega);simp only[bC];congr 1;rw[aO];simp only[bO,bT];rw[aR];refine congr (congrArg List.cons rfl) ?_;refine aL (fun j _=> ?_);simp only[Function.comp];rw[show c+1+j=c+(j+1) by omega]
end Go.Stn
namespace Go.Proofs.YtgjgjgihceijnaaGreat
open Go.RowKit Go.Stn
theorem aA {p:Prop}(h:p):Hid p:=h
structure LRd (w:World)(rb:Nat)(s:ByteArray)(r:LSt):Prop where
 c0:w.cell? ⟨rb,0,none⟩=some (.string s)
 c1:w.cell? ⟨rb,1,none⟩=some (.int .i64 r.1)
 c2:w.cell? ⟨rb,2,none⟩=some (.bool r.2)
 fz:∀i,w.frozen? ⟨rb,i,none⟩=false
 hb:rb<w.heap.size
variable {w w':World} {rb:Nat} {s:ByteArray} {r:LSt}
theorem LRd.block (h:LRd w rb s r)(he:w'.heap[rb]? =w.heap[rb]?)(hz:w.heap.size<=w'.heap.size):LRd w' rb s r:=
 ⟨(bM (w:=w) (a:=⟨rb,0,none⟩) he).trans h.c0,(bM (w:=w) (a:=⟨rb,1,none⟩) he).trans h.c1,(bM (w:=w) (a:=⟨rb,2,none⟩) he).trans h.c2,
   fun i=>(World.frozen?_of_block (w:=w) (a:=⟨rb,i,none⟩) he).trans (h.fz i),by have:=h.hb;omega⟩
theorem LRd.drewN (h:LRd w rb s r)(q:Nat):LRd (w.drewN q) rb s r:=⟨h.c0,h.c1,h.c2,h.fz,h.hb⟩
theorem LRd.grown {v:Option Nat}(h:LRd w rb s r)(hg:w.grownBy w' v)(hv:some rb≠v):LRd w' rb s r:=h.block (hg.block rb h.hb hv) hg.size
theorem LRd.below {B:Nat}(h:LRd w rb s r)(hg:Below B w w')(hv:rb<B):LRd w' rb s r:=h.block (hg.block rb hv) hg.size
theorem LRd.setBad (h:LRd w rb s r):LRd (w.setCell ⟨rb,2,none⟩ (.bool true)) rb s (r.1,true):=by
 have o:∀j u,j≠2->w.cell? ⟨rb,j,none⟩=some u->(w.setCell ⟨rb,2,none⟩ (.bool true)).cell? ⟨rb,j,none⟩=some u:=fun j u hj hu=>by
  rw[bN (h:=by intro e;injection e;omega)];exact hu
 exact⟨o 0 _ (by omega) h.c0,o 1 _ (by omega) h.c1,bS _ _ _ h.c2,fun i=>by rw[cF];exact h.fz i,by have:=h.hb;simp[cO];omega⟩
theorem LRd.adv (h:LRd w rb s r):LRd (w.setCell ⟨rb,1,none⟩ (.int .i64 ((r.1:Int)+1))) rb s (r.1+1,r.2):=by
 have o:∀j u,j≠1->w.cell? ⟨rb,j,none⟩=some u->(w.setCell ⟨rb,1,none⟩ (.int .i64 ((r.1:Int)+1))).cell? ⟨rb,j,none⟩=some u:=fun j u hj hu=>by
  rw[bN (h:=by intro e;injection e;omega)];exact hu
 exact⟨o 0 _ (by omega) h.c0,bS _ _ _ h.c1,o 2 _ (by omega) h.c2,fun i=>by rw[cF];exact h.fz i,by have:=h.hb;simp[cO];omega⟩
theorem fP (s:ByteArray)(r:LSt)(lo hi:Nat)(rb:Nat)(w:World)(hs:s.size<=120000)(h:LRd w rb s r)(hr:r.1<=s.size):
  Calls Tryz.prog 80 #[.pointer (some ⟨rb,0,none⟩),.int .i64 lo,.int .i64 hi] w fun e w'=>
   e= .returned (.int .i64 ((bX s lo hi r).1:Int))/\w.grownBy w' (some rb)/\LRd w' rb s (bX s lo hi r).2:=by
 have HR:=aA h;have c0:=h.c0;have c1:=h.c1;have c2:=h.c2;have f1:=h.fz 1;have f2:=h.fz 2;clear h;obtain⟨a,b⟩:=r;simp only at*;by_cases he:s.size<=a
 ·have hd:decide ((s.size:Int)<=(a:Int))=true:=by simp;omega
  have HE:Hid (bX s lo hi (a,b)=(lo,(a,true))):=by unfold Hid bX;rw[if_neg (by simp only;omega)]
  go_enter Tryz.func80,Tryz.ntmps80;go_wp2;go_quiet (fail);go_wp2;go_ret;rw[HE.out];exact⟨rfl,fX (dB (World.grownBy.refl _ _) _) _ _,(HR.out.drewN _).setBad⟩
 ·have hd:decide ((s.size:Int)<=(a:Int))=false:=by simp;omega
  have hbe:=jE s a (by omega);have hbl:=jS s a;have hI:(0:Int)<=(a:Int)/\(a:Int)<(s.size:Int):=by omega
  have hwb:IntKind.i64.wrap (bt s a:Int)=(bt s a:Int):=IntWalk.i64_in _ (by omega);by_cases h1:bt s a<lo
  ·have HE:Hid (bX s lo hi (a,b)=(lo,(a+1,true))):=by unfold Hid bX;rw[if_pos (by simp only;omega),if_pos (.inl h1)]
   have hd1:decide ((bt s a:Int)<(lo:Int))=true:=by simp;omega
   go_enter Tryz.func80,Tryz.ntmps80;go_wp2;go_quiet (fail);go_wp2;go_quiet (fail);go_wp2;go_ret;rw[HE.out];exact⟨rfl,fX (fX (dB (World.grownBy.refl _ _) _) _ _) _ _,((HR.out.drewN _).adv).setBad⟩
  ·have hd1:decide ((bt s a:Int)<(lo:Int))=false:=by simp;omega
   by_cases h2:hi<bt s a
   ·have HE:Hid (bX s lo hi (a,b)=(lo,(a+1,true))):=by unfold Hid bX;rw[if_pos (by simp only;omega),if_pos (.inr h2)]
    have hd2:decide ((hi:Int)<(bt s a:Int))=true:=by simp;omega
    go_enter Tryz.func80,Tryz.ntmps80;go_wp2;go_quiet (fail);go_wp2;go_quiet (fail);go_wp2;go_ret;rw[HE.out];exact⟨rfl,fX (fX (dB (World.grownBy.refl _ _) _) _ _) _ _,((HR.out.drewN _).adv).setBad⟩
   ·have HE:Hid (bX s lo hi (a,b)=(bt s a,(a+1,b))):=by unfold Hid bX;rw[if_pos (by simp only;omega),if_neg (by simp only;omega)]
    have hd2:decide ((hi:Int)<(bt s a:Int))=false:=by simp;omega
    go_enter Tryz.func80,Tryz.ntmps80;go_wp2;go_quiet (fail);go_wp2;go_quiet (fail);go_wp2;go_ret;rw[HE.out];exact⟨rfl,fX (dB (World.grownBy.refl _ _) _) _ _,(HR.out.drewN _).adv⟩
end Go.Proofs.YtgjgjgihceijnaaGreat
namespace Go.Stn
open Go.RowKit
theorem eI {P:Program}(w:World){ops:Array Oper}{rest:List Oper}{o:Oper}{a:Act}{Q:Exit->Act->World->Prop}(hgd:o.guard=none)(s x:Operand)(t:TypeId)
  (ho:o.op= .call {callee:= .builtin .append,args:= #[s,x],argTypes:= #[t,t]})
  (base:Nat) (e:TypeId) (z:Value) (size bytes:Nat) (ht:P.underlying t=some (.slice e)) (hinfo:(P.info? e).map (fun i=>(i.zero,i.size,i.bytes))=some (some z,size,bytes))
  (g k cap:Nat) (xs cs:List Value) (e':TypeId) (hs:a.eval s= .slice (some ⟨g,0,none⟩) k cap) (hown:w.ownsRow base e size (.slice (some ⟨g,0,none⟩) k cap) k xs)
  (B:Nat) (hB:w.heap.size=B) (hx:a.eval x= .slice (some ⟨B,0,none⟩) 1 1) (hl:cs.length=size) (h1:∀u∈cs,u.oneCell'=true) (hk:k+1<=cap)
  (h:∀w',w'.ownsRow base e size (.slice (some ⟨g,0,none⟩) (k+1) cap) (k+1) (xs++cs)->(w.alloc (.cells cs.toArray e')).grownBy w' (some g)->
   wpList P ops Q rest (a.put o.dst (.slice (some ⟨g,0,none⟩) (k+1) cap)) w'):wpList P ops Q (o::rest) a (w.alloc (.cells cs.toArray e')):=by
 subst hB;obtain⟨i,hi,hz,hsize,hb⟩:=info_parts hinfo;refine wpList_append_fits _ hgd s x t ho base e i size ht hi hsize g k cap xs hs (hown.alloc _) ⟨w.heap.size,0,none⟩ 1 1 cs hx (by omega) ?_ h1 hk h;have:=World.news_of_block (w:=w.alloc (.cells cs.toArray e')) (B:=w.heap.size) (cs:=cs.toArray) (t:=e') (fr:=(0,0)) (heap_alloc_new w _);simpa using this
theorem yM {a w w':World}{r:Option Nat}{B:Nat}(h:a.grownBy w r)(k:w.grownBy w' (some B))(hB:a.heap.size<=B):a.grownBy w' r:=
 ⟨k.os.trans h.os,k.tape.trans h.tape,k.output.trans h.output,Nat.le_trans h.size k.size,fun i hi hr=>(k.block i (Nat.lt_of_lt_of_le hi h.size) (by intro e;injection e;omega)).trans (h.block i hi hr)⟩
theorem yU {a w:World}(h:a.grownBy w none)(r:Option Nat):a.grownBy w r:=⟨h.os,h.tape,h.output,h.size,fun i hi _=>h.block i hi (by simp)⟩
def jD (l:List Nat):List Value:=l.map fun(x:Nat)=>cP .i64 (x:Int)
def jP (l:List Int):List Value:=l.map fun(x:Int)=>cP .i64 x
theorem lR (l:List Nat)(x:Nat):jD (l++ [x])=jD l++ [.int .i64 (x:Int)]:=by simp[jD]
theorem nB (l:List Int)(x:Int):jP (l++ [x])=jP l++ [.int .i64 x]:=by simp[jP]
end Go.Stn
namespace Go.Proofs.YtgjgjgihceijnaaGreat
open Go.RowKit Go.Stn
theorem Tryz.infoInt:(Tryz.prog.info? 3).map (fun i=>(i.zero,i.size,i.bytes))=some (some (.int .i64 0),1,8):=by kernel_rfl
theorem Nq (s:ByteArray)(r:LSt)(n:Nat)(rb:Nat)(w:World)(hs:s.size<=120000)(h:LRd w rb s r)(hr:r.1<=s.size):
  Calls Tryz.prog 106 #[.pointer (some ⟨rb,0,none⟩),.int .i64 n] w fun e w'=>
   e= .returned (.int .i64 (lA s n r).1)/\w.grownBy w' (some rb)/\LRd w' rb s (lA s n r).2:=by
 have hn:=fP s r 0 255 rb w hs h hr;have HP:Hid (lA s n r=if(bX s 0 255 r).1=255 then(-1,(bX s 0 255 r).2)
  else if n<=(bX s 0 255 r).1 then(((bX s 0 255 r).1:Int),((bX s 0 255 r).2.1,true))else(((bX s 0 255 r).1:Int),(bX s 0 255 r).2)):=rfl
 generalize bX s 0 255 r=N at*;obtain⟨x,r1⟩:=N;simp only at*;clear h hr;go_enter Tryz.func106,Tryz.ntmps106;go_wp2_with fail;refine hn.mono ?_;rintro e w1 ⟨rfl,hg,hl⟩;have HG:=aA hg;have HL:=aA hl;clear hg hn;by_cases h255:x=255
 ·have hd:((x:Int)==255)=true:=by rw[h255];rfl
  have HE:Hid (lA s n r=(-1,r1)):=HP.out.trans (if_pos h255);clear hl h255;go_wp2;go_ret;rw[HE.out];exact⟨rfl,HG.out,HL.out⟩
 ·have hd:((x:Int)==255)=false:=by rw[beq_eq_false_iff_ne];omega
  by_cases hle:n<=x
  ·have hd2:decide ((n:Int)<=(x:Int))=true:=by simp;omega
   have HE:Hid (lA s n r=((x:Int),(r1.1,true))):=by unfold Hid;rw[HP.out,if_neg h255,if_pos hle]
   have f2:=hl.fz 2;have c2:=hl.c2;clear hl h255;go_wp2;go_ret;rw[HE.out];exact⟨rfl,fX HG.out _ _,HL.out.setBad⟩
  ·have hd2:decide ((n:Int)<=(x:Int))=false:=by simp;omega
   have HE:Hid (lA s n r=((x:Int),r1)):=by unfold Hid;rw[HP.out,if_neg h255,if_neg hle]
   clear hl h255;go_wp2;go_ret;rw[HE.out];exact⟨rfl,HG.out,HL.out⟩
theorem Z0 (s:ByteArray)(r:LSt)(n hi:Nat)(rb:Nat)(w:World)(hs:s.size<=120000)(hn:n<=1000)(h:LRd w rb s r)(hr:r.1<=s.size):
  Calls Tryz.prog 81 #[.pointer (some ⟨rb,0,none⟩),.int .i64 n,.int .i64 hi] w fun e w'=>
   e= .returned (.slice (some ⟨w.heap.size,0,none⟩) n n)/\w'.ownsRow w.heap.size 3 1 (.slice (some ⟨w.heap.size,0,none⟩) n n) n (jD (iO s hi n [] r).1)/\
   w.grownBy w' (some rb)/\LRd w' rb s (iO s hi n [] r).2:=by
 obtain⟨i0,hi0,hz0,hz1,hz2⟩:=info_parts Tryz.infoInt;have HI:Hid (Tryz.prog.info? 3=some i0/\i0.zero=some (.int .i64 0)/\i0.size=1/\i0.bytes=8):=⟨hi0,hz0,hz1,hz2⟩
 clear hi0 hz0 hz1 hz2;have HR:=aA h;have hrb:=h.hb;clear h;go_enter Tryz.func81,Tryz.ntmps81;go_wp2_with (at_make;refine wpList_make_own w rfl _ _ 59 rfl w.heap.size 3 i0 (.int .i64 0) 1 Tryz.underlying59 HI.out.1 HI.out.2.1 HI.out.2.2.1 .i64 .i64 _ n rfl rfl rfl (by rw[HI.out.2.2.2];omega) (by unfold maxLen;omega) (cL _) ?_;intro w1 hown hg);have HR1:=aA (HR.out.grown hg (by simp));have HG1:=aA (yU hg (some rb));have HO1:=aA hown;have hsz1:=hg.size;clear hown hg HR;generalize hB:w.heap.size=B at*
 go_loopg [7] n (fun gk x wr=>∃(xs:List Nat) (k:Nat) (r':LSt),x= .slice (some ⟨B,0,none⟩) k n/\xs.length=k/\k+gk=n/\r'.1<=s.size/\iO s hi n [] r=iO s hi gk xs r'/\
  wr.ownsRow B 3 1 (.slice (some ⟨B,0,none⟩) k n) k (jD xs)/\w.grownBy wr (some rb)/\LRd wr rb s r')
 case atStart=>exact⟨[],0,r,rfl,rfl,by omega,hr,rfl,HO1.out,HG1.out,HR1.out⟩
 case round=>
  obtain⟨xs,k,r',rfl,hxl,hkn,hr',heq,hown,hg,hl⟩:=hrel;have HQ:=aA heq;have HO:=aA hown;have HG:=aA hg;have HL:=aA hl;have HX:=aA hxl;have hsz:B<=wr.heap.size:=by have:=hg.size;omega
  clear heq hown hg hl hxl HR1 HG1 HO1;by_cases hlt:k<n
  ·obtain⟨g',rfl⟩:∃g',gk=g'+1:=⟨gk - 1,by omega⟩
   have HQ2:Hid (iO s hi n [] r=iO s hi g' (xs++ [(bX s 0 hi r').1]) (bX s 0 hi r').2):=HQ.out;have hc:=fP s r' 0 hi rb wr hs HL.out hr';have ha:=fG (lo:=0) (hi:=hi) hr';generalize bX s 0 hi r'=N at*;obtain⟨x,r2⟩:=N;simp only at*;have hd:decide ((k:Int)<(n:Int))=true:=by simp;omega
   go_wp2_with fail;refine hc.mono ?_;rintro e w2 ⟨rfl,hg2,hl2⟩;have HO2:Hid (w2.ownsRow B 3 1 (.slice (some ⟨B,0,none⟩) k n) k (jD xs)):=aA (HO.out.kept hg2 (.inr (by simp[Value.ownBlock];omega)));have HG2:=aA (aH HG.out hg2);have HL2:=aA hl2;have hsz2:B<=w2.heap.size:=by have:=hg2.size;omega
   clear hg2 hl2 HO HG HL hc;go_wp2_with (first | (at_builtin;refine eI w2 rfl _ _ 59 rfl B 3 (.int .i64 0) 1 8 Tryz.underlying59 Tryz.infoInt B k n (jD xs) [.int .i64 (x:Int)] _ rfl HO2.out _ rfl rfl rfl (by simp[Value.oneCell']) (by omega) ?_;intro w3 hown3 hgrow3));go_roundg g'
   case measure=>omega
   case rel=>
    have hg3:=dG HG2.out (.cells #[.int .i64 (x:Int)] 3);refine⟨xs++ [x],k+1,r2,rfl,by simp[HX.out],by omega,ha,HQ2.out,by rw[lR];exact hown3,yM hg3 hgrow3 (by omega), ?_⟩;exact(HL2.out.below ((Below.refl _ _).alloc hsz2 _) (by omega)).grown hgrow3 (by simp;omega)
  ·have e:k=n:=by omega
   subst e;have e2:gk=0:=by omega
   subst e2;have HE:Hid (iO s hi k [] r=(xs,r')):=HQ.out;have hd:decide ((k:Int)<(k:Int))=false:=by simp
   go_wp2;go_ret;rw[HE.out];subst hB;exact⟨rfl,HO.out,HG.out,HL.out⟩
end Go.Proofs.YtgjgjgihceijnaaGreat
