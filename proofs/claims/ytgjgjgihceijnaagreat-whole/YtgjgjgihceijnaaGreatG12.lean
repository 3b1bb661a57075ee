import Derived.Test.YtgjgjgihceijnaaGreatG11
import Derived.Deep.QuietTactic
import Derived.BigQuiet
open Go.World renaming rangeAt_setCells_same->aL,cell?_alloc_past->aR,cell?_of_block->aT,cell?_alloc_at->bC,size_setCell->bS
open Nat renaming le_refl->aO,zero_add->bM
open Int renaming toNat_natCast->bD
open Option renaming isSome_iff_exists->bK
open Go.RowKit.Below renaming refl->bN,heap_setCell->bO
open Go.Value renaming oneCell'->bT
set_option maxRecDepth 100000
set_option maxHeartbeats 8000000
namespace Go.Stn
def mF (f:Nat->Bool)(k:Int):Nat->Bool:=fun i=>if(i:Int)=k then true else f i
def gJ (t:ByteArray):Nat->(Nat->Bool)->Int->PSt->(Nat->Bool)×Bool×PSt
 | 0,f,_,st=>(f,false,st)
 | n+1,f,last,st=>
  if(aI t st).2.1=false then(f,true,(aI t st).2.2)
  else if(aI t st).1<=last then(f,false,(aI t st).2.2)
  else gJ t n (mF f (aI t st).1) (aI t st).1 (aI t st).2.2
def bR (t:ByteArray)(st:PSt):(Nat->Bool)×Bool×PSt:=
 if(aI t st).2.1=false then(aP,false,(aI t st).2.2)
 else gJ t 5 (mF aP (aI t st).1) (aI t st).1 (aI t st).2.2
def Vo (f:Nat->Bool):Value:= .agg #[.bool (f 0),.bool (f 1),.bool (f 2),.bool (f 3)]
theorem oS (t:ByteArray)(st:PSt):dR st (aI t st).2.2:=by
 unfold aI;split
 ·exact dR.adv st
 ·exact dR.refl st
theorem X8 {t:ByteArray}:∀(n:Nat) (f:Nat->Bool) (last:Int) (st:PSt),st.at_<=t.size->dR st (gJ t n f last st).2.2/\st.at_<=(gJ t n f last st).2.2.at_/\(gJ t n f last st).2.2.at_<=t.size:=by
 intro n
 induction n with
 | zero=>intro f last st h;exact⟨dR.refl st,aO _,h⟩
 | succ e ih=>
  intro f last st h;have h1:=oS t st;have h2:=pT h;rw[gJ];split
  ·exact⟨h1,h2⟩
  ·split
   ·exact⟨h1,h2⟩
   ·have h3:=ih (mF f (aI t st).1) (aI t st).1 (aI t st).2.2 h2.2;exact⟨h1.trans h3.1,by omega,h3.2.2⟩
theorem E5 {t:ByteArray}{st:PSt}(h:st.at_<=t.size):dR st (bR t st).2.2/\st.at_<=(bR t st).2.2.at_/\(bR t st).2.2.at_<=t.size:=by
 have h1:=oS t st;have h2:=pT h;unfold bR;split
 ·exact⟨h1,h2⟩
 ·have h3:=X8 (t:=t) 5 (mF aP (aI t st).1) (aI t st).1 (aI t st).2.2 h2.2;exact⟨h1.trans h3.1,by omega,h3.2.2⟩
end Go.Stn
namespace Go.Proofs.YtgjgjgihceijnaaGreat
open Go.RowKit Go.Stn
structure kO (w:World)(b:Nat)(f:Nat->Bool):Prop where
 c0:w.cell? ⟨b,0,none⟩=some (.bool (f 0))
 c1:w.cell? ⟨b,1,none⟩=some (.bool (f 1))
 c2:w.cell? ⟨b,2,none⟩=some (.bool (f 2))
 c3:w.cell? ⟨b,3,none⟩=some (.bool (f 3))
 z:∀i,w.frozen? ⟨b,i,none⟩=false
theorem kO.block {w w':World}{b:Nat}{f:Nat->Bool}(h:kO w b f)(he:w'.heap[b]? =w.heap[b]?):kO w' b f:=
 ⟨(aT (w:=w) (a:=⟨b,0,none⟩) he).trans h.c0,(aT (w:=w) (a:=⟨b,1,none⟩) he).trans h.c1,(aT (w:=w) (a:=⟨b,2,none⟩) he).trans h.c2,(aT (w:=w) (a:=⟨b,3,none⟩) he).trans h.c3,fun i=>(World.frozen?_of_block (w:=w) (a:=⟨b,i,none⟩) he).trans (h.z i)⟩
theorem kO.new (w:World)(b:Nat)(hb:b=w.heap.size):kO (w.alloc (.cells #[.bool false,.bool false,.bool false,.bool false] 117)) b aP:=
 ⟨(bC _ _ b 0 hb).trans rfl,(bC _ _ b 1 hb).trans rfl,(bC _ _ b 2 hb).trans rfl,(bC _ _ b 3 hb).trans rfl,fun i=>World.frozen?_alloc_at _ _ b i hb⟩
theorem kO.alloc {w:World}{b:Nat}{f:Nat->Bool}(h:kO w b f)(hb:b<w.heap.size)(o:Obj):kO (w.alloc o) b f:=
 ⟨(aR o b 0 hb).trans h.c0,(aR o b 1 hb).trans h.c1,(aR o b 2 hb).trans h.c2,(aR o b 3 hb).trans h.c3,fun i=>(World.frozen?_alloc_past o b i hb).trans (h.z i)⟩
theorem kO.there {w:World}{b:Nat}{f:Nat->Bool}(h:kO w b f):w.there b 0 4:=by
 intro j hj;rw[bM];refine⟨?_,h.z j⟩
 match j,hj with
 | 0,_=>rw[h.c0];rfl
 | 1,_=>rw[h.c1];rfl
 | 2,_=>rw[h.c2];rfl
 | 3,_=>rw[h.c3];rfl
def qE (f:Nat->Bool):List Value:= [.bool (f 0),.bool (f 1),.bool (f 2),.bool (f 3)]
theorem Tryz.fourSize:(Tryz.prog.info? 117).map (·.size)=some 4:=by kernel_rfl
theorem iE {P:Program}{ops:Array Oper}{rest:List Oper}{op:Oper}{a:Act}{w:World}{Q:Exit->Act->World->Prop}(hgd:op.guard=none)(ty:TypeId)(x y:Operand)(ho:op.op= .store ty x y)
  (b:Nat) (f g:Nat->Bool) (hx:a.eval x= .pointer (some ⟨b,0,none⟩)) (hy:a.eval y=Vo f) (ht:kO w b g) (hi:(P.info? ty).map (·.size)=some 4)
  (h:wpList P ops Q rest (a.put op.dst undef) (w.setCells b 0 (qE f))):wpList P ops Q (op::rest) a w:=
 wpList_store_mid hgd ty x y ho b 0 (qE f).toArray hx hy ht.there hi (by simp[qE,bT]) h
theorem Ts (f:Nat->Bool)(k:Nat):mF f (k:Int) k=true:=by unfold mF;rw[if_pos rfl]
theorem Vh (f:Nat->Bool)(k i:Nat)(h:i≠k):mF f (k:Int) i=f i:=by unfold mF;rw[if_neg (by omega)]
theorem kO.set {w:World}{b:Nat}{f:Nat->Bool}(h:kO w b f){n:Int}(h0:0<=n)(h3:n<=3):kO (w.setCell ⟨b,n.toNat,none⟩ (.bool true)) b (mF f n):=by
 obtain⟨k,rfl⟩:∃k:Nat,n=(k:Int):=⟨n.toNat,by omega⟩
 rw[bD];have hk:(w.cell? ⟨b,k,none⟩).isSome=true:=by have:=(h.there k (by omega)).1;rw[bM]at this;exact this
 have e:∀i,i<4->w.cell? ⟨b,i,none⟩=some (.bool (f i))->(w.setCell ⟨b,k,none⟩ (.bool true)).cell? ⟨b,i,none⟩=some (.bool (mF f k i)):=by
  intro i hi hc;by_cases hik:i=k
  ·subst hik;rw[Ts,World.cell?_setCell_same' _ _ _ hk]
  ·rw[Vh f k i hik,World.cell?_setCell_other (w:=w) (a:=⟨b,k,none⟩) (b:=⟨b,i,none⟩) (v:= .bool true) (h:=by intro e;exact hik (by injection e with _ e2 _;exact e2.symm)),hc]
 exact⟨e 0 (by omega) h.c0,e 1 (by omega) h.c1,e 2 (by omega) h.c2,e 3 (by omega) h.c3,fun i=>by rw[World.frozen?_setCell];exact h.z i⟩
theorem kO.other {w:World}{b:Nat}{f:Nat->Bool}(h:kO w b f)(c i:Nat)(v:Value)(hc:b≠c):kO (w.setCell ⟨c,i,none⟩ v) b f:=
 h.block (bO w ⟨c,i,none⟩ v b hc)
theorem jI {a w:World}{r:Option Nat}(h:a.grownBy w r){b:Nat}(hb:a.heap.size<=b)(i:Nat)(v:Value):a.grownBy (w.setCell ⟨b,i,none⟩ v) r:=
 ⟨h.os,h.tape,h.output,by have:=h.size;simp[World.setCell];omega,fun k hk hr=>(bO w ⟨b,i,none⟩ v k (by show k≠b;omega)).trans (h.block k hk hr)⟩
theorem No (t:ByteArray)(st:PSt)(rb base:Nat)(vr vn vp:Value)(w:World)(ht:t.size<=120)(hat:st.at_<=t.size)(h:Rd w rb base w.heap.size t st vr vn vp):
  Calls Tryz.prog 94 #[.pointer (some ⟨rb,0,none⟩)] w fun e w'=>
   e= .returned (.tuple #[Vo (bR t st).1,.bool (bR t st).2.1])/\M4 w rb base t vr vn vp (bR t st).2.2 w':=by
 have hb:=rF t st;have hl:=pT (t:=t) hat;have hrb:rb<w.heap.size:=by have:=h.hb;have:=h.hbt;omega
 have HC:Hid (bR t st=if(aI t st).2.1=false then(aP,false,(aI t st).2.2)else gJ t 5 (mF aP (aI t st).1) (aI t st).1 (aI t st).2.2):=rfl;have HB0:Hid (Below w.heap.size w ((w.alloc (.cells #[.bool false,.bool false,.bool false,.bool false] 117)).alloc (.cells #[.bool false,.bool false,.bool false,.bool false] 117))):=((bN _ _).alloc (aO _) _).alloc (by simp) _;have HZ0:Hid (kO ((w.alloc (.cells #[.bool false,.bool false,.bool false,.bool false] 117)).alloc (.cells #[.bool false,.bool false,.bool false,.bool false] 117)) w.heap.size aP):=by
  exact(kO.new w _ rfl).alloc (by simp) _
 have HY0:Hid (kO ((w.alloc (.cells #[.bool false,.bool false,.bool false,.bool false] 117)).alloc (.cells #[.bool false,.bool false,.bool false,.bool false] 117)) (w.heap.size+1) aP):=by
  exact kO.new _ _ (by simp)
 have hsz0:((w.alloc (.cells #[.bool false,.bool false,.bool false,.bool false] 117)).alloc (.cells #[.bool false,.bool false,.bool false,.bool false] 117)).heap.size=w.heap.size+2:=by simp
 go_enter Tryz.func94,Tryz.ntmps94;go_wp2_with fail;generalize (w.alloc (.cells #[.bool false,.bool false,.bool false,.bool false] 117)).alloc (.cells #[.bool false,.bool false,.bool false,.bool false] 117)=W0 at*;refine(vH t st rb base vr vn vp _ ht hat (h.below HB0.out).raise).mono ?_;rintro e w1 ⟨rfl,hg1,hr1⟩;have HZ1:=aE (HZ0.out.block (hg1.block w.heap.size (by omega) (by intro e;injection e;omega)));have HY1:=aE (HY0.out.block (hg1.block (w.heap.size+1) (by omega) (by intro e;injection e;omega)));have HG1:=aE (aH (bU HB0.out (aO _) (some rb)) hg1);have hsz1:w.heap.size+2<=w1.heap.size:=by have:=hg1.size;omega
 have HR1:=aE hr1;clear hr1 HB0 HZ0 HY0 hsz0 hg1;generalize aI t st=M at*;obtain⟨n1,ok1,st1⟩:=M;simp only at HC HR1 hb hl;obtain⟨hb1,hb2⟩:=hb;obtain⟨hl1,hl2⟩:=hl
 cases ok1 with
 | false=>
  have HE:Hid (bR t st=(aP,false,st1)):=HC.out;have c0:=HY1.out.c0;have c1:=HY1.out.c1;have c2:=HY1.out.c2;have c3:=HY1.out.c3;have z0:=HZ1.out.z 0;have z1:=HZ1.out.z 1;have z2:=HZ1.out.z 2;have z3:=HZ1.out.z 3;go_wp2_with (first | (refine iE rfl 117 (.tmp 2) (.tmp 16) rfl w.heap.size aP aP rfl rfl HZ1.out Tryz.fourSize ?_));refine cJ Tryz.results94 w.heap.size 0 (qE aP) _ (.bool false) rfl rfl ?_ Tryz.underlying117 rfl Tryz.fourSize rfl ?_
  ·exact aL _ _ _ _ HZ1.out.there
  ·rw[HE.out];exact⟨rfl,fA h HR1.out.raise HG1.out _ _ _ (aO _)⟩
 | true=>
  have HE:Hid (bR t st=gJ t 5 (mF aP n1) n1 st1):=HC.out;clear HC;have HT1:Hid (kO (w1.setCell ⟨w.heap.size+1,n1.toNat,none⟩ (.bool true)) (w.heap.size+1) (mF aP n1)):=HY1.out.set hb1 hb2;have HZ2:Hid (kO (w1.setCell ⟨w.heap.size+1,n1.toNat,none⟩ (.bool true)) w.heap.size aP):=HZ1.out.other _ _ _ (by omega);have HG2:=aE (jI HG1.out (b:=w.heap.size+1) (by omega) n1.toNat (.bool true));have HR2:=aE ((h.retop HR1.out (by omega)).below ((bN w.heap.size w1).setCell (p:=⟨w.heap.size+1,n1.toNat,none⟩) (by show w.heap.size<=w.heap.size+1;omega) (.bool true)));have hs2:w.heap.size+2<=(w1.setCell ⟨w.heap.size+1,n1.toNat,none⟩ (.bool true)).heap.size:=by rw[bS];exact hsz1
  have hc:(w1.cell? ⟨w.heap.size+1,n1.toNat,none⟩).isSome=true:=by have:=(HY1.out.there n1.toNat (by omega)).1;rw[bM]at this;exact this
  obtain⟨v1,hv1⟩:=bK.1 hc;clear hc;have hz:=HY1.out.z n1.toNat;obtain⟨k1,hk1⟩:∃k:Nat,n1=(k:Int):=⟨n1.toNat,by omega⟩
  subst hk1;rw[bD]at*;go_wp2_with fail;clear hv1 hz;generalize w1.setCell ⟨w.heap.size+1,k1,none⟩ (.bool true)=X0 at*;clear HZ1 HY1 HG1 HR1 hsz1
  go_loopg [5] 5 (fun gk x wr=>∃(f:Nat->Bool) (last:Int) (s:PSt),x= .int .i64 last/\0<=last/\last<=3/\s.at_<=t.size/\3 - last<gk/\bR t st=gJ t gk f last s/\
   Rd wr rb base w.heap.size t s vr vn vp/\kO wr (w.heap.size+1) f/\kO wr w.heap.size aP/\w.grownBy wr (some rb)/\w.heap.size+2<=wr.heap.size)
  case atStart=>exact⟨mF aP k1,k1,st1,rfl,hb1,hb2,hl2,by omega,HE.out,HR2.out,HT1.out,HZ2.out,HG2.out,hs2⟩
  case round=>
   obtain⟨f,last,s,rfl,hla,hlb,has,hfu,hlp,hr,hf,hz,hg,hsz⟩:=hrel;have HL:=aE hlp;have HF:=aE hf;have HZ:=aE hz;have HG:=aE hg;have hb:=rF t s;have hl:=pT (t:=t) has;obtain⟨g',hg'⟩:∃g',gk=g'+1:=⟨gk - 1,by omega⟩
   have HC:Hid (bR t st=if(aI t s).2.1=false then(f,true,(aI t s).2.2)
    else if(aI t s).1<=last then(f,false,(aI t s).2.2)
    else gJ t g' (mF f (aI t s).1) (aI t s).1 (aI t s).2.2):=by
    unfold Hid;rw[HL.out,hg'];rfl
   have HGK:=aE hg';clear hg' hlp hf hz hg HR2 HT1 HZ2 HG2 hs2 HE;go_wp2_with fail;refine(vH t s rb base vr vn vp _ ht has hr.raise).mono ?_;rintro e w3 ⟨rfl,hg3,hr3⟩;have HF3:=aE (HF.out.block (hg3.block (w.heap.size+1) (by omega) (by intro e;injection e;omega)));have HZ3:=aE (HZ.out.block (hg3.block w.heap.size (by omega) (by intro e;injection e;omega)));have HG3:=aE (aH HG.out hg3);have hsz3:w.heap.size+2<=w3.heap.size:=by have:=hg3.size;omega
   have HR3:=aE hr3;clear hr3 hr hg3 HF HZ HG;generalize aI t s=M at*;obtain⟨n3,ok3,st3⟩:=M;simp only at HC HR3 hb hl;obtain⟨hb1,hb2⟩:=hb;obtain⟨hl1,hl2⟩:=hl;have c0:=HF3.out.c0;have c1:=HF3.out.c1;have c2:=HF3.out.c2;have c3:=HF3.out.c3
   cases ok3 with
   | false=>
    have HE:Hid (bR t st=(f,true,st3)):=HC.out;go_wp2_with (first | (refine iE rfl 117 (.tmp 2) (.tmp 26) rfl w.heap.size f aP rfl rfl HZ3.out Tryz.fourSize ?_));refine cJ Tryz.results94 w.heap.size 0 (qE f) _ (.bool true) rfl rfl ?_ Tryz.underlying117 rfl Tryz.fourSize rfl ?_
    ·exact aL _ _ _ _ HZ3.out.there
    ·rw[HE.out];exact⟨rfl,fA h HR3.out.raise HG3.out _ _ _ (aO _)⟩
   | true=>
    by_cases hle:n3<=last
    ·have HE:Hid (bR t st=(f,false,st3)):=HC.out.trans (if_pos hle);go_wp2_with (first | (refine iE rfl 117 (.tmp 2) (.tmp 30) rfl w.heap.size f aP rfl rfl HZ3.out Tryz.fourSize ?_));refine cJ Tryz.results94 w.heap.size 0 (qE f) _ (.bool false) rfl rfl ?_ Tryz.underlying117 rfl Tryz.fourSize rfl ?_
     ·exact aL _ _ _ _ HZ3.out.there
     ·rw[HE.out];exact⟨rfl,fA h HR3.out.raise HG3.out _ _ _ (aO _)⟩
    ·have HE:Hid (bR t st=gJ t g' (mF f n3) n3 st3):=HC.out.trans (if_neg hle);clear HC c0 c1 c2 c3;have HT4:Hid (kO (w3.setCell ⟨w.heap.size+1,n3.toNat,none⟩ (.bool true)) (w.heap.size+1) (mF f n3)):=HF3.out.set hb1 hb2;have HZ4:Hid (kO (w3.setCell ⟨w.heap.size+1,n3.toNat,none⟩ (.bool true)) w.heap.size aP):=HZ3.out.other _ _ _ (by omega);have HG4:=aE (jI HG3.out (b:=w.heap.size+1) (by omega) n3.toNat (.bool true));have HR4:=aE ((h.retop HR3.out (by omega)).below ((bN w.heap.size w3).setCell (p:=⟨w.heap.size+1,n3.toNat,none⟩) (by show w.heap.size<=w.heap.size+1;omega) (.bool true)));have hs4:w.heap.size+2<=(w3.setCell ⟨w.heap.size+1,n3.toNat,none⟩ (.bool true)).heap.size:=by rw[bS];exact hsz3
     have hc:(w3.cell? ⟨w.heap.size+1,n3.toNat,none⟩).isSome=true:=by have:=(HF3.out.there n3.toNat (by omega)).1;rw[bM]at this;exact this
     obtain⟨v3,hv3⟩:=bK.1 hc;clear hc;have hz3:=HF3.out.z n3.toNat;obtain⟨k3,hk3⟩:∃k:Nat,n3=(k:Int):=⟨n3.toNat,by omega⟩
     subst hk3;rw[bD]at*;go_wp2_with fail;clear hv3 hz3;generalize w3.setCell ⟨w.heap.size+1,k3,none⟩ (.bool true)=X4 at*;go_roundg g'
     case measure=>have:=HGK.out;omega
     case rel=>
      exact⟨mF f k3,k3,st3,rfl,hb1,hb2,hl2,by have:=HGK.out;omega,HE.out,HR4.out,HT4.out,HZ4.out,HG4.out,hs4⟩
end Go.Proofs.YtgjgjgihceijnaaGreat
namespace Go.Stn
def Uk (x:(Nat->Bool)×Int×Int)(st:PSt):PSt:= {st with rules:=st.rules++ [x]}
def uC (t:ByteArray)(f:Nat->Bool)(root:Int)(st:PSt):Bool×PSt:=
 if(cU t st).2.1=false then(false,(cU t st).2.2)else(true,Uk (f,(cU t st).1,root) (cU t st).2.2)
def uH (t:ByteArray)(f:Nat->Bool)(st:PSt):Bool×PSt:=
 if(eQ t (t.size+1) st).2.1=false then(false,(eQ t (t.size+1) st).2.2)
 else if aM t 32 (eQ t (t.size+1) st).2.2=false then(false,(eQ t (t.size+1) st).2.2)
 else uC t f (eQ t (t.size+1) st).1 (adv (eQ t (t.size+1) st).2.2)
def gP (t:ByteArray)(st:PSt):Bool×PSt:=
 if(bR t st).2.1=false then(false,(bR t st).2.2)
 else if aM t 32 (bR t st).2.2=false then(false,(bR t st).2.2)
 else uH t (bR t st).1 (adv (bR t st).2.2)
end Go.Stn
namespace Go.Proofs.YtgjgjgihceijnaaGreat
open Go.RowKit Go.Stn
theorem Few.same {a b:PSt}(h:Few a)(k:dR a b)(hl:a.at_<=b.at_):Few b:=by
 obtain⟨h1,h2⟩:=h;refine⟨?_, ?_⟩
 ·rw[k.2.1];omega
 ·rw[k.2.2];omega
theorem kO.stored {w:World}{b:Nat}{g:Nat->Bool}(h:kO w b g)(f:Nat->Bool):kO (w.setCells b 0 (qE f)) b f:=by
 have hr:=aL w b 0 (qE f) h.there;exact⟨hr 0 _ rfl,hr 1 _ rfl,hr 2 _ rfl,hr 3 _ rfl,fun i=>by rw[World.frozen?_setCells];exact h.z i⟩
theorem P5 {t:ByteArray}{ex:PSt->Int×Bool×PSt}(hp:∀s,(cE t ex s).2.2.rules=s.rules):∀(n:Nat) (whole:Int) (ok:Bool) (st:PSt),(gX t ex n whole ok st).2.2.rules=st.rules:=by
 intro n
 induction n with
 | zero=>intro whole ok st;rfl
 | succ e ih=>
  intro whole ok st;rw[gX];split
  ·rfl
  ·split
   ·rfl
   ·rw[ih];exact hp st
theorem G5 {t:ByteArray}{ex:PSt->Int×Bool×PSt}(hp:∀s,(fR t ex s).2.2.rules=s.rules):∀(n:Nat) (whole:Int) (ok:Bool) (st:PSt),(dI t ex n whole ok st).2.2.rules=st.rules:=by
 intro n
 induction n with
 | zero=>intro whole ok st;rfl
 | succ e ih=>
  intro whole ok st;rw[dI];split
  ·rfl
  ·split
   ·rfl
   ·rw[ih];exact hp (adv st)
theorem A6 (t:ByteArray):∀(f:Nat) (st:PSt),(eQ t f st).2.2.rules=st.rules:=by
 intro f
 induction f with
 | zero=>intro st;rfl
 | succ e ih=>
  have h1:∀s,(kQ t s).2.2.rules=s.rules:=by
   intro s;have:=(qY t s).1;unfold kQ;split<;> exact this
  have h2:∀s,(cX t (eQ t e) s).2.2.rules=s.rules:=by
   intro s;unfold cX;split
   ·split
    ·exact ih (adv s)
    ·exact ih (adv s)
   ·exact h1 s
  have h3:∀s,(cE t (eQ t e) s).2.2.rules=s.rules:=by
   intro s;unfold cE;split
   ·split
    ·exact h2 s
    ·exact h2 s
   ·exact h2 s
  have h4:∀s,(fR t (eQ t e) s).2.2.rules=s.rules:=by
   intro s;unfold fR;rw[P5 h3];exact h3 s
  intro st;rw[eQ,G5 h4];exact h4 st
theorem Tryz.infoRule:(Tryz.prog.info? 119).map (fun i=>(i.zero,i.size,i.bytes))=some (some (.agg #[.bool false,.bool false,.bool false,.bool false,.int .i64 0,.int .i64 0]),6,24):=by kernel_rfl
theorem xY (t:ByteArray)(st:PSt):dR st (cU t st).2.2:=by
 unfold cU;split
 ·exact dR.adv st
 ·split
  ·exact dR.adv st
  ·split
   ·exact oS t st
   ·exact oS t st
theorem Ck (t:ByteArray)(st:PSt)(rb base:Nat)(vr vn vp:Value)(w:World)(ht:t.size<=120)(hat:st.at_<=t.size)(hfew:Few st)(hru:st.rules.length<=100000)(h:Rd w rb base w.heap.size t st vr vn vp):
  Calls Tryz.prog 65 #[.pointer (some ⟨rb,0,none⟩)] w fun e w'=>e= .returned (.bool (gP t st).1)/\R5 w rb base t vr vn vp (gP t st).2 w':=by
 have hrb:rb<w.heap.size:=by have:=h.hb;have:=h.hbt;omega
 have HC:Hid (gP t st=if(bR t st).2.1=false then(false,(bR t st).2.2)
  else if aM t 32 (bR t st).2.2=false then(false,(bR t st).2.2)
  else uH t (bR t st).1 (adv (bR t st).2.2)):=rfl
 have hl:=E5 (t:=t) hat;go_enter Tryz.func65,Tryz.ntmps65;go_wp2_with fail;refine(No t st rb base vr vn vp _ ht hat h).mono ?_;rintro e w1 ⟨rfl,hg1,hr1⟩;generalize bR t st=M at*;obtain⟨f,ok1,st1⟩:=M;simp only at HC hl hr1;obtain⟨hsm,hl1,hl2⟩:=hl;have hs1:=hg1.size;have HW1:=aE (hfew.same hsm hl1);have HU1:Hid (st1.rules.length<=100000):=by unfold Hid;rw[hsm.1];exact hru
 have HZ1:=aE ((kO.new w1 _ rfl).stored f);have HB1:Hid (Below w1.heap.size w1 ((w1.alloc (.cells #[.bool false,.bool false,.bool false,.bool false] 117)).setCells w1.heap.size 0 (qE f))):=aD (qE f) 0 _ w1.heap.size ((bN _ _).alloc (aO _) _) (aO _);have HR1:=aE (hr1.below HB1.out).raise;have HF1:Hid (Fr w ((w1.alloc (.cells #[.bool false,.bool false,.bool false,.bool false] 117)).setCells w1.heap.size 0 (qE f)) rb vr vn vp vr vn vp):=Fr.of_grown (aH hg1 (bU HB1.out (aO _) (some rb)));have hz1:w1.heap.size<((w1.alloc (.cells #[.bool false,.bool false,.bool false,.bool false] 117)).setCells w1.heap.size 0 (qE f)).heap.size:=by
  have:=(aD (qE f) 0 (w1.alloc (.cells #[.bool false,.bool false,.bool false,.bool false] 117)) w1.heap.size (bN 0 _) (Nat.zero_le _)).size;simp at this;omega
 have HNB:Hid (¬(w1.heap.size=rb\/vr.ownBlock=some w1.heap.size\/vn.ownBlock=some w1.heap.size\/vp.ownBlock=some w1.heap.size)):=by
  rintro(e | e | e | e)
  ·omega
  ·have:=h.lr _ e;omega
  ·have:=h.ln _ e;omega
  ·have:=h.lp _ e;omega
 clear hg1 hr1 HB1 hsm hfew hru h
 cases ok1 with
 | false=>
  have HE:Hid (gP t st=(false,st1)):=HC.out;go_wp2_with (first | (refine iE rfl 117 (.tmp 3) (.tmp 10) rfl w1.heap.size f aP rfl rfl (kO.new w1 _ rfl) Tryz.fourSize ?_));go_ret;rw[HE.out];exact⟨rfl,_,_,_,HR1.out,HF1.out⟩
 | true=>
 go_wp2_with (first | (refine iE rfl 117 (.tmp 3) (.tmp 10) rfl w1.heap.size f aP rfl rfl (kO.new w1 _ rfl) Tryz.fourSize ?_));generalize (w1.alloc (.cells #[.bool false,.bool false,.bool false,.bool false] 117)).setCells w1.heap.size 0 (qE f)=X1 at*;generalize w1.heap.size=B at*;refine(dV t st1 32 rb base vr vn vp _ ht hl2 HR1.out).mono ?_;rintro e w2 ⟨rfl,hg2,hr2⟩;have HF2:=aE (HF1.out.trans (Fr.of_grown hg2));have HZ2:=aE (HZ1.out.block (hg2.block B (by omega) (by intro e;injection e;omega)));have hz2:B<w2.heap.size:=by have:=hg2.size;omega
 clear hg2 HR1 HF1 HZ1 hz1
 cases hn1:aM t 32 st1 with
 | false=>
  have HE:Hid (gP t st=(false,st1)):=HC.out.trans (if_pos hn1);rw[fO hn1]at hr2;have HR2:=aE hr2;clear hr2;go_wp2;go_ret;rw[HE.out];exact⟨rfl,_,_,_,HR2.out,HF2.out⟩
 | true=>
 have HM:Hid (gP t st=if(eQ t (t.size+1) (adv st1)).2.1=false then(false,(eQ t (t.size+1) (adv st1)).2.2)
  else if aM t 32 (eQ t (t.size+1) (adv st1)).2.2=false then(false,(eQ t (t.size+1) (adv st1)).2.2)
  else uC t f (eQ t (t.size+1) (adv st1)).1 (adv (eQ t (t.size+1) (adv st1)).2.2)):=by
  have hne:¬aM t 32 st1=false:=by rw[hn1];decide
  exact HC.out.trans (if_neg hne)
 have hlt:=bV (by omega) hn1;rw[dU hn1]at hr2;have hc3:=Sn t ht (t.size+1) (adv st1) (by omega) rb base vr vn vp w2 (oL hlt) HW1.out.adv hr2;have hgr:=K7 t (t.size+1) (adv st1) (oL hlt);have HRU:Hid ((eQ t (t.size+1) (adv st1)).2.2.rules=st1.rules):=A6 t (t.size+1) (adv st1);clear HC hn1;generalize eQ t (t.size+1) (adv st1)=M at*;obtain⟨n3,ok3,st3⟩:=M;simp only at HM hgr HRU hc3;have hat3:st3.at_<=t.size:=hgr.2.1;have HW3:=aE (HW1.out.adv.gr hgr);go_wp2_with fail;refine hc3.mono ?_;rintro e w3 ⟨rfl,vr3,vn3,vp3,hr3,hf3⟩;have HF3:=aE (HF2.out.trans hf3);have HZ3:=aE (HZ2.out.block (hf3.block B hz2 HNB.out));have HNB3:=aE (hf3.stay B hz2 HNB.out);have hz3:B<w3.heap.size:=by have:=hf3.size;omega
 have HU3:Hid (st3.rules.length<=100000):=by unfold Hid;rw[HRU.out];exact HU1.out
 clear hf3 hc3 hr2 HF2 HZ2 hz2 HU1 HRU hgr
 cases ok3 with
 | false=>
  have HE:Hid (gP t st=(false,st3)):=HM.out;have HR3:=aE hr3;clear hr3;go_wp2;go_ret;rw[HE.out];exact⟨rfl,_,_,_,HR3.out,HF3.out⟩
 | true=>
 go_wp2_with fail;refine(dV t st3 32 rb base vr3 vn3 vp3 _ ht hat3 hr3).mono ?_;rintro e w4 ⟨rfl,hg4,hr4⟩;have HF4:=aE (HF3.out.trans (Fr.of_grown hg4));have HZ4:=aE (HZ3.out.block (hg4.block B (by omega) (by intro e;injection e;omega)));have hz4:B<w4.heap.size:=by have:=hg4.size;omega
 clear hg4 hr3 HF3 HZ3 hz3
 cases hn3:aM t 32 st3 with
 | false=>
  have HE:Hid (gP t st=(false,st3)):=HM.out.trans (if_pos hn3);rw[fO hn3]at hr4;have HR4:=aE hr4;clear hr4;go_wp2;go_ret;rw[HE.out];exact⟨rfl,_,_,_,HR4.out,HF4.out⟩
 | true=>
 have HEn:Hid (gP t st=if(cU t (adv st3)).2.1=false then(false,(cU t (adv st3)).2.2)else(true,Uk (f,(cU t (adv st3)).1,n3) (cU t (adv st3)).2.2)):=by
  have hne:¬aM t 32 st3=false:=by rw[hn3];decide
  exact HM.out.trans (if_neg hne)
 have hlt3:=bV (by omega) hn3;rw[dU hn3]at hr4;have HSM:Hid ((cU t (adv st3)).2.2.rules=st3.rules):=(xY t (adv st3)).1;have hc5:=Ew t (adv st3) rb base vr3 vn3 vp3 w4 ht (oL hlt3) hr4;clear HM hn3;generalize cU t (adv st3)=M at*;obtain⟨n5,ok5,st5⟩:=M;simp only at HEn HSM hc5;go_wp2_with fail;refine hc5.mono ?_;rintro e w5 ⟨rfl,hg5,hr5⟩;have HF5:=aE (HF4.out.trans (Fr.of_grown hg5));have HZ5:=aE (HZ4.out.block (hg5.block B (by omega) (by intro e;injection e;omega)));have hz5:B<w5.heap.size:=by have:=hg5.size;omega
 have HR5:=aE hr5;clear hg5 hr4 HF4 HZ4 hz4 hr5 hc5
 cases ok5 with
 | false=>
  have HE:Hid (gP t st=(false,st5)):=HEn.out;go_wp2;go_ret;rw[HE.out];exact⟨rfl,_,_,_,HR5.out,HF5.out⟩
 | true=>
 have HE:Hid (gP t st=(true,Uk (f,n5,n3) st5)):=HEn.out;have hnl:st5.rules.length<=100000:=by rw[HSM.out];exact HU3.out
 clear HEn;have c2:=HR5.out.c2;have f2:=HR5.out.fz 2;have d0:=HZ5.out.c0;have d1:=HZ5.out.c1;have d2:=HZ5.out.c2;have d3:=HZ5.out.c3;go_wp2_with fail;have hrb5:rb<w5.heap.size:=by omega
 have hbs:base<=w5.heap.size:=HR5.out.hbt;have hrne:some rb≠vr3.ownBlock:=fun e=>by have:=(HR5.out.rr.lt rb e.symm).1;have:=HR5.out.hb;omega
 go_region_law ((refine lT w5.drew rfl (.tmp 43) (.tmp 48) 40 rfl base 119 (.agg #[.bool false,.bool false,.bool false,.bool false,.int .i64 0,.int .i64 0]) 6 24 Tryz.underlying40 Tryz.infoRule rfl (by decide) (by decide) vr3 st5.rules.length (tA st5.rules) [.bool (f 0),.bool (f 1),.bool (f 2),.bool (f 3),.int .i64 n5,.int .i64 n3] _ (by simp[Act.eval]) HR5.out.rr _ rfl (by simp[Act.eval]) rfl (by simp[bT]) (by omega) hbs ?_;intro g4 cap4 w6 hown4 hgrow4 hat4 hlt4;have m3:=((bG hgrow4 (k:=rb) (by show rb<w5.heap.size;omega) hrne).1 2).trans c2;have n3':=((bG hgrow4 (k:=rb) (by show rb<w5.heap.size;omega) hrne).2 2).trans f2;have HMo:=aE (HR5.out.drew.moreR (x:=(f,n5,n3)) hown4 hgrow4 hat4 hlt4)))
 all_goals
  go_wp2;go_ret;rw[HE.out];exact⟨rfl,_,_,_,HMo.out.1.raise,HF5.out.trans HMo.out.2.of_drew⟩
end Go.Proofs.YtgjgjgihceijnaaGreat
namespace Go.Stn
theorem Gr.same {t:ByteArray}{a b:PSt}(h:dR a b)(h1:a.at_<=b.at_)(h2:b.at_<=t.size):Gr t a b:=(Cd h h1 h2).gr
theorem Gr.step {t:ByteArray}{a:PSt}(h:a.at_<t.size):Gr t a (adv a):=Gr.same (dR.adv a) (by rw[bF];omega) (by rw[bF];omega)
def Gr3 (t:ByteArray)(a b:PSt):Prop:=Gr t a b/\b.rules.length+a.at_<=a.rules.length+b.at_
theorem Em {t:ByteArray}{f:Nat->Bool}{root:Int}{st:PSt}(h:st.at_<=t.size):Gr t st (uC t f root st).2/\(uC t f root st).2.rules.length<=st.rules.length+1:=by
 have h1:=Ev h;have h2:=Go.Proofs.YtgjgjgihceijnaaGreat.xY t st;have h3:=Gr.same h2 h1.1 h1.2;have e:(cU t st).2.2.rules.length=st.rules.length:=by rw[h2.1]
 unfold uC;split
 ·exact⟨h3,by simp only;omega⟩
 ·refine⟨h3, ?_⟩;simp only[Uk,List.length_append,List.length_singleton];omega
theorem Id {t:ByteArray}{f:Nat->Bool}{st:PSt}(h:st.at_<=t.size):Gr t st (uH t f st).2/\((uH t f st).2.rules.length<=st.rules.length+1):=by
 have h1:=K7 t (t.size+1) st h;have h2:=Go.Proofs.YtgjgjgihceijnaaGreat.A6 t (t.size+1) st;have e:(eQ t (t.size+1) st).2.2.rules.length=st.rules.length:=by rw[h2]
 unfold uH;split
 ·exact⟨h1,by simp only;omega⟩
 ·split
  ·exact⟨h1,by simp only;omega⟩
  ·rename_i hn;have hlt:=bV (by omega) (show aM t 32 (eQ t (t.size+1) st).2.2=true by simpa using hn);have h3:=Em (t:=t) (f:=f) (root:=(eQ t (t.size+1) st).1) (st:=adv (eQ t (t.size+1) st).2.2) (by rw[bF];omega);refine⟨(h1.trans (Gr.step hlt)).trans h3.1, ?_⟩;have h4:=h3.2;have e2:(adv (eQ t (t.size+1) st).2.2).rules=(eQ t (t.size+1) st).2.2.rules:=rfl;rw[e2]at h4;omega
theorem wK {t:ByteArray}{st:PSt}(h:st.at_<=t.size):Gr3 t st (gP t st).2:=by
 have h1:=E5 h;have h2:=Gr.same h1.1 h1.2.1 h1.2.2;have e:(bR t st).2.2.rules.length=st.rules.length:=by rw[h1.1.1]
 unfold gP;split
 ·exact⟨h2,by simp only;omega⟩
 ·split
  ·exact⟨h2,by simp only;omega⟩
  ·rename_i hn;have hlt:=bV (by omega) (show aM t 32 (bR t st).2.2=true by simpa using hn);have h3:=Id (t:=t) (f:=(bR t st).1) (st:=adv (bR t st).2.2) (by rw[bF];omega);refine⟨(h2.trans (Gr.step hlt)).trans h3.1, ?_⟩;have h4:=h3.2;have h5:=h3.1.1;have e2:(adv (bR t st).2.2).rules=(bR t st).2.2.rules:=rfl;rw[e2]at h4;rw[bF]at h5;omega
def eZ (t:ByteArray):Nat->Bool->PSt->Bool×PSt
 | 0,_,st=>(false,st)
 | n+1,ok,st=>if ok=false then(false,st)else if aM t 10 st=false then(true,st)else eZ t n (gP t (adv st)).1 (gP t (adv st)).2
theorem oJ (t:ByteArray)(n:Nat)(st:PSt):eZ t n false st=(false,st):=by cases n<;> rfl
theorem tK {t:ByteArray}{n:Nat}{st:PSt}(h:aM t 10 st=false):eZ t (n+1) true st=(true,st):=by rw[eZ,if_neg (by decide),if_pos h]
theorem tC {t:ByteArray}{n:Nat}{st:PSt}(h:aM t 10 st=true):eZ t (n+1) true st=eZ t n (gP t (adv st)).1 (gP t (adv st)).2:=by rw[eZ,if_neg (by decide),if_neg (by rw[h];decide)]
def gF (t:ByteArray)(st:PSt):Bool×PSt:=eZ t (t.size+1) (gP t st).1 (gP t st).2
def mD (t:ByteArray)(x:Bool×PSt):Bool:=x.1 && (decide (x.2.at_=t.size) && decide (x.2.rules.length<=8))
end Go.Stn
namespace Go.Proofs.YtgjgjgihceijnaaGreat
open Go.RowKit Go.Stn
theorem La (t:ByteArray)(st:PSt)(rb base:Nat)(vr vn vp:Value)(w:World)(ht:t.size<=120)(hat:st.at_<=t.size)(hfew:Few st)(hru:st.rules.length<=st.at_)(h:Rd w rb base w.heap.size t st vr vn vp):
  Calls Tryz.prog 33 #[.pointer (some ⟨rb,0,none⟩)] w fun e w'=>e= .returned (.bool (mD t (gF t st)))/\R5 w rb base t vr vn vp (gF t st).2 w':=by
 have hc1:=Ck t st rb base vr vn vp w ht hat hfew (by omega) h;have hg1:=wK (t:=t) hat;have HA:Hid (gF t st=eZ t (t.size+1) (gP t st).1 (gP t st).2):=rfl;generalize gP t st=M at*;obtain⟨ok1,st1⟩:=M;simp only at hc1 hg1 HA;have hat1:st1.at_<=t.size:=hg1.1.2.1;have HFW:=aE (hfew.gr hg1.1);have hru1:st1.rules.length<=st1.at_:=by have:=hg1.2;omega
 clear hg1 hfew;go_enter Tryz.func33,Tryz.ntmps33;go_wp2_with fail;refine hc1.mono ?_;rintro e w1 ⟨rfl,vr1,vn1,vp1,hr1,hf1⟩;have HR1:=aE hr1;have HF1:=aE hf1;clear hf1 hc1 hr1;go_wp2_with fail
 go_loopg [3] (t.size+1) (fun gk y wr=>∃(ok:Bool) (s:PSt) (vr2 vn2 vp2:Value),y= .bool ok/\s.at_<=t.size/\s.rules.length<=s.at_/\Few s/\(ok=true->t.size - s.at_<gk)/\gF t st=eZ t gk ok s/\
  Rd wr rb base wr.heap.size t s vr2 vn2 vp2/\Fr w wr rb vr vn vp vr2 vn2 vp2)
 case atStart=>exact⟨ok1,st1,vr1,vn1,vp1,rfl,hat1,hru1,HFW.out,fun _=>by omega,HA.out,HR1.out,HF1.out⟩
 case round=>
  obtain⟨ok,s,vr2,vn2,vp2,rfl,has,hrs,hfs,hfu,hal,hr,hf⟩:=hrel;have HL:=aE hal;have HF:=aE hf;have HFS:=aE hfs;have HFU:=aE hfu;clear hal hf hfs hfu HR1 HF1 HFW HA
  cases ok with
  | false=>
   have HE:Hid (gF t st=(false,s)):=HL.out.trans (oJ t gk s);have HR:=aE hr.drewN;clear hr;go_wp2_with fail;go_quiet (fail);go_wp2;go_ret;rw[HE.out];exact⟨rfl,_,_,_,(HR.out _).raise,HF.out.trans (Fr.of_grown (dB (World.grownBy.refl _ _) _))⟩
  | true=>
   obtain⟨g',hg'⟩:∃g',gk=g'+1:=⟨gk - 1,by have:=HFU.out rfl;omega⟩
   have HGK:=aE hg';clear hg';have HUF:Hid (t.size - s.at_<gk):=HFU.out rfl;clear HFU;go_wp2_with fail;refine(dV t s 10 rb base vr2 vn2 vp2 _ ht has hr).mono ?_;rintro e w3 ⟨rfl,hg3,hr3⟩;have HF3:Hid (Fr w w3 rb vr vn vp vr2 vn2 vp2):=HF.out.trans (Fr.of_grown hg3);clear hr HF hg3
   cases hp:aM t 10 s with
   | false=>
    have HE:Hid (gF t st=(true,s)):=by unfold Hid;rw[HL.out,HGK.out];exact tK hp
    rw[fO hp]at hr3;have HR3:=aE hr3;clear hr3;have c0:=HR3.out.c0;have c1:=HR3.out.c1;have c2:=HR3.out.c2;obtain⟨a2,cap2,hsl⟩:=aK HR3.out.rr;rw[hsl]at c2;clear hsl;by_cases he:s.at_=t.size
    ·have hb:(((s.at_:Nat):Int)==((t.size:Nat):Int))=true:=by rw[he];exact beq_self_eq_true _
     by_cases hm:s.rules.length<=8
     ·have HB:Hid (mD t (true,s)=true):=by unfold Hid mD;simp[he,hm]
      have hm':((s.rules.length:Nat):Int)<=8:=by omega
      clear he hm;go_wp2_with fail;go_quiet (fail);go_wp2;go_ret;rw[HE.out,HB.out];exact⟨rfl,_,_,_,(HR3.out.drewN _).raise,HF3.out.trans (Fr.of_grown (dB (World.grownBy.refl _ _) _))⟩
     ·have HB:Hid (mD t (true,s)=false):=by unfold Hid mD;simp;intro _;omega
      have hm':decide (((s.rules.length:Nat):Int)<=8)=false:=by rw[decide_eq_false_iff_not];omega
      clear he hm;go_wp2_with fail;go_quiet (fail);go_wp2;go_ret;rw[HE.out,HB.out];exact⟨rfl,_,_,_,(HR3.out.drewN _).raise,HF3.out.trans (Fr.of_grown (dB (World.grownBy.refl _ _) _))⟩
    ·have hb:(((s.at_:Nat):Int)==((t.size:Nat):Int))=false:=beq_eq_false_iff_ne.2 (by omega);have HB:Hid (mD t (true,s)=false):=by unfold Hid mD;simp[he]
     clear he;go_wp2_with fail;go_quiet (fail);go_wp2;go_ret;rw[HE.out,HB.out];exact⟨rfl,_,_,_,(HR3.out.drewN _).raise,HF3.out.trans (Fr.of_grown (dB (World.grownBy.refl _ _) _))⟩
   | true=>
    have hlt:=bV (by omega) hp;rw[dU hp]at hr3;have hstep:gF t st=eZ t g' (gP t (adv s)).1 (gP t (adv s)).2:=by rw[HL.out,HGK.out];exact tC hp
    have hc4:=Ck t (adv s) rb base vr2 vn2 vp2 w3 ht (oL hlt) HFS.out.adv (by show s.rules.length<=100000;omega) hr3;have hgg:=wK (t:=t) (oL hlt);have HS:=aE hstep;clear hstep;generalize gP t (adv s)=M at*;obtain⟨ok4,st4⟩:=M;simp only at hc4 HS hgg;have ha4:s.at_+1<=st4.at_:=by have:=hgg.1.1;rw[bF]at this;exact this
    have hat4:st4.at_<=t.size:=hgg.1.2.1;have hru4:st4.rules.length<=st4.at_:=by have:=hgg.2;rw[bF]at this;have e:(adv s).rules=s.rules:=rfl;rw[e]at this;omega
    have HW4:=aE (HFS.out.adv.gr hgg.1);clear hgg;go_wp2_with fail;refine hc4.mono ?_;rintro e w4 ⟨rfl,vr4,vn4,vp4,hr4,hf4⟩;have HF4:=aE (HF3.out.trans hf4);have HR4:=aE hr4;clear hf4 hc4 hr3 HF3 hr4;go_wp2_with fail;go_roundg g'
    case measure=>have:=HGK.out;omega
    case rel=>
     refine⟨ok4,st4,vr4,vn4,vp4,rfl,hat4,hru4,HW4.out,fun _=> ?_,HS.out,HR4.out,HF4.out⟩;have a1:=HUF.out;have a2:=HGK.out;omega
end Go.Proofs.YtgjgjgihceijnaaGreat
