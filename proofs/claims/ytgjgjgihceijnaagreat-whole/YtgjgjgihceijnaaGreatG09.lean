import Derived.Test.YtgjgjgihceijnaaGreatG02
import Derived.Test.YtgjgjgihceijnaaGreatG01
open Go.World renaming rangeAt_setCells_same->aL
open Nat renaming le_refl->aO,lt_or_ge->aT
open Bool renaming and_eq_true->aR
open Go.RowKit.Below renaming refl->bC
set_option maxRecDepth 100000
set_option maxHeartbeats 8000000
namespace Go.Stn
def G2 (t:ByteArray)(b:Int)(st:PSt):PSt:=if aM t b st=true then adv st else st
theorem dU {t:ByteArray}{b:Int}{st:PSt}(h:aM t b st=true):G2 t b st=adv st:=by unfold G2;rw[if_pos h]
theorem fO {t:ByteArray}{b:Int}{st:PSt}(h:aM t b st=false):G2 t b st=st:=by unfold G2;rw[if_neg (by rw[h];decide)]
end Go.Stn
namespace Go.Proofs.YtgjgjgihceijnaaGreat
open Go.RowKit Go.Stn
def M4 (w:World)(rb base:Nat)(t:ByteArray)(vr vn vp:Value)(st:PSt)(w':World):Prop:=w.grownBy w' (some rb)/\Rd w' rb base w'.heap.size t st vr vn vp
theorem dV (t:ByteArray)(st:PSt)(b:Int)(rb base:Nat)(vr vn vp:Value)(w:World)(ht:t.size<=120)(hat:st.at_<=t.size)(h:Rd w rb base w.heap.size t st vr vn vp):
  Calls Tryz.prog 66 #[.pointer (some ⟨rb,0,none⟩),.int .i64 b] w fun e w'=>e= .returned (.bool (aM t b st))/\M4 w rb base t vr vn vp (G2 t b st) w':=by
 cases hb:aM t b st with
 | true=>
  rw[dU hb];have hbq:(aJ t st.at_ !=b)=false:=by unfold aM at hb;rw[decide_eq_true_eq]at hb;rw[hb];simp
  go_enter Tryz.func66,Tryz.ntmps66;go_wp2_with fail;refine(pG t st rb base w.heap.size vr vn vp _ h).mono ?_;rintro e w1 ⟨rfl,q,rfl⟩;have HR:=aE (h.drewN q).raise;have HB:Hid (w.grownBy (w.drewN q) (some rb)):=dB (World.grownBy.refl _ _) q;generalize w.drewN q=w1 at*;clear h;have c1:=HR.out.c1;have f1:=HR.out.fz 1;go_wp2;go_ret;exact⟨rfl,fX HB.out _ _,HR.out.adv.raise⟩
 | false=>
  rw[fO hb];have hbq:(aJ t st.at_ !=b)=true:=by unfold aM at hb;rw[decide_eq_false_iff_not]at hb;rw[bne_iff_ne];exact hb
  go_enter Tryz.func66,Tryz.ntmps66;go_wp2_with fail;refine(pG t st rb base w.heap.size vr vn vp _ h).mono ?_;rintro e w1 ⟨rfl,q,rfl⟩;go_wp2;go_ret;exact⟨rfl,dB (World.grownBy.refl _ _) q,(h.drewN q).raise⟩
theorem oL {t:ByteArray}{st:PSt}(h:st.at_<t.size):(adv st).at_<=t.size:=h
theorem Tz (t:ByteArray)(st:PSt)(rb base:Nat)(vr vn vp:Value)(w:World)(ht:t.size<=120)(hat:st.at_<=t.size)(h:Rd w rb base w.heap.size t st vr vn vp):
  Calls Tryz.prog 142 #[.pointer (some ⟨rb,0,none⟩)] w fun e w'=>e= .returned (.tuple #[.int .i64 (nY t st).1,.bool (nY t st).2.1])/\M4 w rb base t vr vn vp (nY t st).2.2 w':=by
 cases h1:aM t 110 st with
 | true=>
  have HE:Hid (nY t st=(10,true,adv st)):=by unfold Hid nY;rw[if_pos h1]
  go_enter Tryz.func142,Tryz.ntmps142;go_wp2_with fail;refine(dV t st 110 rb base vr vn vp _ ht hat h).mono ?_;rintro e w1 ⟨rfl,hr⟩;rw[dU h1]at hr;rw[h1];go_wp2;go_ret2;rw[HE.out];exact⟨rfl,hr⟩
 | false=>
  have n1:¬(aM t 110 st=true):=by rw[h1];decide
  have HS1:=aE h1;go_enter Tryz.func142,Tryz.ntmps142;go_wp2_with fail;refine(dV t st 110 rb base vr vn vp _ ht hat h).mono ?_;rintro e w1 ⟨rfl,hb1,hr1⟩;rw[fO h1]at hr1;rw[h1];have HB1:=aE hb1;clear h hb1;go_wp2_with fail;refine(dV t st 115 rb base vr vn vp _ ht hat hr1).mono ?_;rintro e w2 ⟨rfl,hb2,hr2⟩
  cases h2:aM t 115 st with
  | true=>
   have HE:Hid (nY t st=(32,true,adv st)):=by unfold Hid nY;rw[if_neg n1,if_pos h2]
   rw[dU h2]at hr2;have HR2:=aE hr2;have HB2:=aE (aH HB1.out hb2);clear hr2 hb2 hr1 HB1;go_wp2;go_ret2;rw[HE.out];exact⟨rfl,HB2.out,HR2.out⟩
  | false=>
   have n2:¬(aM t 115 st=true):=by rw[h2];decide
   rw[fO h2]at hr2;have HB2:=aE (aH HB1.out hb2);clear hb2 hr1 HB1;go_wp2_with fail;refine(pG t st rb base _ vr vn vp _ hr2).mono ?_;rintro e w3 ⟨rfl,q,rfl⟩;have HR3:=aE (hr2.drewN q).raise;have HB3:=aE (dB HB2.out q);clear HB2 hr2;generalize w2.drewN q=w3 at*;have c1:=HR3.out.c1;have f1:=HR3.out.fz 1
   cases hv:gY (aJ t st.at_)with
   | false=>
    have HE:Hid (nY t st=(0,false,st)):=by unfold Hid nY;rw[if_neg n1,if_neg n2,if_neg (by rw[hv];simp)]
    clear n1 n2;go_wp2_with (go_at_call 134;refine(nV _ _).mono ?_;rintro e w3 ⟨rfl,rfl⟩);go_ret2;rw[HE.out];exact⟨rfl,HB3.out,HR3.out⟩
   | true=>
    cases hl:P3 (aJ t st.at_)with
    | true=>
     have HE:Hid (nY t st=(0,false,st)):=by unfold Hid nY;rw[if_neg n1,if_neg n2,if_neg (by rw[hl];simp)]
     clear n1 n2;go_wp2_with (first | (go_at_call 134;refine(nV _ _).mono ?_;rintro e w3 ⟨rfl,rfl⟩) | (go_at_call 143;refine(Iw _ _).mono ?_;rintro e w3 ⟨rfl,rfl⟩));go_ret2;rw[HE.out];exact⟨rfl,HB3.out,HR3.out⟩
    | false=>
     have HE:Hid (nY t st=(aJ t st.at_,true,adv st)):=by unfold Hid nY;rw[if_neg n1,if_neg n2,if_pos ⟨hv,hl⟩]
     clear n1 n2;go_wp2_with (first | (go_at_call 134;refine(nV _ _).mono ?_;rintro e w3 ⟨rfl,rfl⟩) | (go_at_call 143;refine(Iw _ _).mono ?_;rintro e w3 ⟨rfl,rfl⟩));go_ret2;rw[HE.out];exact⟨rfl,fX HB3.out _ _,HR3.out.adv.raise⟩
end Go.Proofs.YtgjgjgihceijnaaGreat
namespace Go.Stn
theorem Qu {t:ByteArray}{a:Nat}(h:gY (aJ t a)=true):a<t.size:=by
 unfold gY at h;rw[decide_eq_true_eq]at h;rcases aT a t.size with h1 | h1
 ·exact h1
 ·rw[dA h1]at h;omega
theorem Qi {t sp:ByteArray}{a:Nat}(h:dY (aJ t a) sp=true):a<t.size:=by
 unfold dY at h;rw[aR]at h;exact Qu h.1
theorem bF (st:PSt):(adv st).at_=st.at_+1:=rfl
theorem Jw {t:ByteArray}{st:PSt}(h:st.at_<=t.size):st.at_<=(nY t st).2.2.at_/\(nY t st).2.2.at_<=t.size:=by
 unfold nY;by_cases h1:aM t 110 st=true
 ·rw[if_pos h1];have:=bV (by omega) h1;simp only[bF];omega
 ·rw[if_neg h1];by_cases h2:aM t 115 st=true
  ·rw[if_pos h2];have:=bV (by omega) h2;simp only[bF];omega
  ·rw[if_neg h2];by_cases h3:gY (aJ t st.at_)=true/\P3 (aJ t st.at_)=false
   ·rw[if_pos h3];have:=Qu h3.1;simp only[bF];omega
   ·rw[if_neg h3];exact⟨aO _,h⟩
theorem pJ {t sp:ByteArray}{st:PSt}(h:st.at_<=t.size):st.at_<=(aG t sp st).2.2.at_/\(aG t sp st).2.2.at_<=t.size:=by
 unfold aG;by_cases h1:aM t 92 st=true
 ·rw[if_pos h1];have:=bV (by omega) h1;have:=Jw (t:=t) (st:=adv st) (by rw[bF];omega);rw[bF]at this;omega
 ·rw[if_neg h1];by_cases h2:dY (aJ t st.at_) sp=true
  ·rw[if_pos h2];have:=Qi h2;simp only[bF];omega
  ·rw[if_neg h2];exact⟨aO _,h⟩
theorem Ov {t:ByteArray}{st:PSt}(h:(nY t st).2.1=true):st.at_<(nY t st).2.2.at_:=by
 unfold nY at h ⊢;by_cases h1:aM t 110 st=true
 ·rw[if_pos h1];simp only[bF];omega
 ·rw[if_neg h1]at h ⊢;by_cases h2:aM t 115 st=true
  ·rw[if_pos h2];simp only[bF];omega
  ·rw[if_neg h2]at h ⊢;by_cases h3:gY (aJ t st.at_)=true/\P3 (aJ t st.at_)=false
   ·rw[if_pos h3];simp only[bF];omega
   ·rw[if_neg h3]at h;simp at h
theorem zY {t sp:ByteArray}{st:PSt}(h:(aG t sp st).2.1=true):st.at_<(aG t sp st).2.2.at_:=by
 unfold aG at h ⊢;by_cases h1:aM t 92 st=true
 ·rw[if_pos h1]at h ⊢;have:=Ov h;rw[bF]at this;omega
 ·rw[if_neg h1]at h ⊢;by_cases h2:dY (aJ t st.at_) sp=true
  ·rw[if_pos h2];simp only[bF];omega
  ·rw[if_neg h2]at h;simp at h
theorem sE {t:ByteArray}{f:Nat->Bool}{st:PSt}(h:st.at_<=t.size):st.at_<=(aZ t f st).2.2.at_/\(aZ t f st).2.2.at_<=t.size:=by
 have h1:=pJ (sp:=dN) h;obtain⟨b1,ok1,s1,hS1⟩:∃b ok s,aG t dN st=(b,ok,s):=⟨_,_,_,rfl⟩
 rw[hS1]at h1
 cases ok1 with
 | false=>rw[nW hS1];exact h1
 | true=>
  cases hn:aM t 45 s1 with
  | false=>rw[nK hS1 hn];exact h1
  | true=>
   have hlt:=bV (by omega) hn;have h2:=pJ (sp:=dN) (st:=adv s1) (t:=t) (by rw[bF];omega);obtain⟨b2,ok2,s2,hS2⟩:∃b ok s,aG t dN (adv s1)=(b,ok,s):=⟨_,_,_,rfl⟩
   rw[hS2,bF]at h2;simp only at h1 h2;by_cases hb:ok2=false\/b2<b1
   ·rw[kD hS1 hn hS2 hb];simp only;omega
   ·have ho:ok2=true:=by cases ok2<;> simp_all
    subst ho;rw[nU hS1 hn hS2 (by simp at hb;omega)];simp only;omega
theorem Ar {t:ByteArray}{f:Nat->Bool}{st:PSt}(h:(aZ t f st).2.1=true):st.at_<(aZ t f st).2.2.at_:=by
 have h1:= @zY t dN st;obtain⟨b1,ok1,s1,hS1⟩:∃b ok s,aG t dN st=(b,ok,s):=⟨_,_,_,rfl⟩
 rw[hS1]at h1
 cases ok1 with
 | false=>rw[nW hS1]at h;simp at h
 | true=>
  have h1:=h1 rfl
  cases hn:aM t 45 s1 with
  | false=>rw[nK hS1 hn];exact h1
  | true=>
   have hlt:=bV (by omega) hn;have h2:=pJ (sp:=dN) (st:=adv s1) (t:=t) (by rw[bF];omega);obtain⟨b2,ok2,s2,hS2⟩:∃b ok s,aG t dN (adv s1)=(b,ok,s):=⟨_,_,_,rfl⟩
   rw[hS2,bF]at h2;simp only at h1 h2;by_cases hb:ok2=false\/b2<b1
   ·rw[kD hS1 hn hS2 hb]at h;simp at h
   ·have ho:ok2=true:=by cases ok2<;> simp_all
    subst ho;rw[nU hS1 hn hS2 (by simp at hb;omega)];simp only;omega
theorem pT {t:ByteArray}{st:PSt}(h:st.at_<=t.size):st.at_<=(aI t st).2.2.at_/\(aI t st).2.2.at_<=t.size:=by
 unfold aI;by_cases h1:65<=aJ t st.at_/\aJ t st.at_<69
 ·rw[if_pos h1];have:st.at_<t.size:=by
   rcases aT st.at_ t.size with h2 | h2
   ·exact h2
   ·rw[dA h2]at h1;omega
  simp only[bF];omega
 ·rw[if_neg h1];exact⟨aO _,h⟩
theorem Ev {t:ByteArray}{st:PSt}(h:st.at_<=t.size):st.at_<=(cU t st).2.2.at_/\(cU t st).2.2.at_<=t.size:=by
 unfold cU;by_cases h1:aM t 46 st=true
 ·rw[if_pos h1];have:=bV (by omega) h1;simp only[bF];omega
 ·rw[if_neg h1];by_cases h2:aM t 45 st=true
  ·rw[if_pos h2];have:=bV (by omega) h2;simp only[bF];omega
  ·rw[if_neg h2];have:=pT h;split<;> exact this
end Go.Stn
namespace Go.Proofs.YtgjgjgihceijnaaGreat
open Go.RowKit Go.Stn
theorem vG (t sp:ByteArray)(st:PSt)(rb base:Nat)(vr vn vp:Value)(w:World)(ht:t.size<=120)(hsp:sp.size<=100)(hat:st.at_<=t.size)(h:Rd w rb base w.heap.size t st vr vn vp):
  Calls Tryz.prog 139 #[.pointer (some ⟨rb,0,none⟩),.string sp] w fun e w'=>e= .returned (.tuple #[.int .i64 (aG t sp st).1,.bool (aG t sp st).2.1])/\M4 w rb base t vr vn vp (aG t sp st).2.2 w':=by
 cases h1:aM t 92 st with
 | true=>
  have HE:Hid (aG t sp st=nY t (adv st)):=by unfold Hid aG;rw[if_pos h1]
  have hlt:=bV (by omega) h1;go_enter Tryz.func139,Tryz.ntmps139;go_wp2_with fail;refine(dV t st 92 rb base vr vn vp _ ht hat h).mono ?_;rintro e w1 ⟨rfl,hb1,hr1⟩;rw[dU h1]at hr1;rw[h1];go_wp2_with fail;refine(Tz t (adv st) rb base vr vn vp _ ht (oL hlt) hr1).mono ?_;rintro e w2 ⟨rfl,hb2,hr2⟩;go_wp2;go_ret2;rw[HE.out];exact⟨rfl,aH hb1 hb2,hr2⟩
 | false=>
  have n1:¬(aM t 92 st=true):=by rw[h1];decide
  go_enter Tryz.func139,Tryz.ntmps139;go_wp2_with fail;refine(dV t st 92 rb base vr vn vp _ ht hat h).mono ?_;rintro e w1 ⟨rfl,hb1,hr1⟩;rw[fO h1]at hr1;rw[h1];have HB1:=aE hb1;clear h hb1;go_wp2_with fail;refine(pG t st rb base _ vr vn vp _ hr1).mono ?_;rintro e w2 ⟨rfl,q,rfl⟩;have HR2:=aE (hr1.drewN q).raise;have HB2:=aE (dB HB1.out q);clear HB1 hr1;generalize w1.drewN q=w2 at*;have c1:=HR2.out.c1;have f1:=HR2.out.fz 1
  cases hp:dY (aJ t st.at_) sp with
  | true=>
   have HE:Hid (aG t sp st=(aJ t st.at_,true,adv st)):=by unfold Hid aG;rw[if_neg n1,if_pos hp]
   clear n1;go_wp2_with (go_at_call 128;refine(yH _ _ _ hsp).mono ?_;rintro e w2 ⟨rfl,rfl⟩);go_ret2;rw[HE.out];exact⟨rfl,fX HB2.out _ _,HR2.out.adv.raise⟩
  | false=>
   have HE:Hid (aG t sp st=(0,false,st)):=by unfold Hid aG;rw[if_neg n1,if_neg (by rw[hp];decide)]
   clear n1;go_wp2_with (go_at_call 128;refine(yH _ _ _ hsp).mono ?_;rintro e w2 ⟨rfl,rfl⟩);go_ret2;rw[HE.out];exact⟨rfl,HB2.out,HR2.out⟩
theorem vH (t:ByteArray)(st:PSt)(rb base:Nat)(vr vn vp:Value)(w:World)(ht:t.size<=120)(hat:st.at_<=t.size)(h:Rd w rb base w.heap.size t st vr vn vp):
  Calls Tryz.prog 113 #[.pointer (some ⟨rb,0,none⟩)] w fun e w'=>e= .returned (.tuple #[.int .i64 (aI t st).1,.bool (aI t st).2.1])/\M4 w rb base t vr vn vp (aI t st).2.2 w':=by
 have hpb:=sU t st.at_;go_enter Tryz.func113,Tryz.ntmps113;go_wp2_with fail;refine(pG t st rb base _ vr vn vp _ h).mono ?_;rintro e w2 ⟨rfl,q,rfl⟩;have HR2:=aE (h.drewN q).raise;have HB2:Hid (w.grownBy (w.drewN q) (some rb)):=dB (World.grownBy.refl _ _) q;clear h;generalize w.drewN q=w2 at*;have c1:=HR2.out.c1;have f1:=HR2.out.fz 1;by_cases h1:65<=aJ t st.at_
 ·by_cases h2:aJ t st.at_<69
  ·have HE:Hid (aI t st=(aJ t st.at_ - 65,true,adv st)):=by unfold Hid aI;rw[if_pos ⟨h1,h2⟩]
   go_wp2;go_ret2;rw[HE.out];exact⟨rfl,fX HB2.out _ _,HR2.out.adv.raise⟩
  ·have HE:Hid (aI t st=(0,false,st)):=by unfold Hid aI;rw[if_neg (by omega)]
   go_wp2;go_ret2;rw[HE.out];exact⟨rfl,HB2.out,HR2.out⟩
 ·have HE:Hid (aI t st=(0,false,st)):=by unfold Hid aI;rw[if_neg (by omega)]
  go_wp2;go_ret2;rw[HE.out];exact⟨rfl,HB2.out,HR2.out⟩
theorem rF (t:ByteArray)(st:PSt):0<=(aI t st).1/\(aI t st).1<=3:=by
 unfold aI;split
 ·simp only;omega
 ·simp
theorem Ew (t:ByteArray)(st:PSt)(rb base:Nat)(vr vn vp:Value)(w:World)(ht:t.size<=120)(hat:st.at_<=t.size)(h:Rd w rb base w.heap.size t st vr vn vp):
  Calls Tryz.prog 96 #[.pointer (some ⟨rb,0,none⟩)] w fun e w'=>e= .returned (.tuple #[.int .i64 (cU t st).1,.bool (cU t st).2.1])/\M4 w rb base t vr vn vp (cU t st).2.2 w':=by
 cases h1:aM t 46 st with
 | true=>
  have HE:Hid (cU t st=(0,true,adv st)):=by unfold Hid cU;rw[if_pos h1]
  go_enter Tryz.func96,Tryz.ntmps96;go_wp2_with fail;refine(dV t st 46 rb base vr vn vp _ ht hat h).mono ?_;rintro e w1 ⟨rfl,hr⟩;rw[dU h1]at hr;rw[h1];go_wp2;go_ret2;rw[HE.out];exact⟨rfl,hr⟩
 | false=>
  have n1:¬(aM t 46 st=true):=by rw[h1];decide
  go_enter Tryz.func96,Tryz.ntmps96;go_wp2_with fail;refine(dV t st 46 rb base vr vn vp _ ht hat h).mono ?_;rintro e w1 ⟨rfl,hb1,hr1⟩;rw[fO h1]at hr1;rw[h1];have HB1:=aE hb1;clear h hb1;go_wp2_with fail;refine(dV t st 45 rb base vr vn vp _ ht hat hr1).mono ?_;rintro e w2 ⟨rfl,hb2,hr2⟩
  cases h2:aM t 45 st with
  | true=>
   have HE:Hid (cU t st=(1,true,adv st)):=by unfold Hid cU;rw[if_neg n1,if_pos h2]
   rw[dU h2]at hr2;have HR2:=aE hr2;have HB2:=aE (aH HB1.out hb2);clear hr2 hb2 hr1 HB1;go_wp2;go_ret2;rw[HE.out];exact⟨rfl,HB2.out,HR2.out⟩
  | false=>
   have n2:¬(aM t 45 st=true):=by rw[h2];decide
   rw[fO h2]at hr2;have HB2:=aE (aH HB1.out hb2);clear hb2 hr1 HB1;have hlb:=rF t st;go_wp2_with fail;refine(vH t st rb base vr vn vp _ ht hat hr2).mono ?_;rintro e w3 ⟨rfl,hb3,hr3⟩;have HR3:=aE hr3;have HB3:=aE (aH HB2.out hb3);clear hr2 HB2 hr3 hb3
   cases hl:(aI t st).2.1 with
   | true=>
    have HE:Hid (cU t st=((aI t st).1+2,true,(aI t st).2.2)):=by unfold Hid cU;rw[if_neg n1,if_neg n2,if_pos hl]
    clear n1 n2;generalize aI t st=L at*;go_wp2;go_ret2;rw[HE.out];exact⟨rfl,HB3.out,HR3.out⟩
   | false=>
    have HE:Hid (cU t st=(0,false,(aI t st).2.2)):=by unfold Hid cU;rw[if_neg n1,if_neg n2,if_neg (by rw[hl];decide)]
    clear n1 n2;generalize aI t st=L at*;go_wp2;go_ret2;rw[HE.out];exact⟨rfl,HB3.out,HR3.out⟩
end Go.Proofs.YtgjgjgihceijnaaGreat
namespace Go.Proofs.YtgjgjgihceijnaaGreat
open Go.RowKit Go.Stn
theorem T8:dN.size<=100:=by decide
theorem sB (t sp:ByteArray)(st:PSt):0<=(aG t sp st).1/\(aG t sp st).1<=255:=by
 have hp:=sU t st.at_;have hp2:=sU t (adv st).at_;unfold aG;by_cases h1:aM t 92 st=true
 ·rw[if_pos h1];unfold nY;by_cases a1:aM t 110 (adv st)=true
  ·rw[if_pos a1];simp
  ·rw[if_neg a1];by_cases a2:aM t 115 (adv st)=true
   ·rw[if_pos a2];simp
   ·rw[if_neg a2];by_cases a3:gY (aJ t (adv st).at_)=true/\P3 (aJ t (adv st).at_)=false
    ·rw[if_pos a3];have:=a3.1;unfold gY at this;rw[decide_eq_true_eq]at this;simp only;omega
    ·rw[if_neg a3];simp
 ·rw[if_neg h1];by_cases h2:dY (aJ t st.at_) sp=true
  ·rw[if_pos h2];unfold dY at h2;rw[aR]at h2;have:=h2.1;unfold gY at this;rw[decide_eq_true_eq]at this;simp only;omega
  ·rw[if_neg h2];simp
theorem fA {w X:World}{rb base:Nat}{t:ByteArray}{st st':PSt}{vr vn vp:Value}(h:Rd w rb base w.heap.size t st vr vn vp)(hr:Rd X rb base X.heap.size t st' vr vn vp)(hg:w.grownBy X (some rb))(b o:Nat)(vs:List Value)(hb:w.heap.size<=b):
  M4 w rb base t vr vn vp st' (X.setCells b o vs):=
 ⟨iU hg b o vs hb,((h.retop hr hg.size).below (aD vs o X b (bC _ _) hb)).raise⟩
theorem Wx (f:Nat->Bool)(t:ByteArray)(st:PSt)(rb base:Nat)(vr vn vp:Value)(w:World)(h:Rd w rb base w.heap.size t st vr vn vp):
  Hid (Rd ((w.alloc (.cells (aV f).toArray 158)).alloc (.cells Tryz.zeroCells158 158)) rb base ((w.alloc (.cells (aV f).toArray 158)).alloc (.cells Tryz.zeroCells158 158)).heap.size t st vr vn vp)/\
  Hid (((w.alloc (.cells (aV f).toArray 158)).alloc (.cells Tryz.zeroCells158 158)).rangeAt w.heap.size 0 (aV f))/\
  Hid (((w.alloc (.cells (aV f).toArray 158)).alloc (.cells Tryz.zeroCells158 158)).there (w.heap.size+1) 0 256)/\
  Hid (w.grownBy ((w.alloc (.cells (aV f).toArray 158)).alloc (.cells Tryz.zeroCells158 158)) (some rb))/\
  ((w.alloc (.cells (aV f).toArray 158)).alloc (.cells Tryz.zeroCells158 158)).heap.size=w.heap.size+2:=by
 refine⟨?_,World.rangeAt_alloc (sG w (aV f) 158) _,bI _ Tryz.zeroCells158 158 _ 256 Tryz.bytesZero (by simp),dG (dG (World.grownBy.refl _ _) _) _,by simp⟩;exact(h.below (((bC _ _).alloc (aO _) _).alloc (by simp) _)).raise
theorem I0 (t:ByteArray)(f:Nat->Bool)(st:PSt)(rb base:Nat)(vr vn vp:Value)(w:World)(ht:t.size<=120)(hat:st.at_<=t.size)(h:Rd w rb base w.heap.size t st vr vn vp):
  Calls Tryz.prog 141 #[.pointer (some ⟨rb,0,none⟩),.agg (aV f).toArray] w fun e w'=>
   e= .returned (.tuple #[.agg (aV (aZ t f st).1).toArray,.bool (aZ t f st).2.1])/\M4 w rb base t vr vn vp (aZ t f st).2.2 w':=by
 obtain⟨HR0,HF0,HZ0,HG0,hsz0⟩:=Wx f t st rb base vr vn vp w h;have hrb:rb<w.heap.size:=by have:=h.hb;have:=h.hbt;omega
 go_enter Tryz.func141,Tryz.ntmps141;go_wp2_with fail;generalize (w.alloc (.cells (aV f).toArray 158)).alloc (.cells Tryz.zeroCells158 158)=W0 at*;obtain⟨b1,ok1,st1,hS1⟩:∃b ok s,aG t dN st=(b,ok,s):=⟨_,_,_,rfl⟩
 have hfit1:=sB t dN st;have hat1:=(pJ (t:=t) (sp:=dN) hat).2;have hc1:=vG t dN st rb base vr vn vp W0 ht T8 hat HR0.out;rw[hS1]at hc1 hfit1 hat1;have HS1:=aE hS1;clear hS1;simp only at hc1 hfit1 hat1;refine hc1.mono ?_;rintro e w1 ⟨rfl,hg1,hr1⟩;have HR1:=aE hr1;have HG1:=aE (aH HG0.out hg1);have HF1:=aE (aC HF0.out (hg1.block w.heap.size (by omega) (by intro e;injection e;omega)));have HZ1:=aE (aQ HZ0.out (hg1.block (w.heap.size+1) (by omega) (by intro e;injection e;omega)));have hsz1:w.heap.size+2<=w1.heap.size:=by have:=hg1.size;omega
 clear hr1 hg1 HR0 HF0 HZ0 HG0 hsz0 hc1
 cases ok1 with
 | false=>
  have HE:Hid (aZ t f st=(f,false,st1)):=nW HS1.out;go_wp2_with (first | (refine wpList_load_mid rfl 158 (.tmp 3) rfl w.heap.size 0 rfl (aV f) _ HF1.out Tryz.underlying158 rfl (by rw[aS];exact Tryz.bytesSize) ?_) | (refine wpList_store_mid rfl 158 (.tmp 4) (.tmp 16) rfl (w.heap.size+1) 0 (aV f).toArray rfl rfl (by rw[bH];exact HZ1.out) (by rw[bH];exact Tryz.bytesSize) (all_oneCell_toArray (fH _)) ?_));refine cJ Tryz.results141 (w.heap.size+1) 0 (aV f) _ (.bool false) rfl rfl ?_ Tryz.underlying158 rfl (by rw[aS];exact Tryz.bytesSize) rfl ?_
  ·exact aL _ _ _ _ (by rw[aS];exact HZ1.out)
  ·rw[HE.out];exact⟨rfl,fA h HR1.out HG1.out _ _ _ (by omega)⟩
 | true=>
  go_wp2_with fail;refine(dV t st1 45 rb base vr vn vp _ ht hat1 HR1.out).mono ?_;rintro e w2 ⟨rfl,hg2,hr2⟩;have HG2:=aE (aH HG1.out hg2);have HF2:=aE (aC HF1.out (hg2.block w.heap.size (by omega) (by intro e;injection e;omega)));have HZ2:=aE (aQ HZ1.out (hg2.block (w.heap.size+1) (by omega) (by intro e;injection e;omega)));have hsz2:w.heap.size+2<=w2.heap.size:=by have:=hg2.size;omega
  clear HR1 HG1 HF1 HZ1 hg2 hsz1
  cases hn:aM t 45 st1 with
  | false=>
   rw[fO hn]at hr2;have HR2:=aE hr2;clear hr2;have HE:Hid (aZ t f st=(cK f b1 b1,true,st1)):=nK HS1.out hn;go_wp2_with (first | (refine wpList_load_mid rfl 158 (.tmp 3) rfl w.heap.size 0 rfl (aV f) _ HF2.out Tryz.underlying158 rfl (by rw[aS];exact Tryz.bytesSize) ?_) | fail);refine(E8 f b1 b1 _).mono ?_;rintro e w9 ⟨rfl,hb9⟩;have HR9:=aE (((HR2.out).below (hb9.mono (aO _))).raise);have HG9:=aE (aH HG2.out (bU hb9 (aO _) (some rb)));have HZ9:=aE (lP HZ2.out hb9 (by omega));have hsz9:=hb9.size;clear hb9 HR2 HG2 HZ2 HF2;go_wp2_with (first | (refine wpList_store_mid rfl 158 (.tmp 4) (.tmp 23) rfl (w.heap.size+1) 0 (aV (cK f b1 b1)).toArray rfl rfl (by rw[bH];exact HZ9.out) (by rw[bH];exact Tryz.bytesSize) (all_oneCell_toArray (fH _)) ?_));refine cJ Tryz.results141 (w.heap.size+1) 0 (aV (cK f b1 b1)) _ (.bool true) rfl rfl ?_ Tryz.underlying158 rfl (by rw[aS];exact Tryz.bytesSize) rfl ?_
   ·exact aL _ _ _ _ (by rw[aS];exact HZ9.out)
   ·rw[HE.out];exact⟨rfl,fA h HR9.out HG9.out _ _ _ (by omega)⟩
  | true=>
   rw[dU hn]at hr2;have hlt:=bV (by omega) hn;have hat2:(adv st1).at_<=t.size:=oL hlt;obtain⟨b2,ok2,st2,hS2⟩:∃b ok s,aG t dN (adv st1)=(b,ok,s):=⟨_,_,_,rfl⟩
   have hfit2:=sB t dN (adv st1);have hc2:=vG t dN (adv st1) rb base vr vn vp w2 ht T8 hat2 hr2;rw[hS2]at hc2 hfit2;have HS2:=aE hS2;clear hS2;simp only at hc2 hfit2;go_wp2_with fail;refine hc2.mono ?_;rintro e w3 ⟨rfl,hg3,hr3⟩;have HR3:=aE hr3;have HG3:=aE (aH HG2.out hg3);have HF3:=aE (aC HF2.out (hg3.block w.heap.size (by omega) (by intro e;injection e;omega)));have HZ3:=aE (aQ HZ2.out (hg3.block (w.heap.size+1) (by omega) (by intro e;injection e;omega)));have hsz3:w.heap.size+2<=w3.heap.size:=by have:=hg3.size;omega
   clear hr3 hg3 hr2 HG2 HF2 HZ2 hsz2 hc2
   cases ok2 with
   | false=>
    have HE:Hid (aZ t f st=(f,false,st2)):=kD HS1.out hn HS2.out (.inl rfl);go_wp2_with (first | (refine wpList_load_mid rfl 158 (.tmp 3) rfl w.heap.size 0 rfl (aV f) _ HF3.out Tryz.underlying158 rfl (by rw[aS];exact Tryz.bytesSize) ?_) | (refine wpList_store_mid rfl 158 (.tmp 4) (.tmp 36) rfl (w.heap.size+1) 0 (aV f).toArray rfl rfl (by rw[bH];exact HZ3.out) (by rw[bH];exact Tryz.bytesSize) (all_oneCell_toArray (fH _)) ?_));refine cJ Tryz.results141 (w.heap.size+1) 0 (aV f) _ (.bool false) rfl rfl ?_ Tryz.underlying158 rfl (by rw[aS];exact Tryz.bytesSize) rfl ?_
    ·exact aL _ _ _ _ (by rw[aS];exact HZ3.out)
    ·rw[HE.out];exact⟨rfl,fA h HR3.out HG3.out _ _ _ (by omega)⟩
   | true=>
    by_cases hlo:b2<b1
    ·have HE:Hid (aZ t f st=(f,false,st2)):=kD HS1.out hn HS2.out (.inr hlo);go_wp2_with (first | (refine wpList_load_mid rfl 158 (.tmp 3) rfl w.heap.size 0 rfl (aV f) _ HF3.out Tryz.underlying158 rfl (by rw[aS];exact Tryz.bytesSize) ?_) | (refine wpList_store_mid rfl 158 (.tmp 4) (.tmp 36) rfl (w.heap.size+1) 0 (aV f).toArray rfl rfl (by rw[bH];exact HZ3.out) (by rw[bH];exact Tryz.bytesSize) (all_oneCell_toArray (fH _)) ?_));refine cJ Tryz.results141 (w.heap.size+1) 0 (aV f) _ (.bool false) rfl rfl ?_ Tryz.underlying158 rfl (by rw[aS];exact Tryz.bytesSize) rfl ?_
     ·exact aL _ _ _ _ (by rw[aS];exact HZ3.out)
     ·rw[HE.out];exact⟨rfl,fA h HR3.out HG3.out _ _ _ (by omega)⟩
    ·have HE:Hid (aZ t f st=(cK f b1 b2,true,st2)):=nU HS1.out hn HS2.out hlo;go_wp2_with (first | (refine wpList_load_mid rfl 158 (.tmp 3) rfl w.heap.size 0 rfl (aV f) _ HF3.out Tryz.underlying158 rfl (by rw[aS];exact Tryz.bytesSize) ?_) | fail);refine(E8 f b1 b2 _).mono ?_;rintro e w9 ⟨rfl,hb9⟩;have HR9:=aE (((HR3.out).below (hb9.mono (aO _))).raise);have HG9:=aE (aH HG3.out (bU hb9 (aO _) (some rb)));have HZ9:=aE (lP HZ3.out hb9 (by omega));have hsz9:=hb9.size;clear hb9 HR3 HG3 HZ3 HF3;go_wp2_with (first | (refine wpList_store_mid rfl 158 (.tmp 4) (.tmp 40) rfl (w.heap.size+1) 0 (aV (cK f b1 b2)).toArray rfl rfl (by rw[bH];exact HZ9.out) (by rw[bH];exact Tryz.bytesSize) (all_oneCell_toArray (fH _)) ?_));refine cJ Tryz.results141 (w.heap.size+1) 0 (aV (cK f b1 b2)) _ (.bool true) rfl rfl ?_ Tryz.underlying158 rfl (by rw[aS];exact Tryz.bytesSize) rfl ?_
     ·exact aL _ _ _ _ (by rw[aS];exact HZ9.out)
     ·rw[HE.out];exact⟨rfl,fA h HR9.out HG9.out _ _ _ (by omega)⟩
end Go.Proofs.YtgjgjgihceijnaaGreat
