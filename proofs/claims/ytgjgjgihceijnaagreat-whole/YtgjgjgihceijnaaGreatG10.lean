import Derived.Test.YtgjgjgihceijnaaGreatG09
import Derived.Deep.LoopGhost
open Go.World renaming rangeAt_setCells_same->aL,there_setCells->aT
open Nat renaming le_refl->aO
open List renaming length_singleton->aR,length_append->bC
open Go.RowKit.Below renaming refl->bD
set_option maxRecDepth 100000
set_option maxHeartbeats 8000000
namespace Go.Proofs.YtgjgjgihceijnaaGreat
open Go.RowKit Go.Stn
theorem Tryz.bytesZeroA:Tryz.zeroCells158=(aV aP).toArray:=by kernel_rfl
theorem Tryz.bytesZeroL2:Tryz.zeroCells158.toList=aV aP:=by rw[Tryz.bytesZeroA]
theorem Tryz.bytesZeroOne:Tryz.zeroCells158.all (·.oneCell')=true:=by kernel_rfl
theorem Vl (t:ByteArray)(st:PSt)(rb base:Nat)(vr vn vp:Value)(w:World)(ht:t.size<=120)(hat:st.at_<=t.size)(h:Rd w rb base w.heap.size t st vr vn vp):
  Calls Tryz.prog 137 #[.pointer (some ⟨rb,0,none⟩)] w fun e w'=>
   e= .returned (.tuple #[.agg (aV (kZ t st).1).toArray,.bool (kZ t st).2.1])/\M4 w rb base t vr vn vp (kZ t st).2.2 w':=by
 have hrb:rb<w.heap.size:=by have:=h.hb;have:=h.hbt;omega
 have HR0:=aE (h.below ((bD _ _).alloc (aO _) (.cells Tryz.zeroCells158 158))).raise;have HZ0:=aE (bI w Tryz.zeroCells158 158 _ 256 Tryz.bytesZero rfl);have HG0:Hid (w.grownBy (w.alloc (.cells Tryz.zeroCells158 158)) (some rb)):=dG (World.grownBy.refl _ _) _;have hsz0:(w.alloc (.cells Tryz.zeroCells158 158)).heap.size=w.heap.size+1:=by simp
 go_enter Tryz.func137,Tryz.ntmps137;go_wp2_with fail;generalize w.alloc (.cells Tryz.zeroCells158 158)=W0 at*;refine(dV t st 94 rb base vr vn vp _ ht hat HR0.out).mono ?_;rintro e w1 ⟨rfl,hg1,hr1⟩;have HG1:=aE (aH HG0.out hg1);have HZ1:=aE (aQ HZ0.out (hg1.block w.heap.size (by omega) (by intro e;injection e;omega)));have hsz1:w.heap.size+1<=w1.heap.size:=by have:=hg1.size;omega
 clear HR0 HZ0 HG0 hsz0 hg1;obtain⟨st1,hst1⟩:∃s,G2 t 94 st=s:=⟨_,rfl⟩
 obtain⟨o,ho⟩:∃o,aM t 94 st=o:=⟨_,rfl⟩
 have hat1:st1.at_<=t.size:=by
  rw[←hst1];unfold G2;split
  ·rename_i hq;exact bV (by omega) hq
  ·exact hat
 have HP:Hid (kZ t st=if o=true then(if(lK t st1).2.1=true then((fun i=> !((lK t st1).1 i)),true,(lK t st1).2.2)else(aP,false,(lK t st1).2.2))else(if(lK t st1).2.1=true then((lK t st1).1,true,(lK t st1).2.2)else(aP,false,(lK t st1).2.2))):=by
  unfold Hid kZ;rw[←hst1,←ho];by_cases hq:aM t 94 st=true
  ·rw[dU hq,if_pos hq,if_pos hq]
  ·rw[fO (by simpa using hq),if_neg hq,if_neg hq]
 rw[hst1]at hr1;rw[ho];clear hst1 ho;have hc2:=I0 t aP st1 rb base vr vn vp w1 ht hat1 hr1;have hm:=sE (f:=aP) hat1;have HRR:Hid (lK t st1=gE t (t.size+1) (aZ t aP st1).1 (aZ t aP st1).2.1 (aZ t aP st1).2.2):=rfl;generalize aZ t aP st1=M at*;obtain⟨f2,ok2,st2⟩:=M;simp only at hc2 hm;go_wp2_with fail;rw[Tryz.bytesZeroA];refine hc2.mono ?_;rintro e w2 ⟨rfl,hg2,hr2⟩;have HG2:=aE (aH HG1.out hg2);have HZ2:=aE (aQ HZ1.out (hg2.block w.heap.size (by omega) (by intro e;injection e;omega)));have hsz2:w.heap.size+1<=w2.heap.size:=by have:=hg2.size;omega
 have HN2:=aE (bI w2 Tryz.zeroCells158 158 _ 256 Tryz.bytesZero rfl);have HR2:=aE hr2;clear HG1 HZ1 hsz1 hg2 hr1 hr2 hc2;go_wp2_with (first | (refine wpList_store_mid rfl 158 (.tmp 5) (.tmp 13) rfl w2.heap.size 0 (aV f2).toArray rfl rfl (by rw[bH];exact HN2.out) (by rw[bH];exact Tryz.bytesSize) (all_oneCell_toArray (fH _)) ?_));have HR3:=aE (((h.retop HR2.out (by omega)).below ((bD _ _).alloc (by omega) (.cells Tryz.zeroCells158 158))).below (aD (aV f2) 0 _ w2.heap.size (bD w.heap.size _) (by omega)));have HG3:=aE (iU (dG HG2.out (.cells Tryz.zeroCells158 158)) w2.heap.size 0 (aV f2) (by omega));have HF3:=aE (aL (w2.alloc (.cells Tryz.zeroCells158 158)) w2.heap.size 0 (aV f2) (by rw[aS];exact HN2.out));have HT3:=aE (aT HN2.out w2.heap.size 0 (aV f2));have HZ3:=aE (aT (World.there_alloc HZ2.out (.cells Tryz.zeroCells158 158)) w2.heap.size 0 (aV f2));have hz3:w2.heap.size<((w2.alloc (.cells Tryz.zeroCells158 158)).setCells w2.heap.size 0 (aV f2)).heap.size:=by
  have:=(aD (aV f2) 0 (w2.alloc (.cells Tryz.zeroCells158 158)) w2.heap.size (bD 0 _) (Nat.zero_le _)).size;simp at this;omega
 generalize hB2:w2.heap.size=B2 at*;generalize (w2.alloc (.cells Tryz.zeroCells158 158)).setCells B2 0 (aV f2)=X0 at*;clear hB2 HR2 HG2 HZ2 HN2
 go_loopg [6] (t.size+1) (fun gk x wr=>∃(f:Nat->Bool) (ok:Bool) (s:PSt),x= .bool ok/\s.at_<=t.size/\(ok=true->t.size - s.at_<gk)/\lK t st1=gE t gk f ok s/\
  Rd wr rb base w.heap.size t s vr vn vp/\wr.rangeAt B2 0 (aV f)/\wr.there B2 0 256/\wr.there w.heap.size 0 256/\w.grownBy wr (some rb)/\B2<wr.heap.size)
 case atStart=>exact⟨f2,ok2,st2,rfl,hm.2,fun _=>by omega,HRR.out,HR3.out,HF3.out,HT3.out,HZ3.out,HG3.out,hz3⟩
 case round=>
  obtain⟨f,ok,s,rfl,has,hfu,hlp,hr,hf,htt,hz,hg,hbz⟩:=hrel;have HL:=aE hlp;have HR:=aE hr;have HF:=aE hf;have HT:=aE htt;have HZ:=aE hz;have HG:=aE hg;clear hlp hr hf htt hz hg HR3 HG3 HF3 HT3 HZ3
  cases ok with
  | false=>
   have hS:lK t st1=(f,false,s):=HL.out.trans (qX t gk f s);have HE:Hid (kZ t st=(aP,false,s)):=by
    unfold Hid;rw[HP.out,hS];cases o<;> rfl
   clear hS;go_wp2_with (first | (refine wpList_store_mid rfl 158 (.tmp 2) (.tmp 29) rfl w.heap.size 0 Tryz.zeroCells158 rfl rfl (by rw[Tryz.bytesZero];exact HZ.out) (by rw[Tryz.bytesZero];exact Tryz.bytesSize) Tryz.bytesZeroOne ?_));refine cJ Tryz.results137 w.heap.size 0 (aV aP) _ (.bool false) rfl rfl ?_ Tryz.underlying158 rfl (by rw[aS];exact Tryz.bytesSize) rfl ?_
   ·rw[Tryz.bytesZeroL2];exact aL _ _ _ _ (by rw[aS];exact HZ.out)
   ·rw[HE.out];exact⟨rfl,fA h HR.out.raise HG.out _ _ _ (aO _)⟩
  | true=>
   have HFU:=aE (hfu rfl);clear hfu;obtain⟨g',hg'⟩:∃g',gk=g'+1:=⟨gk - 1,by have:=HFU.out;omega⟩
   have HGK:=aE hg';clear hg';go_wp2_with fail;refine(dV t s 93 rb base vr vn vp _ ht has HR.out.raise).mono ?_;rintro e w3 ⟨rfl,hg3,hr3⟩;have HG4:=aE (aH HG.out hg3);have HF4:=aE (aC HF.out (hg3.block B2 hbz (by intro e;injection e;omega)));have HT4:=aE (aQ HT.out (hg3.block B2 hbz (by intro e;injection e;omega)));have HZ4:=aE (aQ HZ.out (hg3.block w.heap.size (by omega) (by intro e;injection e;omega)));have hsz4:B2<w3.heap.size:=by have:=hg3.size;omega
   clear HG HF HT HZ hg3
   cases hn:aM t 93 s with
   | true=>
    rw[dU hn]at hr3;have HR4:=aE hr3;have hS:lK t st1=(f,true,adv s):=by rw[HL.out,HGK.out];exact xE hn
    clear hr3 HR
    cases o with
    | true=>
     have HE:Hid (kZ t st=((fun i=> !(f i)),true,adv s)):=by unfold Hid;rw[HP.out,hS];rfl
     clear hS;go_wp2_with (first | (refine wpList_load_mid rfl 158 (.tmp 5) rfl B2 0 rfl (aV f) _ HF4.out Tryz.underlying158 rfl (by rw[aS];exact Tryz.bytesSize) ?_) | fail);refine(Jf f _).mono ?_;rintro e w9 ⟨rfl,hb9⟩;have HR9:=aE ((HR4.out.below hb9).raise);have HG9:=aE (aH HG4.out (bU hb9 (aO _) (some rb)));have HZ9:=aE (lP HZ4.out hb9 (by omega));clear hb9 HR4 HG4 HZ4 HF4 HT4;go_wp2_with (first | (refine wpList_store_mid rfl 158 (.tmp 2) (.tmp 32) rfl w.heap.size 0 (aV fun i=> !(f i)).toArray rfl rfl (by rw[bH];exact HZ9.out) (by rw[bH];exact Tryz.bytesSize) (all_oneCell_toArray (fH _)) ?_));refine cJ Tryz.results137 w.heap.size 0 (aV fun i=> !(f i)) _ (.bool true) rfl rfl ?_ Tryz.underlying158 rfl (by rw[aS];exact Tryz.bytesSize) rfl ?_
     ·exact aL _ _ _ _ (by rw[aS];exact HZ9.out)
     ·rw[HE.out];exact⟨rfl,fA h HR9.out.raise HG9.out _ _ _ (aO _)⟩
    | false=>
     have HE:Hid (kZ t st=(f,true,adv s)):=by unfold Hid;rw[HP.out,hS];rfl
     clear hS;go_wp2_with (first | (refine wpList_load_mid rfl 158 (.tmp 5) rfl B2 0 rfl (aV f) _ HF4.out Tryz.underlying158 rfl (by rw[aS];exact Tryz.bytesSize) ?_) | (refine wpList_store_mid rfl 158 (.tmp 2) (.tmp 33) rfl w.heap.size 0 (aV f).toArray rfl rfl (by rw[bH];exact HZ4.out) (by rw[bH];exact Tryz.bytesSize) (all_oneCell_toArray (fH _)) ?_));refine cJ Tryz.results137 w.heap.size 0 (aV f) _ (.bool true) rfl rfl ?_ Tryz.underlying158 rfl (by rw[aS];exact Tryz.bytesSize) rfl ?_
     ·exact aL _ _ _ _ (by rw[aS];exact HZ4.out)
     ·rw[HE.out];exact⟨rfl,fA h HR4.out.raise HG4.out _ _ _ (aO _)⟩
   | false=>
    rw[fO hn]at hr3;have hS:lK t st1=gE t g' (aZ t f s).1 (aZ t f s).2.1 (aZ t f s).2.2:=by rw[HL.out,HGK.out];exact xO hn
    have hc5:=I0 t f s rb base vr vn vp w3 ht has hr3;have hm5:=sE (f:=f) has;have ha5:= @Ar t f s;generalize aZ t f s=M at*;obtain⟨f5,ok5,s5⟩:=M;simp only at hc5 hm5 ha5;have HS:=aE hS;clear hS;go_wp2_with (first | (refine wpList_load_mid rfl 158 (.tmp 5) rfl B2 0 rfl (aV f) _ HF4.out Tryz.underlying158 rfl (by rw[aS];exact Tryz.bytesSize) ?_) | fail);refine hc5.mono ?_;rintro e w5 ⟨rfl,hg5,hr5⟩;have HG5:=aE (aH HG4.out hg5);have HT5:=aE (aQ HT4.out (hg5.block B2 hsz4 (by intro e;injection e;omega)));have HZ5:=aE (aQ HZ4.out (hg5.block w.heap.size (by omega) (by intro e;injection e;omega)));have hsz5:B2<w5.heap.size:=by have:=hg5.size;omega
    have HR5:=aE hr5;have HA5:=aE ha5;clear hg5 hr5 HG4 HF4 HT4 HZ4 hsz4 hr3 hc5 HR ha5;go_wp2_with (first | (refine wpList_store_mid rfl 158 (.tmp 5) (.tmp 25) rfl B2 0 (aV f5).toArray rfl rfl (by rw[bH];exact HT5.out) (by rw[bH];exact Tryz.bytesSize) (all_oneCell_toArray (fH _)) ?_));go_roundg g'
    case measure=>have:=HGK.out;omega
    case rel=>
     have hbs:=aD (aV f5) 0 w5 B2 (bD w.heap.size _) (by omega);refine⟨f5,ok5,s5,rfl,hm5.2,fun hok=> ?_,HS.out,(h.retop HR5.out (by omega)).below hbs, ?_, ?_, ?_,iU HG5.out B2 0 (aV f5) (by omega), ?_⟩
     ·have a1:=HA5.out hok;have a2:=HFU.out;have a3:=HGK.out;omega
     ·exact aL _ _ _ _ (by rw[aS];exact HT5.out)
     ·exact aT HT5.out _ _ _
     ·exact aT HZ5.out _ _ _
     ·have:=hbs.size;omega
end Go.Proofs.YtgjgjgihceijnaaGreat
namespace Go.Proofs.YtgjgjgihceijnaaGreat
open Go.RowKit Go.Stn
theorem I6:dM.size<=100:=by decide
theorem Ci (t:ByteArray)(st:PSt)(rb base:Nat)(vr vn vp:Value)(w:World)(ht:t.size<=120)(hat:st.at_<=t.size)(h:Rd w rb base w.heap.size t st vr vn vp):
  Calls Tryz.prog 136 #[.pointer (some ⟨rb,0,none⟩)] w fun e w'=>
   e= .returned (.tuple #[.agg (aV (bA t st).1).toArray,.bool (bA t st).2.1])/\M4 w rb base t vr vn vp (bA t st).2.2 w':=by
 have hrb:rb<w.heap.size:=by have:=h.hb;have:=h.hbt;omega
 have HR0:=aE (h.below ((bD _ _).alloc (aO _) (.cells Tryz.zeroCells158 158))).raise;have HZ0:=aE (bI w Tryz.zeroCells158 158 _ 256 Tryz.bytesZero rfl);have HG0:Hid (w.grownBy (w.alloc (.cells Tryz.zeroCells158 158)) (some rb)):=dG (World.grownBy.refl _ _) _;have hsz0:(w.alloc (.cells Tryz.zeroCells158 158)).heap.size=w.heap.size+1:=by simp
 go_enter Tryz.func136,Tryz.ntmps136;go_wp2_with fail;generalize w.alloc (.cells Tryz.zeroCells158 158)=W0 at*;refine(dV t st 91 rb base vr vn vp _ ht hat HR0.out).mono ?_;rintro e w1 ⟨rfl,hg1,hr1⟩;have HG1:=aE (aH HG0.out hg1);have HZ1:=aE (aQ HZ0.out (hg1.block w.heap.size (by omega) (by intro e;injection e;omega)));have hsz1:w.heap.size+1<=w1.heap.size:=by have:=hg1.size;omega
 clear HR0 HZ0 HG0 hsz0 hg1
 cases h1:aM t 91 st with
 | true=>
  rw[dU h1]at hr1;have hlt:=bV (by omega) h1;have HE:Hid (bA t st=kZ t (adv st)):=by unfold Hid bA;rw[if_pos h1]
  have hc2:=Vl t (adv st) rb base vr vn vp w1 ht (oL hlt) hr1;generalize kZ t (adv st)=M at*;obtain⟨f2,ok2,st2⟩:=M;simp only at hc2;go_wp2_with fail;refine hc2.mono ?_;rintro e w2 ⟨rfl,hg2,hr2⟩;have HG2:=aE (aH HG1.out hg2);have HZ2:=aE (aQ HZ1.out (hg2.block w.heap.size (by omega) (by intro e;injection e;omega)));have HR2:=aE hr2;clear HG1 HZ1 hr1 hg2 hr2 hc2;go_wp2_with (first | (refine wpList_store_mid rfl 158 (.tmp 2) (.tmp 10) rfl w.heap.size 0 (aV f2).toArray rfl rfl (by rw[bH];exact HZ2.out) (by rw[bH];exact Tryz.bytesSize) (all_oneCell_toArray (fH _)) ?_));refine cJ Tryz.results136 w.heap.size 0 (aV f2) _ (.bool ok2) rfl rfl ?_ Tryz.underlying158 rfl (by rw[aS];exact Tryz.bytesSize) rfl ?_
  ·exact aL _ _ _ _ (by rw[aS];exact HZ2.out)
  ·rw[HE.out];exact⟨rfl,fA h HR2.out.raise HG2.out _ _ _ (aO _)⟩
 | false=>
  have n1:¬(aM t 91 st=true):=by rw[h1];decide
  rw[fO h1]at hr1;go_wp2_with fail;refine(dV t st 46 rb base vr vn vp _ ht hat hr1).mono ?_;rintro e w2 ⟨rfl,hg2,hr2⟩;have HG2:=aE (aH HG1.out hg2);have HZ2:=aE (aQ HZ1.out (hg2.block w.heap.size (by omega) (by intro e;injection e;omega)));have hsz2:w.heap.size+1<=w2.heap.size:=by have:=hg2.size;omega
  clear HG1 HZ1 hr1 hg2 hsz1
  cases h2:aM t 46 st with
  | true=>
   rw[dU h2]at hr2;have HR2:=aE hr2;have HE:Hid (bA t st=((fun i=> !(aP i)),true,adv st)):=by unfold Hid bA;rw[if_neg n1,if_pos h2]
   clear hr2 n1;go_wp2_with fail;rw[Tryz.bytesZeroA];refine(Jf aP _).mono ?_;rintro e w9 ⟨rfl,hb9⟩;have HR9:=aE ((HR2.out.below hb9).raise);have HG9:=aE (aH HG2.out (bU hb9 (aO _) (some rb)));have HZ9:=aE (lP HZ2.out hb9 (by omega));clear hb9 HR2 HG2 HZ2;go_wp2_with (first | (refine wpList_store_mid rfl 158 (.tmp 2) (.tmp 15) rfl w.heap.size 0 (aV fun i=> !(aP i)).toArray rfl rfl (by rw[bH];exact HZ9.out) (by rw[bH];exact Tryz.bytesSize) (all_oneCell_toArray (fH _)) ?_));refine cJ Tryz.results136 w.heap.size 0 (aV fun i=> !(aP i)) _ (.bool true) rfl rfl ?_ Tryz.underlying158 rfl (by rw[aS];exact Tryz.bytesSize) rfl ?_
   ·exact aL _ _ _ _ (by rw[aS];exact HZ9.out)
   ·rw[HE.out];exact⟨rfl,fA h HR9.out.raise HG9.out _ _ _ (aO _)⟩
  | false=>
   have n2:¬(aM t 46 st=true):=by rw[h2];decide
   rw[fO h2]at hr2;have hfit:=sB t dM st;have hc3:=vG t dM st rb base vr vn vp w2 ht I6 hat hr2;have HY:Hid ((aG t dM st).2.1=true->bA t st=(cK aP (aG t dM st).1 (aG t dM st).1,true,(aG t dM st).2.2)):=by
    intro hq;unfold bA;rw[if_neg n1,if_neg n2,if_pos hq]
   have HN:Hid ((aG t dM st).2.1=false->bA t st=(aP,false,(aG t dM st).2.2)):=by
    intro hq;unfold bA;rw[if_neg n1,if_neg n2,if_neg (by rw[hq];decide)]
   generalize aG t dM st=M at*;obtain⟨b3,ok3,st3⟩:=M;simp only at hc3 hfit HY HN;clear n1 n2;go_wp2_with fail;refine hc3.mono ?_;rintro e w3 ⟨rfl,hg3,hr3⟩;have HG3:=aE (aH HG2.out hg3);have HZ3:=aE (aQ HZ2.out (hg3.block w.heap.size (by omega) (by intro e;injection e;omega)));have HR3:=aE hr3;have hsz3:w.heap.size+1<=w3.heap.size:=by have:=hg3.size;omega
   clear HG2 HZ2 hr2 hg3 hr3 hc3 hsz2
   cases ok3 with
   | false=>
    have HE:Hid (bA t st=(aP,false,st3)):=HN.out rfl;go_wp2_with (first | (refine wpList_store_mid rfl 158 (.tmp 2) (.tmp 23) rfl w.heap.size 0 Tryz.zeroCells158 rfl rfl (by rw[Tryz.bytesZero];exact HZ3.out) (by rw[Tryz.bytesZero];exact Tryz.bytesSize) Tryz.bytesZeroOne ?_));refine cJ Tryz.results136 w.heap.size 0 (aV aP) _ (.bool false) rfl rfl ?_ Tryz.underlying158 rfl (by rw[aS];exact Tryz.bytesSize) rfl ?_
    ·rw[Tryz.bytesZeroL2];exact aL _ _ _ _ (by rw[aS];exact HZ3.out)
    ·rw[HE.out];exact⟨rfl,fA h HR3.out.raise HG3.out _ _ _ (aO _)⟩
   | true=>
    have HE:Hid (bA t st=(cK aP b3 b3,true,st3)):=HY.out rfl;go_wp2_with fail;rw[Tryz.bytesZeroA];refine(E8 aP b3 b3 _).mono ?_;rintro e w9 ⟨rfl,hb9⟩;have HR9:=aE ((HR3.out.below hb9).raise);have HG9:=aE (aH HG3.out (bU hb9 (aO _) (some rb)));have HZ9:=aE (lP HZ3.out hb9 (by omega));clear hb9 HR3 HG3 HZ3;go_wp2_with (first | (refine wpList_store_mid rfl 158 (.tmp 2) (.tmp 27) rfl w.heap.size 0 (aV (cK aP b3 b3)).toArray rfl rfl (by rw[bH];exact HZ9.out) (by rw[bH];exact Tryz.bytesSize) (all_oneCell_toArray (fH _)) ?_));refine cJ Tryz.results136 w.heap.size 0 (aV (cK aP b3 b3)) _ (.bool true) rfl rfl ?_ Tryz.underlying158 rfl (by rw[aS];exact Tryz.bytesSize) rfl ?_
    ·exact aL _ _ _ _ (by rw[aS];exact HZ9.out)
    ·rw[HE.out];exact⟨rfl,fA h HR9.out.raise HG9.out _ _ _ (aO _)⟩
end Go.Proofs.YtgjgjgihceijnaaGreat
namespace Go.Stn
def dR (a b:PSt):Prop:=b.rules=a.rules/\b.nodes=a.nodes/\b.places=a.places
theorem dR.refl (a:PSt):dR a a:=⟨rfl,rfl,rfl⟩
theorem dR.adv (a:PSt):dR a (Go.Stn.adv a):=⟨rfl,rfl,rfl⟩
theorem dR.trans {a b c:PSt}(h:dR a b)(k:dR b c):dR a c:=⟨k.1.trans h.1,k.2.1.trans h.2.1,k.2.2.trans h.2.2⟩
theorem Nn (t:ByteArray)(st:PSt):dR st (nY t st).2.2:=by
 unfold nY;by_cases h1:aM t 110 st=true
 ·rw[if_pos h1];exact dR.adv st
 ·rw[if_neg h1];by_cases h2:aM t 115 st=true
  ·rw[if_pos h2];exact dR.adv st
  ·rw[if_neg h2];split
   ·exact dR.adv st
   ·exact dR.refl st
theorem sA (t sp:ByteArray)(st:PSt):dR st (aG t sp st).2.2:=by
 unfold aG;by_cases h1:aM t 92 st=true
 ·rw[if_pos h1];exact(dR.adv st).trans (Nn t _)
 ·rw[if_neg h1];split
  ·exact dR.adv st
  ·exact dR.refl st
theorem xF (t:ByteArray)(f:Nat->Bool)(st:PSt):dR st (aZ t f st).2.2:=by
 have h1:=sA t dN st;obtain⟨b1,ok1,s1,hS1⟩:∃b ok s,aG t dN st=(b,ok,s):=⟨_,_,_,rfl⟩
 rw[hS1]at h1
 cases ok1 with
 | false=>rw[nW hS1];exact h1
 | true=>
  cases hn:aM t 45 s1 with
  | false=>rw[nK hS1 hn];exact h1
  | true=>
   have h2:=sA t dN (adv s1);obtain⟨b2,ok2,s2,hS2⟩:∃b ok s,aG t dN (adv s1)=(b,ok,s):=⟨_,_,_,rfl⟩
   rw[hS2]at h2;have h3:=(h1.trans (dR.adv s1)).trans h2;by_cases hb:ok2=false\/b2<b1
   ·rw[kD hS1 hn hS2 hb];exact h3
   ·have ho:ok2=true:=by cases ok2<;> simp_all
    subst ho;rw[nU hS1 hn hS2 (by simp at hb;omega)];exact h3
theorem Y2 (t:ByteArray):∀(n:Nat) (f:Nat->Bool) (ok:Bool) (st:PSt),dR st (gE t n f ok st).2.2:=by
 intro n
 induction n with
 | zero=>intro f ok st;exact dR.refl st
 | succ e ih=>
  intro f ok st;rw[gE];split
  ·exact dR.refl st
  ·split
   ·exact dR.adv st
   ·exact(xF t f st).trans (ih _ _ _)
theorem T5 (t:ByteArray)(st:PSt):dR st (lK t st).2.2:=(xF t aP st).trans (Y2 t _ _ _ _)
theorem Mm (t:ByteArray)(st:PSt):dR st (kZ t st).2.2:=by
 unfold kZ;by_cases h1:aM t 94 st=true
 ·rw[if_pos h1];have:=(dR.adv st).trans (T5 t (adv st));split<;> exact this
 ·rw[if_neg h1];have:=T5 t st;split<;> exact this
theorem qY (t:ByteArray)(st:PSt):dR st (bA t st).2.2:=by
 unfold bA;by_cases h1:aM t 91 st=true
 ·rw[if_pos h1];exact(dR.adv st).trans (Mm t _)
 ·rw[if_neg h1];by_cases h2:aM t 46 st=true
  ·rw[if_pos h2];exact dR.adv st
  ·rw[if_neg h2];have:=sA t dM st;split<;> exact this
end Go.Stn
namespace Go.Stn
def lE (x:Int×Int×Int)(st:PSt):PSt:= {st with nodes:=st.nodes++ [x]}
def Rs (f:Nat->Bool)(st:PSt):PSt:= {st with places:=st.places++ [f]}
def kQ (t:ByteArray)(st:PSt):Int×Bool×PSt:=
 if(bA t st).2.1=true then(((bA t st).2.2.nodes.length:Int),true,lE (0,((bA t st).2.2.places.length:Int),0) (Rs (bA t st).1 (bA t st).2.2))
 else(0,false,(bA t st).2.2)
def gD (t:ByteArray)(st:PSt):Bool:=
 decide (aJ t st.at_=40\/aJ t st.at_=91\/aJ t st.at_=46\/aJ t st.at_=92) || dY (aJ t st.at_) dM
def cX (t:ByteArray)(ex:PSt->Int×Bool×PSt)(st:PSt):Int×Bool×PSt:=
 if aM t 40 st=true then
  (if(ex (adv st)).2.1=true/\aM t 41 (ex (adv st)).2.2=true then((ex (adv st)).1,true,adv (ex (adv st)).2.2)else(0,false,(ex (adv st)).2.2))
 else kQ t st
def fN (p:Int):Int:=if p=63 then 3 else if p=43 then 4 else if p=42 then 5 else 0
def cE (t:ByteArray)(ex:PSt->Int×Bool×PSt)(st:PSt):Int×Bool×PSt:=
 if(cX t ex st).2.1=true then
  (if fN (aJ t (cX t ex st).2.2.at_)=0 then((cX t ex st).1,true,(cX t ex st).2.2)
   else(((cX t ex st).2.2.nodes.length:Int),true,lE (fN (aJ t (cX t ex st).2.2.at_),(cX t ex st).1,0) (adv (cX t ex st).2.2)))
 else(0,false,(cX t ex st).2.2)
def gX (t:ByteArray)(ex:PSt->Int×Bool×PSt):Nat->Int->Bool->PSt->Int×Bool×PSt
 | 0,whole,_,st=>(whole,false,st)
 | n+1,whole,ok,st=>
  if ok=false then(whole,false,st)
  else if gD t st=false then(whole,true,st)
  else gX t ex n ((cE t ex st).2.2.nodes.length:Int) (cE t ex st).2.1 (lE (1,whole,(cE t ex st).1) (cE t ex st).2.2)
def fR (t:ByteArray)(ex:PSt->Int×Bool×PSt)(st:PSt):Int×Bool×PSt:=
 gX t ex (t.size+1) (cE t ex st).1 (cE t ex st).2.1 (cE t ex st).2.2
def dI (t:ByteArray)(ex:PSt->Int×Bool×PSt):Nat->Int->Bool->PSt->Int×Bool×PSt
 | 0,whole,_,st=>(whole,false,st)
 | n+1,whole,ok,st=>
  if ok=false then(whole,false,st)
  else if aM t 124 st=false then(whole,true,st)
  else dI t ex n ((fR t ex (adv st)).2.2.nodes.length:Int) (fR t ex (adv st)).2.1 (lE (2,whole,(fR t ex (adv st)).1) (fR t ex (adv st)).2.2)
def eQ (t:ByteArray):Nat->PSt->Int×Bool×PSt
 | 0,st=>(0,false,st)
 | f+1,st=>dI t (eQ t f) (t.size+1) (fR t (eQ t f) st).1 (fR t (eQ t f) st).2.1 (fR t (eQ t f) st).2.2
def Gr (t:ByteArray)(a b:PSt):Prop:=a.at_<=b.at_/\b.at_<=t.size/\b.nodes.length+3*a.at_<=a.nodes.length+3*b.at_/\b.places.length+a.at_<=a.places.length+b.at_
def GrS (t:ByteArray)(a b:PSt):Prop:=(b.nodes.length+1+3*a.at_<=a.nodes.length+3*b.at_/\a.at_<b.at_/\b.at_<=t.size/\b.places.length+a.at_<=a.places.length+b.at_)\/
 (b.nodes.length=a.nodes.length/\b.at_=a.at_/\b.places.length=a.places.length/\b.at_<=t.size)
theorem Gr.refl {t:ByteArray}{a:PSt}(h:a.at_<=t.size):Gr t a a:=⟨aO _,h,aO _,aO _⟩
theorem Gr.trans {t:ByteArray}{a b c:PSt}(h:Gr t a b)(k:Gr t b c):Gr t a c:=by
 obtain⟨h1,h2,h3,h4⟩:=h;obtain⟨k1,k2,k3,k4⟩:=k;exact⟨by omega,k2,by omega,by omega⟩
theorem GrS.gr {t:ByteArray}{a b:PSt}(h:GrS t a b):Gr t a b:=by
 rcases h with⟨h1,h2,h3,h4⟩ | ⟨h1,h2,h3,h4⟩
 ·exact⟨by omega,h3,by omega,h4⟩
 ·exact⟨by omega,h4,by omega,by omega⟩
theorem Fd {t:ByteArray}:∀(n:Nat) (f:Nat->Bool) (ok:Bool) (st:PSt),st.at_<=t.size->st.at_<=(gE t n f ok st).2.2.at_/\(gE t n f ok st).2.2.at_<=t.size:=by
 intro n
 induction n with
 | zero=>intro f ok st h;exact⟨aO _,h⟩
 | succ e ih=>
  intro f ok st h;rw[gE];split
  ·exact⟨aO _,h⟩
  ·split
   ·rename_i hn;have:=bV (by omega) hn;simp only[bF];omega
   ·have h1:=sE (f:=f) h;have h2:=ih (aZ t f st).1 (aZ t f st).2.1 (aZ t f st).2.2 h1.2;omega
theorem Ix {t:ByteArray}{st:PSt}(h:st.at_<=t.size):st.at_<=(lK t st).2.2.at_/\(lK t st).2.2.at_<=t.size:=by
 have h1:=sE (f:=aP) h;have h2:=Fd (t:=t) (t.size+1) (aZ t aP st).1 (aZ t aP st).2.1 (aZ t aP st).2.2 h1.2;unfold lK;omega
theorem Z3 {t:ByteArray}{st:PSt}(h:st.at_<=t.size):st.at_<=(kZ t st).2.2.at_/\(kZ t st).2.2.at_<=t.size:=by
 unfold kZ;by_cases h1:aM t 94 st=true
 ·rw[if_pos h1];have hl:=bV (by omega) h1;have:=Ix (t:=t) (st:=adv st) (by rw[bF];omega);rw[bF]at this;split<;> (simp only;omega)
 ·rw[if_neg h1];have:=Ix (t:=t) h;split<;> exact this
theorem Cf {t:ByteArray}{st:PSt}(h:st.at_<=t.size):st.at_<=(bA t st).2.2.at_/\(bA t st).2.2.at_<=t.size:=by
 unfold bA;by_cases h1:aM t 91 st=true
 ·rw[if_pos h1];have hl:=bV (by omega) h1;have:=Z3 (t:=t) (st:=adv st) (by rw[bF];omega);rw[bF]at this;omega
 ·rw[if_neg h1];by_cases h2:aM t 46 st=true
  ·rw[if_pos h2];have:=bV (by omega) h2;simp only[bF];omega
  ·rw[if_neg h2];have:=pJ (sp:=dM) h;split<;> exact this
theorem Z4 {t:ByteArray}{st:PSt}(hok:gD t st=true)(hn:aM t 40 st=false):st.at_<(bA t st).2.2.at_:=by
 unfold bA;by_cases h1:aM t 91 st=true
 ·rw[if_pos h1];have hl:=bV (by omega) h1;have:=Z3 (t:=t) (st:=adv st) (by rw[bF];omega);rw[bF]at this;omega
 ·rw[if_neg h1];by_cases h2:aM t 46 st=true
  ·rw[if_pos h2];simp only[bF];omega
  ·rw[if_neg h2];have h3:st.at_<(aG t dM st).2.2.at_:=by
    unfold aG;by_cases h4:aM t 92 st=true
    ·rw[if_pos h4];have hl:=bV (by omega) h4;have:=Jw (t:=t) (st:=adv st) (by rw[bF];omega);rw[bF]at this;omega
    ·rw[if_neg h4];have h5:dY (aJ t st.at_) dM=true:=by
      unfold gD at hok;rw[Bool.or_eq_true,decide_eq_true_eq]at hok;rcases hok with(e | e | e | e) | e
      ·unfold aM at hn;rw[decide_eq_false_iff_not]at hn;exact absurd e hn
      ·unfold aM at h1;rw[decide_eq_true_eq]at h1;exact absurd e h1
      ·unfold aM at h2;rw[decide_eq_true_eq]at h2;exact absurd e h2
      ·unfold aM at h4;rw[decide_eq_true_eq]at h4;exact absurd e h4
      ·exact e
     rw[if_pos h5];simp only[bF];omega
   split<;> exact h3
theorem Cd {t:ByteArray}{a b:PSt}(h:dR a b)(h1:a.at_<=b.at_)(h2:b.at_<=t.size):GrS t a b:=by
 have e1:b.nodes.length=a.nodes.length:=by rw[h.2.1]
 have e2:b.places.length=a.places.length:=by rw[h.2.2]
 by_cases e:a.at_=b.at_
 ·exact .inr ⟨e1,e.symm,e2,h2⟩
 ·exact .inl ⟨by omega,by omega,h2,by omega⟩
theorem O7 {t:ByteArray}{st:PSt}(hok:(bA t st).2.1=true):st.at_<(bA t st).2.2.at_:=by
 unfold bA at hok ⊢;by_cases h1:aM t 91 st=true
 ·rw[if_pos h1];have hl:=bV (by omega) h1;have:=Z3 (t:=t) (st:=adv st) (by rw[bF];omega);rw[bF]at this;omega
 ·rw[if_neg h1]at hok ⊢;by_cases h2:aM t 46 st=true
  ·rw[if_pos h2];simp only[bF];omega
  ·rw[if_neg h2]at hok ⊢;by_cases h3:(aG t dM st).2.1=true
   ·rw[if_pos h3];exact zY h3
   ·rw[if_neg h3]at hok;simp at hok
theorem Kk {t:ByteArray}{st:PSt}(h:st.at_<=t.size):GrS t st (kQ t st).2.2:=by
 have h1:=Cf h;have h2:=qY t st;have e1:(bA t st).2.2.nodes.length=st.nodes.length:=by rw[h2.2.1]
 have e2:(bA t st).2.2.places.length=st.places.length:=by rw[h2.2.2]
 unfold kQ;by_cases hok:(bA t st).2.1=true
 ·have h3:=O7 hok;rw[if_pos hok];left;refine⟨?_,h3,h1.2, ?_⟩
  ·simp only[lE,Rs,bC,aR];omega
  ·simp only[lE,Rs,bC,aR];omega
 ·rw[if_neg hok];exact Cd h2 h1.1 h1.2
def I5 (t:ByteArray)(ex:PSt->Int×Bool×PSt):Prop:=∀st,st.at_<=t.size->Gr t st (ex st).2.2
theorem V6 {t:ByteArray}{a b:PSt}(h:Gr t (adv a) b):GrS t a b:=by
 obtain⟨h1,h2,h3,h4⟩:=h;rw[bF]at h1 h3 h4;have e1:(adv a).nodes=a.nodes:=rfl;have e2:(adv a).places=a.places:=rfl;rw[e1]at h3;rw[e2]at h4;exact .inl ⟨by omega,by omega,h2,by omega⟩
theorem Cm {t:ByteArray}{ex:PSt->Int×Bool×PSt}(hx:I5 t ex){st:PSt}(h:st.at_<=t.size):GrS t st (cX t ex st).2.2:=by
 unfold cX;by_cases h1:aM t 40 st=true
 ·rw[if_pos h1];have hl:=bV (by omega) h1;have hg:=hx (adv st) (by rw[bF];omega);split
  ·rename_i hc;have hl2:=bV (by omega) hc.2;refine V6 (hg.trans ⟨by rw[bF];omega,by rw[bF];omega, ?_, ?_⟩)
   ·show(ex (adv st)).2.2.nodes.length+3*(ex (adv st)).2.2.at_<=(ex (adv st)).2.2.nodes.length+3*(adv (ex (adv st)).2.2).at_;rw[bF];omega
   ·show(ex (adv st)).2.2.places.length+(ex (adv st)).2.2.at_<=(ex (adv st)).2.2.places.length+(adv (ex (adv st)).2.2).at_;rw[bF];omega
  ·exact V6 hg
 ·rw[if_neg h1];exact Kk h
theorem Pd {t:ByteArray}{a:Nat}(h:fN (aJ t a)≠0):a<t.size:=by
 rcases Nat.lt_or_ge a t.size with h1 | h1
 ·exact h1
 ·rw[dA h1]at h;exact absurd rfl h
theorem uD {t:ByteArray}{ex:PSt->Int×Bool×PSt}(hx:I5 t ex){st:PSt}(h:st.at_<=t.size):GrS t st (cE t ex st).2.2:=by
 have hg:=Cm hx h;unfold cE;split
 ·split
  ·exact hg
  ·rename_i hm;have hl:=Pd hm;left;have e1:(lE (fN (aJ t (cX t ex st).2.2.at_),(cX t ex st).1,0) (adv (cX t ex st).2.2)).nodes.length=(cX t ex st).2.2.nodes.length+1:=by simp[lE,adv]
   have e2:(lE (fN (aJ t (cX t ex st).2.2.at_),(cX t ex st).1,0) (adv (cX t ex st).2.2)).places=(cX t ex st).2.2.places:=rfl;have e3:(lE (fN (aJ t (cX t ex st).2.2.at_),(cX t ex st).1,0) (adv (cX t ex st).2.2)).at_=(cX t ex st).2.2.at_+1:=rfl;simp only[e1,e2,e3];rcases hg with⟨g1,g2,g3,g4⟩ | ⟨g1,g2,g3,g4⟩
   ·exact⟨by omega,by omega,by omega,by omega⟩
   ·exact⟨by omega,by omega,by omega,by omega⟩
 ·exact hg
theorem J7 {t:ByteArray}{ex:PSt->Int×Bool×PSt}(hx:I5 t ex){st:PSt}(hp:gD t st=true):st.at_<(cE t ex st).2.2.at_:=by
 have ha:st.at_<(cX t ex st).2.2.at_:=by
  unfold cX;by_cases h1:aM t 40 st=true
  ·rw[if_pos h1];have hl:=bV (by omega) h1;have hg:=(hx (adv st) (by rw[bF];omega)).1;rw[bF]at hg;split
   ·simp only[bF];omega
   ·simp only;omega
  ·rw[if_neg h1];have h2:=Z4 hp (by simpa using h1);unfold kQ;split
   ·exact h2
   ·exact h2
 unfold cE;split
 ·split
  ·exact ha
  ·show st.at_<(cX t ex st).2.2.at_+1;omega
 ·exact ha
theorem Ga {t:ByteArray}{ex:PSt->Int×Bool×PSt}(hx:I5 t ex):∀(n:Nat) (whole:Int) (ok:Bool) (st:PSt),st.at_<=t.size->Gr t st (gX t ex n whole ok st).2.2:=by
 intro n
 induction n with
 | zero=>intro whole ok st h;exact Gr.refl h
 | succ e ih=>
  intro whole ok st h;rw[gX];split
  ·exact Gr.refl h
  ·split
   ·exact Gr.refl h
   ·rename_i hp;have hp:gD t st=true:=by simpa using hp
    have ha:=J7 hx hp;have hg:=uD hx h;have h1:Gr t st (lE (1,whole,(cE t ex st).1) (cE t ex st).2.2):=by
     rcases hg with⟨g1,g2,g3,g4⟩ | ⟨g1,g2,g3,g4⟩
     ·exact⟨by show st.at_<=(cE t ex st).2.2.at_;omega,g3,by simp only[lE,bC,aR];omega,g4⟩
     ·omega
    exact h1.trans (ih _ _ _ h1.2.1)
theorem wU {t:ByteArray}{ex:PSt->Int×Bool×PSt}(hx:I5 t ex){st:PSt}(h:st.at_<=t.size):Gr t st (fR t ex st).2.2:=by
 have hg:=(uD hx h).gr;exact hg.trans (Ga hx _ _ _ _ hg.2.1)
theorem By {t:ByteArray}{ex:PSt->Int×Bool×PSt}(hx:I5 t ex):∀(n:Nat) (whole:Int) (ok:Bool) (st:PSt),st.at_<=t.size->Gr t st (dI t ex n whole ok st).2.2:=by
 intro n
 induction n with
 | zero=>intro whole ok st h;exact Gr.refl h
 | succ e ih=>
  intro whole ok st h;rw[dI];split
  ·exact Gr.refl h
  ·split
   ·exact Gr.refl h
   ·rename_i hp;have hl:=bV (by omega) (show aM t 124 st=true by simpa using hp);have hg:=V6 (wU hx (st:=adv st) (by rw[bF];omega));have h1:Gr t st (lE (2,whole,(fR t ex (adv st)).1) (fR t ex (adv st)).2.2):=by
     have ha:=(wU hx (st:=adv st) (by rw[bF];omega)).1;rw[bF]at ha;rcases hg with⟨g1,g2,g3,g4⟩ | ⟨g1,g2,g3,g4⟩
     ·exact⟨by show st.at_<=(fR t ex (adv st)).2.2.at_;omega,g3,by simp only[lE,bC,aR];omega,g4⟩
     ·omega
    exact h1.trans (ih _ _ _ h1.2.1)
theorem K7 (t:ByteArray):∀f,I5 t (eQ t f):=by
 intro f
 induction f with
 | zero=>intro st h;exact Gr.refl h
 | succ e ih=>
  intro st h;have hg:=wU ih h;exact hg.trans (By ih _ _ _ _ hg.2.1)
theorem N8 (t:ByteArray)(ex:PSt->Int×Bool×PSt)(n:Nat)(whole:Int)(st:PSt):gX t ex n whole false st=(whole,false,st):=by cases n<;> rfl
theorem X5 {t:ByteArray}{ex:PSt->Int×Bool×PSt}{n:Nat}{whole:Int}{st:PSt}(h:gD t st=false):gX t ex (n+1) whole true st=(whole,true,st):=by
 rw[gX,if_neg (by decide),if_pos h]
theorem Y0 {t:ByteArray}{ex:PSt->Int×Bool×PSt}{n:Nat}{whole:Int}{st:PSt}(h:gD t st=true):
  gX t ex (n+1) whole true st=gX t ex n ((cE t ex st).2.2.nodes.length:Int) (cE t ex st).2.1 (lE (1,whole,(cE t ex st).1) (cE t ex st).2.2):=by
 rw[gX,if_neg (by decide),if_neg (by rw[h];decide)]
theorem G8 (t:ByteArray)(ex:PSt->Int×Bool×PSt)(n:Nat)(whole:Int)(st:PSt):dI t ex n whole false st=(whole,false,st):=by cases n<;> rfl
theorem M5 {t:ByteArray}{ex:PSt->Int×Bool×PSt}{n:Nat}{whole:Int}{st:PSt}(h:aM t 124 st=false):dI t ex (n+1) whole true st=(whole,true,st):=by
 rw[dI,if_neg (by decide),if_pos h]
theorem P1 {t:ByteArray}{ex:PSt->Int×Bool×PSt}{n:Nat}{whole:Int}{st:PSt}(h:aM t 124 st=true):
  dI t ex (n+1) whole true st=dI t ex n ((fR t ex (adv st)).2.2.nodes.length:Int) (fR t ex (adv st)).2.1 (lE (2,whole,(fR t ex (adv st)).1) (fR t ex (adv st)).2.2):=by
 rw[dI,if_neg (by decide),if_neg (by rw[h];decide)]
end Go.Stn
