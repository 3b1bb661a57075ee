/- Texts put together: RfSingle, RfMember, RfSet, RfAllowed. -/
import Derived.Test.YtgjgjgihceijnaaG04
import Derived.Deep.LoopGhost
namespace Go.Proofs.Ytgjgjgihceijnaa
open Go.RowKit Go.Stn
set_option maxRecDepth 100000 in
theorem single_any (t sp:ByteArray)(st:PSt)(rb base:Nat)(vr vn vp:Value)(w:World)(ht:t.size≤120)(hsp:sp.size≤100)(hat:st.at_≤t.size)(h:Rd w rb base w.heap.size t st vr vn vp):
  Calls Try.prog 152 #[.pointer (some ⟨rb,0,none⟩),.string sp] w fun e w'=>e= .returned (.tuple #[.int .i64 (singleP t sp st).1,.bool (singleP t sp st).2.1])∧RdTo w rb base t vr vn vp (singleP t sp st).2.2 w':=by
 cases h1:nextB t 92 st with
 | true=>
  have HE:Hid (singleP t sp st=escP t (adv st)):=by unfold Hid singleP;rw[if_pos h1]
  have hlt:=nextB_lt (by omega) h1
  go_enter Try.func152,Try.ntmps152
  go_wp2_with fail
  refine(skip_any t st 92 rb base vr vn vp _ ht hat h).mono ?_
  rintro e w1 ⟨rfl,hb1,hr1⟩
  rw[skipP_yes h1]at hr1
  rw[h1]
  go_wp2_with fail
  refine(esc_any t (adv st) rb base vr vn vp _ ht (adv_ok hlt) hr1).mono ?_
  rintro e w2 ⟨rfl,hb2,hr2⟩
  go_wp2
  go_ret2
  rw[HE.out]
  exact⟨rfl,grown_trans hb1 hb2,hr2⟩
 | false=>
  have n1:¬(nextB t 92 st=true):=by rw[h1];decide
  go_enter Try.func152,Try.ntmps152
  go_wp2_with fail
  refine(skip_any t st 92 rb base vr vn vp _ ht hat h).mono ?_
  rintro e w1 ⟨rfl,hb1,hr1⟩
  rw[skipP_no h1]at hr1
  rw[h1]
  have HB1:=hidK hb1
  clear h hb1
  go_wp2_with fail
  refine(peek_any t st rb base _ vr vn vp _ hr1).mono ?_
  rintro e w2 ⟨rfl,q,rfl⟩
  have HR2:=hidK (hr1.drewN q).raise
  have HB2:=hidK (grown_drewN HB1.out q)
  clear HB1 hr1
  generalize w1.drewN q=w2 at*
  have c1:=HR2.out.c1
  have f1:=HR2.out.fz 1
  cases hp:plainB (peekP t st.at_) sp with
  | true=>
   have HE:Hid (singleP t sp st=(peekP t st.at_,true,adv st)):=by unfold Hid singleP;rw[if_neg n1,if_pos hp]
   clear n1
   go_wp2_with (go_at_call 141;refine(plain_any _ _ _ hsp).mono ?_;rintro e w2 ⟨rfl,rfl⟩)
   go_ret2
   rw[HE.out]
   exact⟨rfl,grown_set HB2.out _ _,HR2.out.adv.raise⟩
  | false=>
   have HE:Hid (singleP t sp st=(0,false,st)):=by unfold Hid singleP;rw[if_neg n1,if_neg (by rw[hp];decide)]
   clear n1
   go_wp2_with (go_at_call 141;refine(plain_any _ _ _ hsp).mono ?_;rintro e w2 ⟨rfl,rfl⟩)
   go_ret2
   rw[HE.out]
   exact⟨rfl,HB2.out,HR2.out⟩
set_option maxRecDepth 100000 in
theorem letter_any (t:ByteArray)(st:PSt)(rb base:Nat)(vr vn vp:Value)(w:World)(ht:t.size≤120)(hat:st.at_≤t.size)(h:Rd w rb base w.heap.size t st vr vn vp):
  Calls Try.prog 129 #[.pointer (some ⟨rb,0,none⟩)] w fun e w'=>e= .returned (.tuple #[.int .i64 (letterP t st).1,.bool (letterP t st).2.1])∧RdTo w rb base t vr vn vp (letterP t st).2.2 w':=by
 have hpb:=peekP_bound t st.at_
 go_enter Try.func129,Try.ntmps129
 go_wp2_with fail
 refine(peek_any t st rb base _ vr vn vp _ h).mono ?_
 rintro e w2 ⟨rfl,q,rfl⟩
 have HR2:=hidK (h.drewN q).raise
 have HB2:Hid (w.grownBy (w.drewN q) (some rb)):=grown_drewN (World.grownBy.refl _ _) q
 clear h
 generalize w.drewN q=w2 at*
 have c1:=HR2.out.c1
 have f1:=HR2.out.fz 1
 by_cases h1:65≤peekP t st.at_
 ·by_cases h2:peekP t st.at_<69
  ·have HE:Hid (letterP t st=(peekP t st.at_ - 65,true,adv st)):=by unfold Hid letterP;rw[if_pos ⟨h1,h2⟩]
   go_wp2
   go_ret2
   rw[HE.out]
   exact⟨rfl,grown_set HB2.out _ _,HR2.out.adv.raise⟩
  ·have HE:Hid (letterP t st=(0,false,st)):=by unfold Hid letterP;rw[if_neg (by omega)]
   go_wp2
   go_ret2
   rw[HE.out]
   exact⟨rfl,HB2.out,HR2.out⟩
 ·have HE:Hid (letterP t st=(0,false,st)):=by unfold Hid letterP;rw[if_neg (by omega)]
  go_wp2
  go_ret2
  rw[HE.out]
  exact⟨rfl,HB2.out,HR2.out⟩
theorem letterP_bound (t:ByteArray)(st:PSt):0≤(letterP t st).1∧(letterP t st).1≤3:=by
 unfold letterP
 split
 ·simp only;omega
 ·simp
set_option maxRecDepth 100000 in
theorem behind_any (t:ByteArray)(st:PSt)(rb base:Nat)(vr vn vp:Value)(w:World)(ht:t.size≤120)(hat:st.at_≤t.size)(h:Rd w rb base w.heap.size t st vr vn vp):
  Calls Try.prog 116 #[.pointer (some ⟨rb,0,none⟩)] w fun e w'=>e= .returned (.tuple #[.int .i64 (behindP t st).1,.bool (behindP t st).2.1])∧RdTo w rb base t vr vn vp (behindP t st).2.2 w':=by
 cases h1:nextB t 46 st with
 | true=>
  have HE:Hid (behindP t st=(0,true,adv st)):=by unfold Hid behindP;rw[if_pos h1]
  go_enter Try.func116,Try.ntmps116
  go_wp2_with fail
  refine(skip_any t st 46 rb base vr vn vp _ ht hat h).mono ?_
  rintro e w1 ⟨rfl,hr⟩
  rw[skipP_yes h1]at hr
  rw[h1]
  go_wp2
  go_ret2
  rw[HE.out]
  exact⟨rfl,hr⟩
 | false=>
  have n1:¬(nextB t 46 st=true):=by rw[h1];decide
  go_enter Try.func116,Try.ntmps116
  go_wp2_with fail
  refine(skip_any t st 46 rb base vr vn vp _ ht hat h).mono ?_
  rintro e w1 ⟨rfl,hb1,hr1⟩
  rw[skipP_no h1]at hr1
  rw[h1]
  have HB1:=hidK hb1
  clear h hb1
  go_wp2_with fail
  refine(skip_any t st 45 rb base vr vn vp _ ht hat hr1).mono ?_
  rintro e w2 ⟨rfl,hb2,hr2⟩
  cases h2:nextB t 45 st with
  | true=>
   have HE:Hid (behindP t st=(1,true,adv st)):=by unfold Hid behindP;rw[if_neg n1,if_pos h2]
   rw[skipP_yes h2]at hr2
   have HR2:=hidK hr2
   have HB2:=hidK (grown_trans HB1.out hb2)
   clear hr2 hb2 hr1 HB1
   go_wp2
   go_ret2
   rw[HE.out]
   exact⟨rfl,HB2.out,HR2.out⟩
  | false=>
   have n2:¬(nextB t 45 st=true):=by rw[h2];decide
   rw[skipP_no h2]at hr2
   have HB2:=hidK (grown_trans HB1.out hb2)
   clear hb2 hr1 HB1
   have hlb:=letterP_bound t st
   go_wp2_with fail
   refine(letter_any t st rb base vr vn vp _ ht hat hr2).mono ?_
   rintro e w3 ⟨rfl,hb3,hr3⟩
   have HR3:=hidK hr3
   have HB3:=hidK (grown_trans HB2.out hb3)
   clear hr2 HB2 hr3 hb3
   cases hl:(letterP t st).2.1 with
   | true=>
    have HE:Hid (behindP t st=((letterP t st).1+2,true,(letterP t st).2.2)):=by unfold Hid behindP;rw[if_neg n1,if_neg n2,if_pos hl]
    clear n1 n2
    generalize letterP t st=L at*
    go_wp2
    go_ret2
    rw[HE.out]
    exact⟨rfl,HB3.out,HR3.out⟩
   | false=>
    have HE:Hid (behindP t st=(0,false,(letterP t st).2.2)):=by unfold Hid behindP;rw[if_neg n1,if_neg n2,if_neg (by rw[hl];decide)]
    clear n1 n2
    generalize letterP t st=L at*
    go_wp2
    go_ret2
    rw[HE.out]
    exact⟨rfl,HB3.out,HR3.out⟩
end Go.Proofs.Ytgjgjgihceijnaa

namespace Go.Proofs.Ytgjgjgihceijnaa
open Go.RowKit Go.Stn
theorem spIn_size:spIn.size≤100:=by decide
theorem singleP_fits (t sp:ByteArray)(st:PSt):0≤(singleP t sp st).1∧(singleP t sp st).1≤255:=by
 have hp:=peekP_bound t st.at_
 have hp2:=peekP_bound t (adv st).at_
 unfold singleP
 by_cases h1:nextB t 92 st=true
 ·rw[if_pos h1]
  unfold escP
  by_cases a1:nextB t 110 (adv st)=true
  ·rw[if_pos a1];simp
  ·rw[if_neg a1]
   by_cases a2:nextB t 115 (adv st)=true
   ·rw[if_pos a2];simp
   ·rw[if_neg a2]
    by_cases a3:visB (peekP t (adv st).at_)=true∧lodB (peekP t (adv st).at_)=false
    ·rw[if_pos a3]
     have:=a3.1
     unfold visB at this
     rw[decide_eq_true_eq]at this
     simp only;omega
    ·rw[if_neg a3];simp
 ·rw[if_neg h1]
  by_cases h2:plainB (peekP t st.at_) sp=true
  ·rw[if_pos h2]
   unfold plainB at h2
   rw[Bool.and_eq_true]at h2
   have:=h2.1
   unfold visB at this
   rw[decide_eq_true_eq]at this
   simp only;omega
  ·rw[if_neg h2];simp
theorem fin_store {w X:World}{rb base:Nat}{t:ByteArray}{st st':PSt}{vr vn vp:Value}(h:Rd w rb base w.heap.size t st vr vn vp)(hr:Rd X rb base X.heap.size t st' vr vn vp)(hg:w.grownBy X (some rb))(b o:Nat)(vs:List Value)(hb:w.heap.size≤b):
  RdTo w rb base t vr vn vp st' (X.setCells b o vs):=
 ⟨grown_setCells hg b o vs hb,((h.retop hr hg.size).below (below_setCells vs o X b (Below.refl _ _) hb)).raise⟩
theorem boxed (f:Nat→Bool)(t:ByteArray)(st:PSt)(rb base:Nat)(vr vn vp:Value)(w:World)(h:Rd w rb base w.heap.size t st vr vn vp):
  Hid (Rd ((w.alloc (.cells (bitL f).toArray 187)).alloc (.cells Try.zeroCells187 187)) rb base ((w.alloc (.cells (bitL f).toArray 187)).alloc (.cells Try.zeroCells187 187)).heap.size t st vr vn vp)∧
  Hid (((w.alloc (.cells (bitL f).toArray 187)).alloc (.cells Try.zeroCells187 187)).rangeAt w.heap.size 0 (bitL f))∧
  Hid (((w.alloc (.cells (bitL f).toArray 187)).alloc (.cells Try.zeroCells187 187)).there (w.heap.size+1) 0 256)∧
  Hid (w.grownBy ((w.alloc (.cells (bitL f).toArray 187)).alloc (.cells Try.zeroCells187 187)) (some rb))∧
  ((w.alloc (.cells (bitL f).toArray 187)).alloc (.cells Try.zeroCells187 187)).heap.size=w.heap.size+2:=by
 refine⟨?_,World.rangeAt_alloc (rangeAt_newL w (bitL f) 187) _,there_newA _ Try.zeroCells187 187 _ 256 Try.bytesZero (by simp),grown_alloc2 (grown_alloc2 (World.grownBy.refl _ _) _) _,by simp⟩
 exact(h.below (((Below.refl _ _).alloc (Nat.le_refl _) _).alloc (by simp) _)).raise
set_option maxRecDepth 100000 in
set_option maxHeartbeats 1000000 in
theorem member_any (t:ByteArray)(f:Nat→Bool)(st:PSt)(rb base:Nat)(vr vn vp:Value)(w:World)(ht:t.size≤120)(hat:st.at_≤t.size)(h:Rd w rb base w.heap.size t st vr vn vp):
  Calls Try.prog 154 #[.pointer (some ⟨rb,0,none⟩),.agg (bitL f).toArray] w fun e w'=>
   e= .returned (.tuple #[.agg (bitL (memberP t f st).1).toArray,.bool (memberP t f st).2.1])∧RdTo w rb base t vr vn vp (memberP t f st).2.2 w':=by
 obtain⟨HR0,HF0,HZ0,HG0,hsz0⟩:=boxed f t st rb base vr vn vp w h
 have hrb:rb<w.heap.size:=by have:=h.hb;have:=h.hbt;omega
 go_enter Try.func154,Try.ntmps154
 go_wp2_with fail
 generalize (w.alloc (.cells (bitL f).toArray 187)).alloc (.cells Try.zeroCells187 187)=W0 at*
 obtain⟨b1,ok1,st1,hS1⟩:∃b ok s,singleP t spIn st=(b,ok,s):=⟨_,_,_,rfl⟩
 have hfit1:=singleP_fits t spIn st
 have hat1:=(singleP_at (t:=t) (sp:=spIn) hat).2
 have hc1:=single_any t spIn st rb base vr vn vp W0 ht spIn_size hat HR0.out
 rw[hS1]at hc1 hfit1 hat1
 have HS1:=hidK hS1
 clear hS1
 simp only at hc1 hfit1 hat1
 refine hc1.mono ?_
 rintro e w1 ⟨rfl,hg1,hr1⟩
 have HR1:=hidK hr1
 have HG1:=hidK (grown_trans HG0.out hg1)
 have HF1:=hidK (rangeAt_block HF0.out (hg1.block w.heap.size (by omega) (by intro e;injection e;omega)))
 have HZ1:=hidK (there_block HZ0.out (hg1.block (w.heap.size+1) (by omega) (by intro e;injection e;omega)))
 have hsz1:w.heap.size+2≤w1.heap.size:=by have:=hg1.size;omega
 clear hr1 hg1 HR0 HF0 HZ0 HG0 hsz0 hc1
 cases ok1 with
 | false=>
  have HE:Hid (memberP t f st=(f,false,st1)):=memberP_no1 HS1.out
  go_wp2_with (first | (refine wpList_load_mid rfl 187 (.tmp 3) rfl w.heap.size 0 rfl (bitL f) _ HF1.out Try.underlying187 rfl (by rw[bitL_len];exact Try.bytesSize) ?_) | (refine wpList_store_mid rfl 187 (.tmp 4) (.tmp 16) rfl (w.heap.size+1) 0 (bitL f).toArray rfl rfl (by rw[bitL_size];exact HZ1.out) (by rw[bitL_size];exact Try.bytesSize) (all_oneCell_toArray (bitL_one _)) ?_))
  refine ret_cell2 Try.results154 (w.heap.size+1) 0 (bitL f) _ (.bool false) rfl rfl ?_ Try.underlying187 rfl (by rw[bitL_len];exact Try.bytesSize) rfl ?_
  ·exact World.rangeAt_setCells_same _ _ _ _ (by rw[bitL_len];exact HZ1.out)
  ·rw[HE.out]
   exact⟨rfl,fin_store h HR1.out HG1.out _ _ _ (by omega)⟩
 | true=>
  go_wp2_with fail
  refine(skip_any t st1 45 rb base vr vn vp _ ht hat1 HR1.out).mono ?_
  rintro e w2 ⟨rfl,hg2,hr2⟩
  have HG2:=hidK (grown_trans HG1.out hg2)
  have HF2:=hidK (rangeAt_block HF1.out (hg2.block w.heap.size (by omega) (by intro e;injection e;omega)))
  have HZ2:=hidK (there_block HZ1.out (hg2.block (w.heap.size+1) (by omega) (by intro e;injection e;omega)))
  have hsz2:w.heap.size+2≤w2.heap.size:=by have:=hg2.size;omega
  clear HR1 HG1 HF1 HZ1 hg2 hsz1
  cases hn:nextB t 45 st1 with
  | false=>
   rw[skipP_no hn]at hr2
   have HR2:=hidK hr2
   clear hr2
   have HE:Hid (memberP t f st=(withB f b1 b1,true,st1)):=memberP_one HS1.out hn
   go_wp2_with (first | (refine wpList_load_mid rfl 187 (.tmp 3) rfl w.heap.size 0 rfl (bitL f) _ HF2.out Try.underlying187 rfl (by rw[bitL_len];exact Try.bytesSize) ?_) | fail)
   refine(with_any f b1 b1 _).mono ?_
   rintro e w9 ⟨rfl,hb9⟩
   have HR9:=hidK (((HR2.out).below (hb9.mono (Nat.le_refl _))).raise)
   have HG9:=hidK (grown_trans HG2.out (grown_of_below hb9 (Nat.le_refl _) (some rb)))
   have HZ9:=hidK (there_below HZ2.out hb9 (by omega))
   have hsz9:=hb9.size
   clear hb9 HR2 HG2 HZ2 HF2
   go_wp2_with (first | (refine wpList_store_mid rfl 187 (.tmp 4) (.tmp 23) rfl (w.heap.size+1) 0 (bitL (withB f b1 b1)).toArray rfl rfl (by rw[bitL_size];exact HZ9.out) (by rw[bitL_size];exact Try.bytesSize) (all_oneCell_toArray (bitL_one _)) ?_))
   refine ret_cell2 Try.results154 (w.heap.size+1) 0 (bitL (withB f b1 b1)) _ (.bool true) rfl rfl ?_ Try.underlying187 rfl (by rw[bitL_len];exact Try.bytesSize) rfl ?_
   ·exact World.rangeAt_setCells_same _ _ _ _ (by rw[bitL_len];exact HZ9.out)
   ·rw[HE.out]
    exact⟨rfl,fin_store h HR9.out HG9.out _ _ _ (by omega)⟩
  | true=>
   rw[skipP_yes hn]at hr2
   have hlt:=nextB_lt (by omega) hn
   have hat2:(adv st1).at_≤t.size:=adv_ok hlt
   obtain⟨b2,ok2,st2,hS2⟩:∃b ok s,singleP t spIn (adv st1)=(b,ok,s):=⟨_,_,_,rfl⟩
   have hfit2:=singleP_fits t spIn (adv st1)
   have hc2:=single_any t spIn (adv st1) rb base vr vn vp w2 ht spIn_size hat2 hr2
   rw[hS2]at hc2 hfit2
   have HS2:=hidK hS2
   clear hS2
   simp only at hc2 hfit2
   go_wp2_with fail
   refine hc2.mono ?_
   rintro e w3 ⟨rfl,hg3,hr3⟩
   have HR3:=hidK hr3
   have HG3:=hidK (grown_trans HG2.out hg3)
   have HF3:=hidK (rangeAt_block HF2.out (hg3.block w.heap.size (by omega) (by intro e;injection e;omega)))
   have HZ3:=hidK (there_block HZ2.out (hg3.block (w.heap.size+1) (by omega) (by intro e;injection e;omega)))
   have hsz3:w.heap.size+2≤w3.heap.size:=by have:=hg3.size;omega
   clear hr3 hg3 hr2 HG2 HF2 HZ2 hsz2 hc2
   cases ok2 with
   | false=>
    have HE:Hid (memberP t f st=(f,false,st2)):=memberP_no2 HS1.out hn HS2.out (.inl rfl)
    go_wp2_with (first | (refine wpList_load_mid rfl 187 (.tmp 3) rfl w.heap.size 0 rfl (bitL f) _ HF3.out Try.underlying187 rfl (by rw[bitL_len];exact Try.bytesSize) ?_) | (refine wpList_store_mid rfl 187 (.tmp 4) (.tmp 36) rfl (w.heap.size+1) 0 (bitL f).toArray rfl rfl (by rw[bitL_size];exact HZ3.out) (by rw[bitL_size];exact Try.bytesSize) (all_oneCell_toArray (bitL_one _)) ?_))
    refine ret_cell2 Try.results154 (w.heap.size+1) 0 (bitL f) _ (.bool false) rfl rfl ?_ Try.underlying187 rfl (by rw[bitL_len];exact Try.bytesSize) rfl ?_
    ·exact World.rangeAt_setCells_same _ _ _ _ (by rw[bitL_len];exact HZ3.out)
    ·rw[HE.out]
     exact⟨rfl,fin_store h HR3.out HG3.out _ _ _ (by omega)⟩
   | true=>
    by_cases hlo:b2<b1
    ·have HE:Hid (memberP t f st=(f,false,st2)):=memberP_no2 HS1.out hn HS2.out (.inr hlo)
     go_wp2_with (first | (refine wpList_load_mid rfl 187 (.tmp 3) rfl w.heap.size 0 rfl (bitL f) _ HF3.out Try.underlying187 rfl (by rw[bitL_len];exact Try.bytesSize) ?_) | (refine wpList_store_mid rfl 187 (.tmp 4) (.tmp 36) rfl (w.heap.size+1) 0 (bitL f).toArray rfl rfl (by rw[bitL_size];exact HZ3.out) (by rw[bitL_size];exact Try.bytesSize) (all_oneCell_toArray (bitL_one _)) ?_))
     refine ret_cell2 Try.results154 (w.heap.size+1) 0 (bitL f) _ (.bool false) rfl rfl ?_ Try.underlying187 rfl (by rw[bitL_len];exact Try.bytesSize) rfl ?_
     ·exact World.rangeAt_setCells_same _ _ _ _ (by rw[bitL_len];exact HZ3.out)
     ·rw[HE.out]
      exact⟨rfl,fin_store h HR3.out HG3.out _ _ _ (by omega)⟩
    ·have HE:Hid (memberP t f st=(withB f b1 b2,true,st2)):=memberP_two HS1.out hn HS2.out hlo
     go_wp2_with (first | (refine wpList_load_mid rfl 187 (.tmp 3) rfl w.heap.size 0 rfl (bitL f) _ HF3.out Try.underlying187 rfl (by rw[bitL_len];exact Try.bytesSize) ?_) | fail)
     refine(with_any f b1 b2 _).mono ?_
     rintro e w9 ⟨rfl,hb9⟩
     have HR9:=hidK (((HR3.out).below (hb9.mono (Nat.le_refl _))).raise)
     have HG9:=hidK (grown_trans HG3.out (grown_of_below hb9 (Nat.le_refl _) (some rb)))
     have HZ9:=hidK (there_below HZ3.out hb9 (by omega))
     have hsz9:=hb9.size
     clear hb9 HR3 HG3 HZ3 HF3
     go_wp2_with (first | (refine wpList_store_mid rfl 187 (.tmp 4) (.tmp 40) rfl (w.heap.size+1) 0 (bitL (withB f b1 b2)).toArray rfl rfl (by rw[bitL_size];exact HZ9.out) (by rw[bitL_size];exact Try.bytesSize) (all_oneCell_toArray (bitL_one _)) ?_))
     refine ret_cell2 Try.results154 (w.heap.size+1) 0 (bitL (withB f b1 b2)) _ (.bool true) rfl rfl ?_ Try.underlying187 rfl (by rw[bitL_len];exact Try.bytesSize) rfl ?_
     ·exact World.rangeAt_setCells_same _ _ _ _ (by rw[bitL_len];exact HZ9.out)
     ·rw[HE.out]
      exact⟨rfl,fin_store h HR9.out HG9.out _ _ _ (by omega)⟩
end Go.Proofs.Ytgjgjgihceijnaa

namespace Go.Proofs.Ytgjgjgihceijnaa
open Go.RowKit Go.Stn
theorem Try.bytesZeroA:Try.zeroCells187=(bitL zeroF).toArray:=by kernel_rfl
theorem Try.bytesZeroL2:Try.zeroCells187.toList=bitL zeroF:=by rw[Try.bytesZeroA]
theorem Try.bytesZeroOne:Try.zeroCells187.all (·.oneCell')=true:=by kernel_rfl
set_option maxRecDepth 100000 in
set_option maxHeartbeats 1000000 in
theorem set_any (t:ByteArray)(st:PSt)(rb base:Nat)(vr vn vp:Value)(w:World)(ht:t.size≤120)(hat:st.at_≤t.size)(h:Rd w rb base w.heap.size t st vr vn vp):
  Calls Try.prog 150 #[.pointer (some ⟨rb,0,none⟩)] w fun e w'=>
   e= .returned (.tuple #[.agg (bitL (setP t st).1).toArray,.bool (setP t st).2.1])∧RdTo w rb base t vr vn vp (setP t st).2.2 w':=by
 have hrb:rb<w.heap.size:=by have:=h.hb;have:=h.hbt;omega
 have HR0:=hidK (h.below ((Below.refl _ _).alloc (Nat.le_refl _) (.cells Try.zeroCells187 187))).raise
 have HZ0:=hidK (there_newA w Try.zeroCells187 187 _ 256 Try.bytesZero rfl)
 have HG0:Hid (w.grownBy (w.alloc (.cells Try.zeroCells187 187)) (some rb)):=grown_alloc2 (World.grownBy.refl _ _) _
 have hsz0:(w.alloc (.cells Try.zeroCells187 187)).heap.size=w.heap.size+1:=by simp
 go_enter Try.func150,Try.ntmps150
 go_wp2_with fail
 generalize w.alloc (.cells Try.zeroCells187 187)=W0 at*
 refine(skip_any t st 94 rb base vr vn vp _ ht hat HR0.out).mono ?_
 rintro e w1 ⟨rfl,hg1,hr1⟩
 have HG1:=hidK (grown_trans HG0.out hg1)
 have HZ1:=hidK (there_block HZ0.out (hg1.block w.heap.size (by omega) (by intro e;injection e;omega)))
 have hsz1:w.heap.size+1≤w1.heap.size:=by have:=hg1.size;omega
 clear HR0 HZ0 HG0 hsz0 hg1
 obtain⟨st1,hst1⟩:∃s,skipP t 94 st=s:=⟨_,rfl⟩
 obtain⟨o,ho⟩:∃o,nextB t 94 st=o:=⟨_,rfl⟩
 have hat1:st1.at_≤t.size:=by
  rw[←hst1]
  unfold skipP
  split
  ·rename_i hq;exact nextB_lt (by omega) hq
  ·exact hat
 have HP:Hid (setP t st=if o=true then(if(setR t st1).2.1=true then((fun i=> !((setR t st1).1 i)),true,(setR t st1).2.2)else(zeroF,false,(setR t st1).2.2))else(if(setR t st1).2.1=true then((setR t st1).1,true,(setR t st1).2.2)else(zeroF,false,(setR t st1).2.2))):=by
  unfold Hid setP
  rw[←hst1,←ho]
  by_cases hq:nextB t 94 st=true
  ·rw[skipP_yes hq,if_pos hq,if_pos hq]
  ·rw[skipP_no (by simpa using hq),if_neg hq,if_neg hq]
 rw[hst1]at hr1
 rw[ho]
 clear hst1 ho
 have hc2:=member_any t zeroF st1 rb base vr vn vp w1 ht hat1 hr1
 have hm:=memberP_at (f:=zeroF) hat1
 have HRR:Hid (setR t st1=setLoop t (t.size+1) (memberP t zeroF st1).1 (memberP t zeroF st1).2.1 (memberP t zeroF st1).2.2):=rfl
 generalize memberP t zeroF st1=M at*
 obtain⟨f2,ok2,st2⟩:=M
 simp only at hc2 hm
 go_wp2_with fail
 rw[Try.bytesZeroA]
 refine hc2.mono ?_
 rintro e w2 ⟨rfl,hg2,hr2⟩
 have HG2:=hidK (grown_trans HG1.out hg2)
 have HZ2:=hidK (there_block HZ1.out (hg2.block w.heap.size (by omega) (by intro e;injection e;omega)))
 have hsz2:w.heap.size+1≤w2.heap.size:=by have:=hg2.size;omega
 have HN2:=hidK (there_newA w2 Try.zeroCells187 187 _ 256 Try.bytesZero rfl)
 have HR2:=hidK hr2
 clear HG1 HZ1 hsz1 hg2 hr1 hr2 hc2
 go_wp2_with (first | (refine wpList_store_mid rfl 187 (.tmp 5) (.tmp 13) rfl w2.heap.size 0 (bitL f2).toArray rfl rfl (by rw[bitL_size];exact HN2.out) (by rw[bitL_size];exact Try.bytesSize) (all_oneCell_toArray (bitL_one _)) ?_))
 have HR3:=hidK (((h.retop HR2.out (by omega)).below ((Below.refl _ _).alloc (by omega) (.cells Try.zeroCells187 187))).below (below_setCells (bitL f2) 0 _ w2.heap.size (Below.refl w.heap.size _) (by omega)))
 have HG3:=hidK (grown_setCells (grown_alloc2 HG2.out (.cells Try.zeroCells187 187)) w2.heap.size 0 (bitL f2) (by omega))
 have HF3:=hidK (World.rangeAt_setCells_same (w2.alloc (.cells Try.zeroCells187 187)) w2.heap.size 0 (bitL f2) (by rw[bitL_len];exact HN2.out))
 have HT3:=hidK (World.there_setCells HN2.out w2.heap.size 0 (bitL f2))
 have HZ3:=hidK (World.there_setCells (World.there_alloc HZ2.out (.cells Try.zeroCells187 187)) w2.heap.size 0 (bitL f2))
 have hz3:w2.heap.size<((w2.alloc (.cells Try.zeroCells187 187)).setCells w2.heap.size 0 (bitL f2)).heap.size:=by
  have:=(below_setCells (bitL f2) 0 (w2.alloc (.cells Try.zeroCells187 187)) w2.heap.size (Below.refl 0 _) (Nat.zero_le _)).size
  simp at this;omega
 generalize hB2:w2.heap.size=B2 at*
 generalize (w2.alloc (.cells Try.zeroCells187 187)).setCells B2 0 (bitL f2)=X0 at*
 clear hB2 HR2 HG2 HZ2 HN2
 go_loopg [6] (t.size+1) (fun gk x wr=>∃(f:Nat→Bool) (ok:Bool) (s:PSt),x= .bool ok∧s.at_≤t.size∧(ok=true→t.size - s.at_<gk)∧setR t st1=setLoop t gk f ok s∧
  Rd wr rb base w.heap.size t s vr vn vp∧wr.rangeAt B2 0 (bitL f)∧wr.there B2 0 256∧wr.there w.heap.size 0 256∧w.grownBy wr (some rb)∧B2<wr.heap.size)
 case atStart=>exact⟨f2,ok2,st2,rfl,hm.2,fun _=>by omega,HRR.out,HR3.out,HF3.out,HT3.out,HZ3.out,HG3.out,hz3⟩
 case round=>
  obtain⟨f,ok,s,rfl,has,hfu,hlp,hr,hf,htt,hz,hg,hbz⟩:=hrel
  have HL:=hidK hlp
  have HR:=hidK hr
  have HF:=hidK hf
  have HT:=hidK htt
  have HZ:=hidK hz
  have HG:=hidK hg
  clear hlp hr hf htt hz hg HR3 HG3 HF3 HT3 HZ3
  cases ok with
  | false=>
   have hS:setR t st1=(f,false,s):=HL.out.trans (setLoop_false t gk f s)
   have HE:Hid (setP t st=(zeroF,false,s)):=by
    unfold Hid;rw[HP.out,hS];cases o<;> rfl
   clear hS
   go_wp2_with (first | (refine wpList_store_mid rfl 187 (.tmp 2) (.tmp 29) rfl w.heap.size 0 Try.zeroCells187 rfl rfl (by rw[Try.bytesZero];exact HZ.out) (by rw[Try.bytesZero];exact Try.bytesSize) Try.bytesZeroOne ?_))
   refine ret_cell2 Try.results150 w.heap.size 0 (bitL zeroF) _ (.bool false) rfl rfl ?_ Try.underlying187 rfl (by rw[bitL_len];exact Try.bytesSize) rfl ?_
   ·rw[Try.bytesZeroL2];exact World.rangeAt_setCells_same _ _ _ _ (by rw[bitL_len];exact HZ.out)
   ·rw[HE.out]
    exact⟨rfl,fin_store h HR.out.raise HG.out _ _ _ (Nat.le_refl _)⟩
  | true=>
   have HFU:=hidK (hfu rfl)
   clear hfu
   obtain⟨g',hg'⟩:∃g',gk=g'+1:=⟨gk - 1,by have:=HFU.out;omega⟩
   have HGK:=hidK hg'
   clear hg'
   go_wp2_with fail
   refine(skip_any t s 93 rb base vr vn vp _ ht has HR.out.raise).mono ?_
   rintro e w3 ⟨rfl,hg3,hr3⟩
   have HG4:=hidK (grown_trans HG.out hg3)
   have HF4:=hidK (rangeAt_block HF.out (hg3.block B2 hbz (by intro e;injection e;omega)))
   have HT4:=hidK (there_block HT.out (hg3.block B2 hbz (by intro e;injection e;omega)))
   have HZ4:=hidK (there_block HZ.out (hg3.block w.heap.size (by omega) (by intro e;injection e;omega)))
   have hsz4:B2<w3.heap.size:=by have:=hg3.size;omega
   clear HG HF HT HZ hg3
   cases hn:nextB t 93 s with
   | true=>
    rw[skipP_yes hn]at hr3
    have HR4:=hidK hr3
    have hS:setR t st1=(f,true,adv s):=by rw[HL.out,HGK.out];exact setLoop_done hn
    clear hr3 HR
    cases o with
    | true=>
     have HE:Hid (setP t st=((fun i=> !(f i)),true,adv s)):=by unfold Hid;rw[HP.out,hS];rfl
     clear hS
     go_wp2_with (first | (refine wpList_load_mid rfl 187 (.tmp 5) rfl B2 0 rfl (bitL f) _ HF4.out Try.underlying187 rfl (by rw[bitL_len];exact Try.bytesSize) ?_) | fail)
     refine(not_any f _).mono ?_
     rintro e w9 ⟨rfl,hb9⟩
     have HR9:=hidK ((HR4.out.below hb9).raise)
     have HG9:=hidK (grown_trans HG4.out (grown_of_below hb9 (Nat.le_refl _) (some rb)))
     have HZ9:=hidK (there_below HZ4.out hb9 (by omega))
     clear hb9 HR4 HG4 HZ4 HF4 HT4
     go_wp2_with (first | (refine wpList_store_mid rfl 187 (.tmp 2) (.tmp 32) rfl w.heap.size 0 (bitL fun i=> !(f i)).toArray rfl rfl (by rw[bitL_size];exact HZ9.out) (by rw[bitL_size];exact Try.bytesSize) (all_oneCell_toArray (bitL_one _)) ?_))
     refine ret_cell2 Try.results150 w.heap.size 0 (bitL fun i=> !(f i)) _ (.bool true) rfl rfl ?_ Try.underlying187 rfl (by rw[bitL_len];exact Try.bytesSize) rfl ?_
     ·exact World.rangeAt_setCells_same _ _ _ _ (by rw[bitL_len];exact HZ9.out)
     ·rw[HE.out]
      exact⟨rfl,fin_store h HR9.out.raise HG9.out _ _ _ (Nat.le_refl _)⟩
    | false=>
     have HE:Hid (setP t st=(f,true,adv s)):=by unfold Hid;rw[HP.out,hS];rfl
     clear hS
     go_wp2_with (first | (refine wpList_load_mid rfl 187 (.tmp 5) rfl B2 0 rfl (bitL f) _ HF4.out Try.underlying187 rfl (by rw[bitL_len];exact Try.bytesSize) ?_) | (refine wpList_store_mid rfl 187 (.tmp 2) (.tmp 33) rfl w.heap.size 0 (bitL f).toArray rfl rfl (by rw[bitL_size];exact HZ4.out) (by rw[bitL_size];exact Try.bytesSize) (all_oneCell_toArray (bitL_one _)) ?_))
     refine ret_cell2 Try.results150 w.heap.size 0 (bitL f) _ (.bool true) rfl rfl ?_ Try.underlying187 rfl (by rw[bitL_len];exact Try.bytesSize) rfl ?_
     ·exact World.rangeAt_setCells_same _ _ _ _ (by rw[bitL_len];exact HZ4.out)
     ·rw[HE.out]
      exact⟨rfl,fin_store h HR4.out.raise HG4.out _ _ _ (Nat.le_refl _)⟩
   | false=>
    rw[skipP_no hn]at hr3
    have hS:setR t st1=setLoop t g' (memberP t f s).1 (memberP t f s).2.1 (memberP t f s).2.2:=by rw[HL.out,HGK.out];exact setLoop_more hn
    have hc5:=member_any t f s rb base vr vn vp w3 ht has hr3
    have hm5:=memberP_at (f:=f) has
    have ha5:= @memberP_adv t f s
    generalize memberP t f s=M at*
    obtain⟨f5,ok5,s5⟩:=M
    simp only at hc5 hm5 ha5
    have HS:=hidK hS
    clear hS
    go_wp2_with (first | (refine wpList_load_mid rfl 187 (.tmp 5) rfl B2 0 rfl (bitL f) _ HF4.out Try.underlying187 rfl (by rw[bitL_len];exact Try.bytesSize) ?_) | fail)
    refine hc5.mono ?_
    rintro e w5 ⟨rfl,hg5,hr5⟩
    have HG5:=hidK (grown_trans HG4.out hg5)
    have HT5:=hidK (there_block HT4.out (hg5.block B2 hsz4 (by intro e;injection e;omega)))
    have HZ5:=hidK (there_block HZ4.out (hg5.block w.heap.size (by omega) (by intro e;injection e;omega)))
    have hsz5:B2<w5.heap.size:=by have:=hg5.size;omega
    have HR5:=hidK hr5
    have HA5:=hidK ha5
    clear hg5 hr5 HG4 HF4 HT4 HZ4 hsz4 hr3 hc5 HR ha5
    go_wp2_with (first | (refine wpList_store_mid rfl 187 (.tmp 5) (.tmp 25) rfl B2 0 (bitL f5).toArray rfl rfl (by rw[bitL_size];exact HT5.out) (by rw[bitL_size];exact Try.bytesSize) (all_oneCell_toArray (bitL_one _)) ?_))
    go_roundg g'
    case measure=>have:=HGK.out;omega
    case rel=>
     have hbs:=below_setCells (bitL f5) 0 w5 B2 (Below.refl w.heap.size _) (by omega)
     refine⟨f5,ok5,s5,rfl,hm5.2,fun hok=> ?_,HS.out,(h.retop HR5.out (by omega)).below hbs, ?_, ?_, ?_,grown_setCells HG5.out B2 0 (bitL f5) (by omega), ?_⟩
     ·have a1:=HA5.out hok;have a2:=HFU.out;have a3:=HGK.out;omega
     ·exact World.rangeAt_setCells_same _ _ _ _ (by rw[bitL_len];exact HT5.out)
     ·exact World.there_setCells HT5.out _ _ _
     ·exact World.there_setCells HZ5.out _ _ _
     ·have:=hbs.size;omega
end Go.Proofs.Ytgjgjgihceijnaa

namespace Go.Proofs.Ytgjgjgihceijnaa
open Go.RowKit Go.Stn
theorem spOut_size:spOut.size≤100:=by decide
set_option maxRecDepth 100000 in
set_option maxHeartbeats 1000000 in
theorem allowed_any (t:ByteArray)(st:PSt)(rb base:Nat)(vr vn vp:Value)(w:World)(ht:t.size≤120)(hat:st.at_≤t.size)(h:Rd w rb base w.heap.size t st vr vn vp):
  Calls Try.prog 149 #[.pointer (some ⟨rb,0,none⟩)] w fun e w'=>
   e= .returned (.tuple #[.agg (bitL (allowedP t st).1).toArray,.bool (allowedP t st).2.1])∧RdTo w rb base t vr vn vp (allowedP t st).2.2 w':=by
 have hrb:rb<w.heap.size:=by have:=h.hb;have:=h.hbt;omega
 have HR0:=hidK (h.below ((Below.refl _ _).alloc (Nat.le_refl _) (.cells Try.zeroCells187 187))).raise
 have HZ0:=hidK (there_newA w Try.zeroCells187 187 _ 256 Try.bytesZero rfl)
 have HG0:Hid (w.grownBy (w.alloc (.cells Try.zeroCells187 187)) (some rb)):=grown_alloc2 (World.grownBy.refl _ _) _
 have hsz0:(w.alloc (.cells Try.zeroCells187 187)).heap.size=w.heap.size+1:=by simp
 go_enter Try.func149,Try.ntmps149
 go_wp2_with fail
 generalize w.alloc (.cells Try.zeroCells187 187)=W0 at*
 refine(skip_any t st 91 rb base vr vn vp _ ht hat HR0.out).mono ?_
 rintro e w1 ⟨rfl,hg1,hr1⟩
 have HG1:=hidK (grown_trans HG0.out hg1)
 have HZ1:=hidK (there_block HZ0.out (hg1.block w.heap.size (by omega) (by intro e;injection e;omega)))
 have hsz1:w.heap.size+1≤w1.heap.size:=by have:=hg1.size;omega
 clear HR0 HZ0 HG0 hsz0 hg1
 cases h1:nextB t 91 st with
 | true=>
  rw[skipP_yes h1]at hr1
  have hlt:=nextB_lt (by omega) h1
  have HE:Hid (allowedP t st=setP t (adv st)):=by unfold Hid allowedP;rw[if_pos h1]
  have hc2:=set_any t (adv st) rb base vr vn vp w1 ht (adv_ok hlt) hr1
  generalize setP t (adv st)=M at*
  obtain⟨f2,ok2,st2⟩:=M
  simp only at hc2
  go_wp2_with fail
  refine hc2.mono ?_
  rintro e w2 ⟨rfl,hg2,hr2⟩
  have HG2:=hidK (grown_trans HG1.out hg2)
  have HZ2:=hidK (there_block HZ1.out (hg2.block w.heap.size (by omega) (by intro e;injection e;omega)))
  have HR2:=hidK hr2
  clear HG1 HZ1 hr1 hg2 hr2 hc2
  go_wp2_with (first | (refine wpList_store_mid rfl 187 (.tmp 2) (.tmp 10) rfl w.heap.size 0 (bitL f2).toArray rfl rfl (by rw[bitL_size];exact HZ2.out) (by rw[bitL_size];exact Try.bytesSize) (all_oneCell_toArray (bitL_one _)) ?_))
  refine ret_cell2 Try.results149 w.heap.size 0 (bitL f2) _ (.bool ok2) rfl rfl ?_ Try.underlying187 rfl (by rw[bitL_len];exact Try.bytesSize) rfl ?_
  ·exact World.rangeAt_setCells_same _ _ _ _ (by rw[bitL_len];exact HZ2.out)
  ·rw[HE.out]
   exact⟨rfl,fin_store h HR2.out.raise HG2.out _ _ _ (Nat.le_refl _)⟩
 | false=>
  have n1:¬(nextB t 91 st=true):=by rw[h1];decide
  rw[skipP_no h1]at hr1
  go_wp2_with fail
  refine(skip_any t st 46 rb base vr vn vp _ ht hat hr1).mono ?_
  rintro e w2 ⟨rfl,hg2,hr2⟩
  have HG2:=hidK (grown_trans HG1.out hg2)
  have HZ2:=hidK (there_block HZ1.out (hg2.block w.heap.size (by omega) (by intro e;injection e;omega)))
  have hsz2:w.heap.size+1≤w2.heap.size:=by have:=hg2.size;omega
  clear HG1 HZ1 hr1 hg2 hsz1
  cases h2:nextB t 46 st with
  | true=>
   rw[skipP_yes h2]at hr2
   have HR2:=hidK hr2
   have HE:Hid (allowedP t st=((fun i=> !(zeroF i)),true,adv st)):=by unfold Hid allowedP;rw[if_neg n1,if_pos h2]
   clear hr2 n1
   go_wp2_with fail
   rw[Try.bytesZeroA]
   refine(not_any zeroF _).mono ?_
   rintro e w9 ⟨rfl,hb9⟩
   have HR9:=hidK ((HR2.out.below hb9).raise)
   have HG9:=hidK (grown_trans HG2.out (grown_of_below hb9 (Nat.le_refl _) (some rb)))
   have HZ9:=hidK (there_below HZ2.out hb9 (by omega))
   clear hb9 HR2 HG2 HZ2
   go_wp2_with (first | (refine wpList_store_mid rfl 187 (.tmp 2) (.tmp 15) rfl w.heap.size 0 (bitL fun i=> !(zeroF i)).toArray rfl rfl (by rw[bitL_size];exact HZ9.out) (by rw[bitL_size];exact Try.bytesSize) (all_oneCell_toArray (bitL_one _)) ?_))
   refine ret_cell2 Try.results149 w.heap.size 0 (bitL fun i=> !(zeroF i)) _ (.bool true) rfl rfl ?_ Try.underlying187 rfl (by rw[bitL_len];exact Try.bytesSize) rfl ?_
   ·exact World.rangeAt_setCells_same _ _ _ _ (by rw[bitL_len];exact HZ9.out)
   ·rw[HE.out]
    exact⟨rfl,fin_store h HR9.out.raise HG9.out _ _ _ (Nat.le_refl _)⟩
  | false=>
   have n2:¬(nextB t 46 st=true):=by rw[h2];decide
   rw[skipP_no h2]at hr2
   have hfit:=singleP_fits t spOut st
   have hc3:=single_any t spOut st rb base vr vn vp w2 ht spOut_size hat hr2
   have HY:Hid ((singleP t spOut st).2.1=true→allowedP t st=(withB zeroF (singleP t spOut st).1 (singleP t spOut st).1,true,(singleP t spOut st).2.2)):=by
    intro hq;unfold allowedP;rw[if_neg n1,if_neg n2,if_pos hq]
   have HN:Hid ((singleP t spOut st).2.1=false→allowedP t st=(zeroF,false,(singleP t spOut st).2.2)):=by
    intro hq;unfold allowedP;rw[if_neg n1,if_neg n2,if_neg (by rw[hq];decide)]
   generalize singleP t spOut st=M at*
   obtain⟨b3,ok3,st3⟩:=M
   simp only at hc3 hfit HY HN
   clear n1 n2
   go_wp2_with fail
   refine hc3.mono ?_
   rintro e w3 ⟨rfl,hg3,hr3⟩
   have HG3:=hidK (grown_trans HG2.out hg3)
   have HZ3:=hidK (there_block HZ2.out (hg3.block w.heap.size (by omega) (by intro e;injection e;omega)))
   have HR3:=hidK hr3
   have hsz3:w.heap.size+1≤w3.heap.size:=by have:=hg3.size;omega
   clear HG2 HZ2 hr2 hg3 hr3 hc3 hsz2
   cases ok3 with
   | false=>
    have HE:Hid (allowedP t st=(zeroF,false,st3)):=HN.out rfl
    go_wp2_with (first | (refine wpList_store_mid rfl 187 (.tmp 2) (.tmp 23) rfl w.heap.size 0 Try.zeroCells187 rfl rfl (by rw[Try.bytesZero];exact HZ3.out) (by rw[Try.bytesZero];exact Try.bytesSize) Try.bytesZeroOne ?_))
    refine ret_cell2 Try.results149 w.heap.size 0 (bitL zeroF) _ (.bool false) rfl rfl ?_ Try.underlying187 rfl (by rw[bitL_len];exact Try.bytesSize) rfl ?_
    ·rw[Try.bytesZeroL2];exact World.rangeAt_setCells_same _ _ _ _ (by rw[bitL_len];exact HZ3.out)
    ·rw[HE.out]
     exact⟨rfl,fin_store h HR3.out.raise HG3.out _ _ _ (Nat.le_refl _)⟩
   | true=>
    have HE:Hid (allowedP t st=(withB zeroF b3 b3,true,st3)):=HY.out rfl
    go_wp2_with fail
    rw[Try.bytesZeroA]
    refine(with_any zeroF b3 b3 _).mono ?_
    rintro e w9 ⟨rfl,hb9⟩
    have HR9:=hidK ((HR3.out.below hb9).raise)
    have HG9:=hidK (grown_trans HG3.out (grown_of_below hb9 (Nat.le_refl _) (some rb)))
    have HZ9:=hidK (there_below HZ3.out hb9 (by omega))
    clear hb9 HR3 HG3 HZ3
    go_wp2_with (first | (refine wpList_store_mid rfl 187 (.tmp 2) (.tmp 27) rfl w.heap.size 0 (bitL (withB zeroF b3 b3)).toArray rfl rfl (by rw[bitL_size];exact HZ9.out) (by rw[bitL_size];exact Try.bytesSize) (all_oneCell_toArray (bitL_one _)) ?_))
    refine ret_cell2 Try.results149 w.heap.size 0 (bitL (withB zeroF b3 b3)) _ (.bool true) rfl rfl ?_ Try.underlying187 rfl (by rw[bitL_len];exact Try.bytesSize) rfl ?_
    ·exact World.rangeAt_setCells_same _ _ _ _ (by rw[bitL_len];exact HZ9.out)
    ·rw[HE.out]
     exact⟨rfl,fin_store h HR9.out.raise HG9.out _ _ _ (Nat.le_refl _)⟩
end Go.Proofs.Ytgjgjgihceijnaa

