/- Texts put together: RfRule, RfRules, RfParse, PlSmall, PlFind. -/
import Derived.Test.YtgjgjgihceijnaaG07
import Derived.Deep.QuietTactic
import Derived.BigQuiet
namespace Go.Stn
def addR (x:(Nat→Bool)×Int×Int)(st:PSt):PSt:= {st with rules:=st.rules++ [x]}
def ruleEnd (t:ByteArray)(f:Nat→Bool)(root:Int)(st:PSt):Bool×PSt:=
 if(behindP t st).2.1=false then(false,(behindP t st).2.2)else(true,addR (f,(behindP t st).1,root) (behindP t st).2.2)
def ruleMid (t:ByteArray)(f:Nat→Bool)(st:PSt):Bool×PSt:=
 if(exprP t (t.size+1) st).2.1=false then(false,(exprP t (t.size+1) st).2.2)
 else if nextB t 32 (exprP t (t.size+1) st).2.2=false then(false,(exprP t (t.size+1) st).2.2)
 else ruleEnd t f (exprP t (t.size+1) st).1 (adv (exprP t (t.size+1) st).2.2)
def ruleP (t:ByteArray)(st:PSt):Bool×PSt:=
 if(rcondsP t st).2.1=false then(false,(rcondsP t st).2.2)
 else if nextB t 32 (rcondsP t st).2.2=false then(false,(rcondsP t st).2.2)
 else ruleMid t (rcondsP t st).1 (adv (rcondsP t st).2.2)
end Go.Stn
namespace Go.Proofs.Ytgjgjgihceijnaa
open Go.RowKit Go.Stn
theorem Few.same {a b:PSt}(h:Few a)(k:sameL a b)(hl:a.at_≤b.at_):Few b:=by
 obtain⟨h1,h2⟩:=h
 refine⟨?_, ?_⟩
 ·rw[k.2.1];omega
 ·rw[k.2.2];omega
theorem Four.stored {w:World}{b:Nat}{g:Nat→Bool}(h:Four w b g)(f:Nat→Bool):Four (w.setCells b 0 (fourL f)) b f:=by
 have hr:=World.rangeAt_setCells_same w b 0 (fourL f) h.there
 exact⟨hr 0 _ rfl,hr 1 _ rfl,hr 2 _ rfl,hr 3 _ rfl,fun i=>by rw[World.frozen?_setCells];exact h.z i⟩
theorem altLoop_rules {t:ByteArray}{ex:PSt→Int×Bool×PSt}(hp:∀s,(pieceP t ex s).2.2.rules=s.rules):∀(n:Nat) (whole:Int) (ok:Bool) (st:PSt),(altLoop t ex n whole ok st).2.2.rules=st.rules:=by
 intro n
 induction n with
 | zero=>intro whole ok st;rfl
 | succ e ih=>
  intro whole ok st
  rw[altLoop]
  split
  ·rfl
  ·split
   ·rfl
   ·rw[ih];exact hp st
theorem exprLoop_rules {t:ByteArray}{ex:PSt→Int×Bool×PSt}(hp:∀s,(altP t ex s).2.2.rules=s.rules):∀(n:Nat) (whole:Int) (ok:Bool) (st:PSt),(exprLoop t ex n whole ok st).2.2.rules=st.rules:=by
 intro n
 induction n with
 | zero=>intro whole ok st;rfl
 | succ e ih=>
  intro whole ok st
  rw[exprLoop]
  split
  ·rfl
  ·split
   ·rfl
   ·rw[ih];exact hp (adv st)
theorem exprP_rules (t:ByteArray):∀(f:Nat) (st:PSt),(exprP t f st).2.2.rules=st.rules:=by
 intro f
 induction f with
 | zero=>intro st;rfl
 | succ e ih=>
  have h1:∀s,(placeP t s).2.2.rules=s.rules:=by
   intro s
   have:=(allowedP_same t s).1
   unfold placeP
   split<;> exact this
  have h2:∀s,(atomP t (exprP t e) s).2.2.rules=s.rules:=by
   intro s
   unfold atomP
   split
   ·split
    ·exact ih (adv s)
    ·exact ih (adv s)
   ·exact h1 s
  have h3:∀s,(pieceP t (exprP t e) s).2.2.rules=s.rules:=by
   intro s
   unfold pieceP
   split
   ·split
    ·exact h2 s
    ·exact h2 s
   ·exact h2 s
  have h4:∀s,(altP t (exprP t e) s).2.2.rules=s.rules:=by
   intro s
   unfold altP
   rw[altLoop_rules h3];exact h3 s
  intro st
  rw[exprP,exprLoop_rules h4];exact h4 st
theorem Try.infoRule:(Try.prog.info? 151).map (fun i=>(i.zero,i.size,i.bytes))=some (some (.agg #[.bool false,.bool false,.bool false,.bool false,.int .i64 0,.int .i64 0]),6,24):=by kernel_rfl
theorem behindP_same (t:ByteArray)(st:PSt):sameL st (behindP t st).2.2:=by
 unfold behindP
 split
 ·exact sameL.adv st
 ·split
  ·exact sameL.adv st
  ·split
   ·exact letterP_same t st
   ·exact letterP_same t st
set_option maxRecDepth 100000 in
set_option maxHeartbeats 1600000 in
theorem rule_any (t:ByteArray)(st:PSt)(rb base:Nat)(vr vn vp:Value)(w:World)(ht:t.size≤120)(hat:st.at_≤t.size)(hfew:Few st)(hru:st.rules.length≤100000)(h:Rd w rb base w.heap.size t st vr vn vp):
  Calls Try.prog 88 #[.pointer (some ⟨rb,0,none⟩)] w fun e w'=>e= .returned (.bool (ruleP t st).1)∧RdOut w rb base t vr vn vp (ruleP t st).2 w':=by
 have hrb:rb<w.heap.size:=by have:=h.hb;have:=h.hbt;omega
 have HC:Hid (ruleP t st=if(rcondsP t st).2.1=false then(false,(rcondsP t st).2.2)
  else if nextB t 32 (rcondsP t st).2.2=false then(false,(rcondsP t st).2.2)
  else ruleMid t (rcondsP t st).1 (adv (rcondsP t st).2.2)):=rfl
 have hl:=rcondsP_at (t:=t) hat
 go_enter Try.func88,Try.ntmps88
 go_wp2_with fail
 refine(conds_any t st rb base vr vn vp _ ht hat h).mono ?_
 rintro e w1 ⟨rfl,hg1,hr1⟩
 generalize rcondsP t st=M at*
 obtain⟨f,ok1,st1⟩:=M
 simp only at HC hl hr1
 obtain⟨hsm,hl1,hl2⟩:=hl
 have hs1:=hg1.size
 have HW1:=hidK (hfew.same hsm hl1)
 have HU1:Hid (st1.rules.length≤100000):=by unfold Hid;rw[hsm.1];exact hru
 have HZ1:=hidK ((Four.new w1 _ rfl).stored f)
 have HB1:Hid (Below w1.heap.size w1 ((w1.alloc (.cells #[.bool false,.bool false,.bool false,.bool false] 149)).setCells w1.heap.size 0 (fourL f))):=below_setCells (fourL f) 0 _ w1.heap.size ((Below.refl _ _).alloc (Nat.le_refl _) _) (Nat.le_refl _)
 have HR1:=hidK (hr1.below HB1.out).raise
 have HF1:Hid (Fr w ((w1.alloc (.cells #[.bool false,.bool false,.bool false,.bool false] 149)).setCells w1.heap.size 0 (fourL f)) rb vr vn vp vr vn vp):=Fr.of_grown (grown_trans hg1 (grown_of_below HB1.out (Nat.le_refl _) (some rb)))
 have hz1:w1.heap.size<((w1.alloc (.cells #[.bool false,.bool false,.bool false,.bool false] 149)).setCells w1.heap.size 0 (fourL f)).heap.size:=by
  have:=(below_setCells (fourL f) 0 (w1.alloc (.cells #[.bool false,.bool false,.bool false,.bool false] 149)) w1.heap.size (Below.refl 0 _) (Nat.zero_le _)).size
  simp at this;omega
 have HNB:Hid (¬(w1.heap.size=rb∨vr.ownBlock=some w1.heap.size∨vn.ownBlock=some w1.heap.size∨vp.ownBlock=some w1.heap.size)):=by
  rintro(e | e | e | e)
  ·omega
  ·have:=h.lr _ e;omega
  ·have:=h.ln _ e;omega
  ·have:=h.lp _ e;omega
 clear hg1 hr1 HB1 hsm hfew hru h
 cases ok1 with
 | false=>
  have HE:Hid (ruleP t st=(false,st1)):=HC.out
  go_wp2_with (first | (refine wpList_store_four rfl 149 (.tmp 3) (.tmp 10) rfl w1.heap.size f zeroF rfl rfl (Four.new w1 _ rfl) Try.fourSize ?_))
  go_ret
  rw[HE.out]
  exact⟨rfl,_,_,_,HR1.out,HF1.out⟩
 | true=>
 go_wp2_with (first | (refine wpList_store_four rfl 149 (.tmp 3) (.tmp 10) rfl w1.heap.size f zeroF rfl rfl (Four.new w1 _ rfl) Try.fourSize ?_))
 generalize (w1.alloc (.cells #[.bool false,.bool false,.bool false,.bool false] 149)).setCells w1.heap.size 0 (fourL f)=X1 at*
 generalize w1.heap.size=B at*
 refine(skip_any t st1 32 rb base vr vn vp _ ht hl2 HR1.out).mono ?_
 rintro e w2 ⟨rfl,hg2,hr2⟩
 have HF2:=hidK (HF1.out.trans (Fr.of_grown hg2))
 have HZ2:=hidK (HZ1.out.block (hg2.block B (by omega) (by intro e;injection e;omega)))
 have hz2:B<w2.heap.size:=by have:=hg2.size;omega
 clear hg2 HR1 HF1 HZ1 hz1
 cases hn1:nextB t 32 st1 with
 | false=>
  have HE:Hid (ruleP t st=(false,st1)):=HC.out.trans (if_pos hn1)
  rw[skipP_no hn1]at hr2
  have HR2:=hidK hr2
  clear hr2
  go_wp2
  go_ret
  rw[HE.out]
  exact⟨rfl,_,_,_,HR2.out,HF2.out⟩
 | true=>
 have HM:Hid (ruleP t st=if(exprP t (t.size+1) (adv st1)).2.1=false then(false,(exprP t (t.size+1) (adv st1)).2.2)
  else if nextB t 32 (exprP t (t.size+1) (adv st1)).2.2=false then(false,(exprP t (t.size+1) (adv st1)).2.2)
  else ruleEnd t f (exprP t (t.size+1) (adv st1)).1 (adv (exprP t (t.size+1) (adv st1)).2.2)):=by
  have hne:¬nextB t 32 st1=false:=by rw[hn1];decide
  exact HC.out.trans (if_neg hne)
 have hlt:=nextB_lt (by omega) hn1
 rw[skipP_yes hn1]at hr2
 have hc3:=expr_any t ht (t.size+1) (adv st1) (by omega) rb base vr vn vp w2 (adv_ok hlt) HW1.out.adv hr2
 have hgr:=exprP_ok t (t.size+1) (adv st1) (adv_ok hlt)
 have HRU:Hid ((exprP t (t.size+1) (adv st1)).2.2.rules=st1.rules):=exprP_rules t (t.size+1) (adv st1)
 clear HC hn1
 generalize exprP t (t.size+1) (adv st1)=M at*
 obtain⟨n3,ok3,st3⟩:=M
 simp only at HM hgr HRU hc3
 have hat3:st3.at_≤t.size:=hgr.2.1
 have HW3:=hidK (HW1.out.adv.gr hgr)
 go_wp2_with fail
 refine hc3.mono ?_
 rintro e w3 ⟨rfl,vr3,vn3,vp3,hr3,hf3⟩
 have HF3:=hidK (HF2.out.trans hf3)
 have HZ3:=hidK (HZ2.out.block (hf3.block B hz2 HNB.out))
 have HNB3:=hidK (hf3.stay B hz2 HNB.out)
 have hz3:B<w3.heap.size:=by have:=hf3.size;omega
 have HU3:Hid (st3.rules.length≤100000):=by unfold Hid;rw[HRU.out];exact HU1.out
 clear hf3 hc3 hr2 HF2 HZ2 hz2 HU1 HRU hgr
 cases ok3 with
 | false=>
  have HE:Hid (ruleP t st=(false,st3)):=HM.out
  have HR3:=hidK hr3
  clear hr3
  go_wp2
  go_ret
  rw[HE.out]
  exact⟨rfl,_,_,_,HR3.out,HF3.out⟩
 | true=>
 go_wp2_with fail
 refine(skip_any t st3 32 rb base vr3 vn3 vp3 _ ht hat3 hr3).mono ?_
 rintro e w4 ⟨rfl,hg4,hr4⟩
 have HF4:=hidK (HF3.out.trans (Fr.of_grown hg4))
 have HZ4:=hidK (HZ3.out.block (hg4.block B (by omega) (by intro e;injection e;omega)))
 have hz4:B<w4.heap.size:=by have:=hg4.size;omega
 clear hg4 hr3 HF3 HZ3 hz3
 cases hn3:nextB t 32 st3 with
 | false=>
  have HE:Hid (ruleP t st=(false,st3)):=HM.out.trans (if_pos hn3)
  rw[skipP_no hn3]at hr4
  have HR4:=hidK hr4
  clear hr4
  go_wp2
  go_ret
  rw[HE.out]
  exact⟨rfl,_,_,_,HR4.out,HF4.out⟩
 | true=>
 have HEn:Hid (ruleP t st=if(behindP t (adv st3)).2.1=false then(false,(behindP t (adv st3)).2.2)else(true,addR (f,(behindP t (adv st3)).1,n3) (behindP t (adv st3)).2.2)):=by
  have hne:¬nextB t 32 st3=false:=by rw[hn3];decide
  exact HM.out.trans (if_neg hne)
 have hlt3:=nextB_lt (by omega) hn3
 rw[skipP_yes hn3]at hr4
 have HSM:Hid ((behindP t (adv st3)).2.2.rules=st3.rules):=(behindP_same t (adv st3)).1
 have hc5:=behind_any t (adv st3) rb base vr3 vn3 vp3 w4 ht (adv_ok hlt3) hr4
 clear HM hn3
 generalize behindP t (adv st3)=M at*
 obtain⟨n5,ok5,st5⟩:=M
 simp only at HEn HSM hc5
 go_wp2_with fail
 refine hc5.mono ?_
 rintro e w5 ⟨rfl,hg5,hr5⟩
 have HF5:=hidK (HF4.out.trans (Fr.of_grown hg5))
 have HZ5:=hidK (HZ4.out.block (hg5.block B (by omega) (by intro e;injection e;omega)))
 have hz5:B<w5.heap.size:=by have:=hg5.size;omega
 have HR5:=hidK hr5
 clear hg5 hr4 HF4 HZ4 hz4 hr5 hc5
 cases ok5 with
 | false=>
  have HE:Hid (ruleP t st=(false,st5)):=HEn.out
  go_wp2
  go_ret
  rw[HE.out]
  exact⟨rfl,_,_,_,HR5.out,HF5.out⟩
 | true=>
 have HE:Hid (ruleP t st=(true,addR (f,n5,n3) st5)):=HEn.out
 have hnl:st5.rules.length≤100000:=by rw[HSM.out];exact HU3.out
 clear HEn
 have c2:=HR5.out.c2
 have f2:=HR5.out.fz 2
 have d0:=HZ5.out.c0
 have d1:=HZ5.out.c1
 have d2:=HZ5.out.c2
 have d3:=HZ5.out.c3
 go_wp2_with fail
 have hrb5:rb<w5.heap.size:=by omega
 have hbs:base≤w5.heap.size:=HR5.out.hbt
 have hrne:some rb≠vr3.ownBlock:=fun e=>by have:=(HR5.out.rr.lt rb e.symm).1;have:=HR5.out.hb;omega
 go_region_law ((refine step_app1 w5.drew rfl (.tmp 43) (.tmp 48) 80 rfl base 151 (.agg #[.bool false,.bool false,.bool false,.bool false,.int .i64 0,.int .i64 0]) 6 24 Try.underlying80 Try.infoRule rfl (by decide) (by decide) vr3 st5.rules.length (rulesC st5.rules) [.bool (f 0),.bool (f 1),.bool (f 2),.bool (f 3),.int .i64 n5,.int .i64 n3] _ (by simp[Act.eval]) HR5.out.rr _ rfl (by simp[Act.eval]) rfl (by simp[Value.oneCell']) (by omega) hbs ?_;intro g4 cap4 w6 hown4 hgrow4 hat4 hlt4;have m3:=((grow_cell hgrow4 (k:=rb) (by show rb<w5.heap.size;omega) hrne).1 2).trans c2;have n3':=((grow_cell hgrow4 (k:=rb) (by show rb<w5.heap.size;omega) hrne).2 2).trans f2;have HMo:=hidK (HR5.out.drew.moreR (x:=(f,n5,n3)) hown4 hgrow4 hat4 hlt4)))
 all_goals
  go_wp2
  go_ret
  rw[HE.out]
  exact⟨rfl,_,_,_,HMo.out.1.raise,HF5.out.trans HMo.out.2.of_drew⟩
end Go.Proofs.Ytgjgjgihceijnaa

namespace Go.Stn
theorem Gr.same {t:ByteArray}{a b:PSt}(h:sameL a b)(h1:a.at_≤b.at_)(h2:b.at_≤t.size):Gr t a b:=(GrS_same h h1 h2).gr
theorem Gr.step {t:ByteArray}{a:PSt}(h:a.at_<t.size):Gr t a (adv a):=Gr.same (sameL.adv a) (by rw[adv_at];omega) (by rw[adv_at];omega)
def Gr3 (t:ByteArray)(a b:PSt):Prop:=Gr t a b∧b.rules.length+a.at_≤a.rules.length+b.at_
theorem ruleEnd_gr {t:ByteArray}{f:Nat→Bool}{root:Int}{st:PSt}(h:st.at_≤t.size):Gr t st (ruleEnd t f root st).2∧(ruleEnd t f root st).2.rules.length≤st.rules.length+1:=by
 have h1:=behindP_at h
 have h2:=Go.Proofs.Ytgjgjgihceijnaa.behindP_same t st
 have h3:=Gr.same h2 h1.1 h1.2
 have e:(behindP t st).2.2.rules.length=st.rules.length:=by rw[h2.1]
 unfold ruleEnd
 split
 ·exact⟨h3,by simp only;omega⟩
 ·refine⟨h3, ?_⟩
  simp only[addR,List.length_append,List.length_singleton];omega
theorem ruleMid_gr {t:ByteArray}{f:Nat→Bool}{st:PSt}(h:st.at_≤t.size):Gr t st (ruleMid t f st).2∧((ruleMid t f st).2.rules.length≤st.rules.length+1):=by
 have h1:=exprP_ok t (t.size+1) st h
 have h2:=Go.Proofs.Ytgjgjgihceijnaa.exprP_rules t (t.size+1) st
 have e:(exprP t (t.size+1) st).2.2.rules.length=st.rules.length:=by rw[h2]
 unfold ruleMid
 split
 ·exact⟨h1,by simp only;omega⟩
 ·split
  ·exact⟨h1,by simp only;omega⟩
  ·rename_i hn
   have hlt:=nextB_lt (by omega) (show nextB t 32 (exprP t (t.size+1) st).2.2=true by simpa using hn)
   have h3:=ruleEnd_gr (t:=t) (f:=f) (root:=(exprP t (t.size+1) st).1) (st:=adv (exprP t (t.size+1) st).2.2) (by rw[adv_at];omega)
   refine⟨(h1.trans (Gr.step hlt)).trans h3.1, ?_⟩
   have h4:=h3.2
   have e2:(adv (exprP t (t.size+1) st).2.2).rules=(exprP t (t.size+1) st).2.2.rules:=rfl
   rw[e2]at h4
   omega
theorem ruleP_gr {t:ByteArray}{st:PSt}(h:st.at_≤t.size):Gr3 t st (ruleP t st).2:=by
 have h1:=rcondsP_at h
 have h2:=Gr.same h1.1 h1.2.1 h1.2.2
 have e:(rcondsP t st).2.2.rules.length=st.rules.length:=by rw[h1.1.1]
 unfold ruleP
 split
 ·exact⟨h2,by simp only;omega⟩
 ·split
  ·exact⟨h2,by simp only;omega⟩
  ·rename_i hn
   have hlt:=nextB_lt (by omega) (show nextB t 32 (rcondsP t st).2.2=true by simpa using hn)
   have h3:=ruleMid_gr (t:=t) (f:=(rcondsP t st).1) (st:=adv (rcondsP t st).2.2) (by rw[adv_at];omega)
   refine⟨(h2.trans (Gr.step hlt)).trans h3.1, ?_⟩
   have h4:=h3.2
   have h5:=h3.1.1
   have e2:(adv (rcondsP t st).2.2).rules=(rcondsP t st).2.2.rules:=rfl
   rw[e2]at h4
   rw[adv_at]at h5
   omega
def rulesLoop (t:ByteArray):Nat→Bool→PSt→Bool×PSt
 | 0,_,st=>(false,st)
 | n+1,ok,st=>if ok=false then(false,st)else if nextB t 10 st=false then(true,st)else rulesLoop t n (ruleP t (adv st)).1 (ruleP t (adv st)).2
theorem rulesLoop_false (t:ByteArray)(n:Nat)(st:PSt):rulesLoop t n false st=(false,st):=by cases n<;> rfl
theorem rulesLoop_done {t:ByteArray}{n:Nat}{st:PSt}(h:nextB t 10 st=false):rulesLoop t (n+1) true st=(true,st):=by rw[rulesLoop,if_neg (by decide),if_pos h]
theorem rulesLoop_more {t:ByteArray}{n:Nat}{st:PSt}(h:nextB t 10 st=true):rulesLoop t (n+1) true st=rulesLoop t n (ruleP t (adv st)).1 (ruleP t (adv st)).2:=by rw[rulesLoop,if_neg (by decide),if_neg (by rw[h];decide)]
def rulesR (t:ByteArray)(st:PSt):Bool×PSt:=rulesLoop t (t.size+1) (ruleP t st).1 (ruleP t st).2
def rulesB (t:ByteArray)(x:Bool×PSt):Bool:=x.1 && (decide (x.2.at_=t.size) && decide (x.2.rules.length≤8))
end Go.Stn
namespace Go.Proofs.Ytgjgjgihceijnaa
open Go.RowKit Go.Stn
set_option maxRecDepth 100000 in
theorem rules_any (t:ByteArray)(st:PSt)(rb base:Nat)(vr vn vp:Value)(w:World)(ht:t.size≤120)(hat:st.at_≤t.size)(hfew:Few st)(hru:st.rules.length≤st.at_)(h:Rd w rb base w.heap.size t st vr vn vp):
  Calls Try.prog 58 #[.pointer (some ⟨rb,0,none⟩)] w fun e w'=>e= .returned (.bool (rulesB t (rulesR t st)))∧RdOut w rb base t vr vn vp (rulesR t st).2 w':=by
 have hc1:=rule_any t st rb base vr vn vp w ht hat hfew (by omega) h
 have hg1:=ruleP_gr (t:=t) hat
 have HA:Hid (rulesR t st=rulesLoop t (t.size+1) (ruleP t st).1 (ruleP t st).2):=rfl
 generalize ruleP t st=M at*
 obtain⟨ok1,st1⟩:=M
 simp only at hc1 hg1 HA
 have hat1:st1.at_≤t.size:=hg1.1.2.1
 have HFW:=hidK (hfew.gr hg1.1)
 have hru1:st1.rules.length≤st1.at_:=by have:=hg1.2;omega
 clear hg1 hfew
 go_enter Try.func58,Try.ntmps58
 go_wp2_with fail
 refine hc1.mono ?_
 rintro e w1 ⟨rfl,vr1,vn1,vp1,hr1,hf1⟩
 have HR1:=hidK hr1
 have HF1:=hidK hf1
 clear hf1 hc1 hr1
 go_wp2_with fail
 go_loopg [3] (t.size+1) (fun gk y wr=>∃(ok:Bool) (s:PSt) (vr2 vn2 vp2:Value),y= .bool ok∧s.at_≤t.size∧s.rules.length≤s.at_∧Few s∧(ok=true→t.size - s.at_<gk)∧rulesR t st=rulesLoop t gk ok s∧
  Rd wr rb base wr.heap.size t s vr2 vn2 vp2∧Fr w wr rb vr vn vp vr2 vn2 vp2)
 case atStart=>exact⟨ok1,st1,vr1,vn1,vp1,rfl,hat1,hru1,HFW.out,fun _=>by omega,HA.out,HR1.out,HF1.out⟩
 case round=>
  obtain⟨ok,s,vr2,vn2,vp2,rfl,has,hrs,hfs,hfu,hal,hr,hf⟩:=hrel
  have HL:=hidK hal
  have HF:=hidK hf
  have HFS:=hidK hfs
  have HFU:=hidK hfu
  clear hal hf hfs hfu HR1 HF1 HFW HA
  cases ok with
  | false=>
   have HE:Hid (rulesR t st=(false,s)):=HL.out.trans (rulesLoop_false t gk s)
   have HR:=hidK hr.drewN
   clear hr
   go_wp2_with fail
   go_quiet (fail)
   go_wp2
   go_ret
   rw[HE.out]
   exact⟨rfl,_,_,_,(HR.out _).raise,HF.out.trans (Fr.of_grown (grown_drewN (World.grownBy.refl _ _) _))⟩
  | true=>
   obtain⟨g',hg'⟩:∃g',gk=g'+1:=⟨gk - 1,by have:=HFU.out rfl;omega⟩
   have HGK:=hidK hg'
   clear hg'
   have HUF:Hid (t.size - s.at_<gk):=HFU.out rfl
   clear HFU
   go_wp2_with fail
   refine(skip_any t s 10 rb base vr2 vn2 vp2 _ ht has hr).mono ?_
   rintro e w3 ⟨rfl,hg3,hr3⟩
   have HF3:Hid (Fr w w3 rb vr vn vp vr2 vn2 vp2):=HF.out.trans (Fr.of_grown hg3)
   clear hr HF hg3
   cases hp:nextB t 10 s with
   | false=>
    have HE:Hid (rulesR t st=(true,s)):=by unfold Hid;rw[HL.out,HGK.out];exact rulesLoop_done hp
    rw[skipP_no hp]at hr3
    have HR3:=hidK hr3
    clear hr3
    have c0:=HR3.out.c0
    have c1:=HR3.out.c1
    have c2:=HR3.out.c2
    obtain⟨a2,cap2,hsl⟩:=rowSlice HR3.out.rr
    rw[hsl]at c2
    clear hsl
    by_cases he:s.at_=t.size
    ·have hb:(((s.at_:Nat):Int)==((t.size:Nat):Int))=true:=by rw[he];exact beq_self_eq_true _
     by_cases hm:s.rules.length≤8
     ·have HB:Hid (rulesB t (true,s)=true):=by unfold Hid rulesB;simp[he,hm]
      have hm':((s.rules.length:Nat):Int)≤8:=by omega
      clear he hm
      go_wp2_with fail
      go_quiet (fail)
      go_wp2
      go_ret
      rw[HE.out,HB.out]
      exact⟨rfl,_,_,_,(HR3.out.drewN _).raise,HF3.out.trans (Fr.of_grown (grown_drewN (World.grownBy.refl _ _) _))⟩
     ·have HB:Hid (rulesB t (true,s)=false):=by unfold Hid rulesB;simp;intro _;omega
      have hm':decide (((s.rules.length:Nat):Int)≤8)=false:=by rw[decide_eq_false_iff_not];omega
      clear he hm
      go_wp2_with fail
      go_quiet (fail)
      go_wp2
      go_ret
      rw[HE.out,HB.out]
      exact⟨rfl,_,_,_,(HR3.out.drewN _).raise,HF3.out.trans (Fr.of_grown (grown_drewN (World.grownBy.refl _ _) _))⟩
    ·have hb:(((s.at_:Nat):Int)==((t.size:Nat):Int))=false:=beq_eq_false_iff_ne.2 (by omega)
     have HB:Hid (rulesB t (true,s)=false):=by unfold Hid rulesB;simp[he]
     clear he
     go_wp2_with fail
     go_quiet (fail)
     go_wp2
     go_ret
     rw[HE.out,HB.out]
     exact⟨rfl,_,_,_,(HR3.out.drewN _).raise,HF3.out.trans (Fr.of_grown (grown_drewN (World.grownBy.refl _ _) _))⟩
   | true=>
    have hlt:=nextB_lt (by omega) hp
    rw[skipP_yes hp]at hr3
    have hstep:rulesR t st=rulesLoop t g' (ruleP t (adv s)).1 (ruleP t (adv s)).2:=by rw[HL.out,HGK.out];exact rulesLoop_more hp
    have hc4:=rule_any t (adv s) rb base vr2 vn2 vp2 w3 ht (adv_ok hlt) HFS.out.adv (by show s.rules.length≤100000;omega) hr3
    have hgg:=ruleP_gr (t:=t) (adv_ok hlt)
    have HS:=hidK hstep
    clear hstep
    generalize ruleP t (adv s)=M at*
    obtain⟨ok4,st4⟩:=M
    simp only at hc4 HS hgg
    have ha4:s.at_+1≤st4.at_:=by have:=hgg.1.1;rw[adv_at]at this;exact this
    have hat4:st4.at_≤t.size:=hgg.1.2.1
    have hru4:st4.rules.length≤st4.at_:=by have:=hgg.2;rw[adv_at]at this;have e:(adv s).rules=s.rules:=rfl;rw[e]at this;omega
    have HW4:=hidK (HFS.out.adv.gr hgg.1)
    clear hgg
    go_wp2_with fail
    refine hc4.mono ?_
    rintro e w4 ⟨rfl,vr4,vn4,vp4,hr4,hf4⟩
    have HF4:=hidK (HF3.out.trans hf4)
    have HR4:=hidK hr4
    clear hf4 hc4 hr3 HF3 hr4
    go_wp2_with fail
    go_roundg g'
    case measure=>have:=HGK.out;omega
    case rel=>
     refine⟨ok4,st4,vr4,vn4,vp4,rfl,hat4,hru4,HW4.out,fun _=> ?_,HS.out,HR4.out,HF4.out⟩
     have a1:=HUF.out
     have a2:=HGK.out
     omega
end Go.Proofs.Ytgjgjgihceijnaa

namespace Go.Stn
def st0:PSt:= {at_:=0,rules:= [],nodes:= [],places:= []}
def parsedP (t:ByteArray):PSt:=(rulesR t st0).2
def parseC (t:ByteArray):Int:=
 if 120<t.size then 1 else if rulesB t (rulesR t st0)=false then 2 else if 10<(rulesR t st0).2.places.length then 3 else 0
end Go.Stn
namespace Go.Proofs.Ytgjgjgihceijnaa
open Go.RowKit Go.Stn
structure Three (w:World)(b:Nat)(x y z:Value):Prop where
 c0:w.cell? ⟨b,0,none⟩=some x
 c1:w.cell? ⟨b,1,none⟩=some y
 c2:w.cell? ⟨b,2,none⟩=some z
 z:∀i,w.frozen? ⟨b,i,none⟩=false
theorem Three.block {w w':World}{b:Nat}{x y z:Value}(h:Three w b x y z)(he:w'.heap[b]? =w.heap[b]?):Three w' b x y z:=
 ⟨(World.cell?_of_block (w:=w) (a:=⟨b,0,none⟩) he).trans h.c0,(World.cell?_of_block (w:=w) (a:=⟨b,1,none⟩) he).trans h.c1,(World.cell?_of_block (w:=w) (a:=⟨b,2,none⟩) he).trans h.c2,fun i=>(World.frozen?_of_block (w:=w) (a:=⟨b,i,none⟩) he).trans (h.z i)⟩
theorem Three.new (w:World)(b:Nat)(ty:TypeId)(x y z:Value)(hb:b=w.heap.size):Three (w.alloc (.cells #[x,y,z] ty)) b x y z:=
 ⟨(World.cell?_alloc_at _ _ b 0 hb).trans rfl,(World.cell?_alloc_at _ _ b 1 hb).trans rfl,(World.cell?_alloc_at _ _ b 2 hb).trans rfl,fun i=>World.frozen?_alloc_at _ _ b i hb⟩
theorem Three.alloc {w:World}{b:Nat}{x y z:Value}(h:Three w b x y z)(hb:b<w.heap.size)(o:Obj):Three (w.alloc o) b x y z:=
 ⟨(World.cell?_alloc_past o b 0 hb).trans h.c0,(World.cell?_alloc_past o b 1 hb).trans h.c1,(World.cell?_alloc_past o b 2 hb).trans h.c2,fun i=>(World.frozen?_alloc_past o b i hb).trans (h.z i)⟩
theorem Three.range {w:World}{b:Nat}{x y z:Value}(h:Three w b x y z):w.rangeAt b 0 [x,y,z]:=by
 intro j v hv
 match j,hv with
 | 0,hv=>cases hv;exact h.c0
 | 1,hv=>cases hv;exact h.c1
 | 2,hv=>cases hv;exact h.c2
theorem Three.there {w:World}{b:Nat}{x y z:Value}(h:Three w b x y z):w.there b 0 3:=by
 intro j hj
 rw[Nat.zero_add]
 refine⟨?_,h.z j⟩
 match j,hj with
 | 0,_=>rw[h.c0];rfl
 | 1,_=>rw[h.c1];rfl
 | 2,_=>rw[h.c2];rfl
theorem Three.stored {w:World}{b:Nat}{x y z:Value}(h:Three w b x y z)(x' y' z':Value):Three (((w.setCell ⟨b,0,none⟩ x').setCell ⟨b,1,none⟩ y').setCell ⟨b,2,none⟩ z') b x' y' z':=by
 have hr:(w.setCells b 0 [x',y',z']).rangeAt b 0 [x',y',z']:=World.rangeAt_setCells_same w b 0 [x',y',z'] h.there
 exact⟨hr 0 _ rfl,hr 1 _ rfl,hr 2 _ rfl,fun i=>by rw[World.frozen?_setCell,World.frozen?_setCell,World.frozen?_setCell];exact h.z i⟩
theorem below_three {a w:World}{B b:Nat}(h:Below B a w)(hb:B≤b)(x y z:Value):Below B a (((w.setCell ⟨b,0,none⟩ x).setCell ⟨b,1,none⟩ y).setCell ⟨b,2,none⟩ z):=
 ((h.setCell (p:=⟨b,0,none⟩) hb x).setCell (p:=⟨b,1,none⟩) hb y).setCell (p:=⟨b,2,none⟩) hb z
theorem row_three {w:World}{base b:Nat}{e:TypeId}{size:Nat}{v:Value}{m:Nat}{xs:List Value}(hr:w.ownsRow base e size v m xs)(hb:b<base)(x y z:Value):
  (((w.setCell ⟨b,0,none⟩ x).setCell ⟨b,1,none⟩ y).setCell ⟨b,2,none⟩ z).ownsRow base e size v m xs:=
 ownsRow_setCell_below (ownsRow_setCell_below (ownsRow_setCell_below hr hb _) hb _) hb _
structure FileAt (w:World)(base:Nat)(st:PSt)(vr vn vp:Value):Prop where
 rr:w.ownsRow base 151 6 vr st.rules.length (rulesC st.rules)
 rn:w.ownsRow base 191 3 vn st.nodes.length (cells3' st.nodes)
 rp:w.ownsRow base 187 256 vp st.places.length (bitsC st.places)
 lr:∀k,vr.ownBlock=some k→k<w.heap.size
 ln:∀k,vn.ownBlock=some k→k<w.heap.size
 lp:∀k,vp.ownBlock=some k→k<w.heap.size
theorem Try.fileSize:(Try.prog.info? 84).map (·.size)=some 3:=by kernel_rfl
theorem rd_start (t:ByteArray)(w:World)(x y z:Value)(ty1 ty2:TypeId):Rd ((w.alloc (.cells #[x,y,z] ty1)).alloc (.cells #[.string t,.int .i64 0,.slice none 0 0,.slice none 0 0,.slice none 0 0] ty2)) (w.heap.size+1) (w.heap.size+2) ((w.alloc (.cells #[x,y,z] ty1)).alloc (.cells #[.string t,.int .i64 0,.slice none 0 0,.slice none 0 0,.slice none 0 0] ty2)).heap.size t st0 (.slice none 0 0) (.slice none 0 0) (.slice none 0 0):=by
 have hb:w.heap.size+1=(w.alloc (.cells #[x,y,z] ty1)).heap.size:=by simp
 have ap:apartV (.slice none 0 0) (.slice none 0 0):=fun k h _=>by simp[Value.ownBlock]at h
 have no:∀k,(Value.slice none 0 0).ownBlock=some k→k<((w.alloc (.cells #[x,y,z] ty1)).alloc (.cells #[.string t,.int .i64 0,.slice none 0 0,.slice none 0 0,.slice none 0 0] ty2)).heap.size:=fun k h=>by simp[Value.ownBlock]at h
 refine⟨(World.cell?_alloc_at _ _ _ 0 hb).trans rfl,(World.cell?_alloc_at _ _ _ 1 hb).trans rfl,(World.cell?_alloc_at _ _ _ 2 hb).trans rfl,(World.cell?_alloc_at _ _ _ 3 hb).trans rfl,(World.cell?_alloc_at _ _ _ 4 hb).trans rfl,fun i=>World.frozen?_alloc_at _ _ _ i hb,⟨rfl,.inl ⟨rfl,rfl⟩⟩,⟨rfl,.inl ⟨rfl,rfl⟩⟩,⟨rfl,.inl ⟨rfl,rfl⟩⟩,by omega, ?_,Nat.le_refl _,no,no,no,ap,ap,ap⟩
 simp
set_option maxRecDepth 100000 in
theorem rparse_any (t:ByteArray)(w:World):
  Calls Try.prog 41 #[.string t] w fun e w'=>Below w.heap.size w w'∧∃vr vn vp,e= .returned (.tuple #[.agg #[vr,vn,vp],.int .i64 (parseC t)])∧
   (parseC t=0→FileAt w' (w.heap.size+2) (parsedP t) vr vn vp)∧(parseC t≠0→vr= .slice none 0 0∧vn= .slice none 0 0∧vp= .slice none 0 0):=by
 by_cases h1:t.size≤120
 ·have HR0:=hidK (rd_start t w (.slice none 0 0) (.slice none 0 0) (.slice none 0 0) 84 135)
  have HT0:=hidK ((Three.new w w.heap.size 84 (.slice none 0 0) (.slice none 0 0) (.slice none 0 0) rfl).alloc (by simp) (.cells #[.string t,.int .i64 0,.slice none 0 0,.slice none 0 0,.slice none 0 0] 135))
  have HB0:=hidK (((Below.refl w.heap.size w).alloc (Nat.le_refl _) (.cells #[.slice none 0 0,.slice none 0 0,.slice none 0 0] 84)).alloc (by simp) (.cells #[.string t,.int .i64 0,.slice none 0 0,.slice none 0 0,.slice none 0 0] 135))
  have hsz0:((w.alloc (.cells #[.slice none 0 0,.slice none 0 0,.slice none 0 0] 84)).alloc (.cells #[.string t,.int .i64 0,.slice none 0 0,.slice none 0 0,.slice none 0 0] 135)).heap.size=w.heap.size+2:=by simp
  have HC:Hid (parseC t=if rulesB t (rulesR t st0)=false then 2 else if 10<(rulesR t st0).2.places.length then 3 else 0):=by
   unfold Hid parseC;rw[if_neg (by omega)]
  go_enter Try.func41,Try.ntmps41
  go_wp2_with fail
  generalize (w.alloc (.cells #[.slice none 0 0,.slice none 0 0,.slice none 0 0] 84)).alloc (.cells #[.string t,.int .i64 0,.slice none 0 0,.slice none 0 0,.slice none 0 0] 135)=W0 at*
  refine(rules_any t st0 (w.heap.size+1) (w.heap.size+2) _ _ _ W0 h1 (Nat.zero_le _) ⟨Nat.zero_le _,Nat.zero_le _⟩ (Nat.zero_le _) HR0.out).mono ?_
  rintro e w1 ⟨rfl,vr,vn,vp,hr,hf⟩
  have hnm:¬mine (w.heap.size+1) (.slice none 0 0) (.slice none 0 0) (.slice none 0 0) w.heap.size:=by
   rintro(e | e | e | e)
   ·omega
   ·simp[Value.ownBlock]at e
   ·simp[Value.ownBlock]at e
   ·simp[Value.ownBlock]at e
  have HT1:=hidK (HT0.out.block (hf.block w.heap.size (by omega) hnm))
  have HB1:Hid (Below w.heap.size w w1):=by
   refine⟨hf.os.trans HB0.out.os,hf.tape.trans HB0.out.tape,hf.output.trans HB0.out.output,Nat.le_trans HB0.out.size hf.size,fun k hk=>(hf.block k (by omega) ?_).trans (HB0.out.block k hk)⟩
   rintro(e | e | e | e)
   ·omega
   ·simp[Value.ownBlock]at e
   ·simp[Value.ownBlock]at e
   ·simp[Value.ownBlock]at e
  have HP:Hid (parsedP t=(rulesR t st0).2):=rfl
  clear HR0 HT0 HB0 hsz0 hf hnm
  generalize rulesB t (rulesR t st0)=ok at*
  generalize rulesR t st0=M at*
  obtain⟨ok',s⟩:=M
  simp only at HC hr HP
  have c0:=HT1.out.c0
  have c1:=HT1.out.c1
  have c2:=HT1.out.c2
  have z0:=HT1.out.z 0
  have z1:=HT1.out.z 1
  have z2:=HT1.out.z 2
  cases ok with
  | false=>
   have HE:Hid (parseC t=2):=HC.out
   go_wp2
   refine ret_cell2 Try.results41 w.heap.size 0 [.slice none 0 0,.slice none 0 0,.slice none 0 0] _ (.int .i64 2) rfl rfl (HT1.out.stored _ _ _).range Try.underlying84 rfl Try.fileSize rfl ?_
   rw[HE.out]
   exact⟨below_three HB1.out (Nat.le_refl _) _ _ _,_,_,_,rfl,fun h=>by simp at h,fun _=>⟨rfl,rfl,rfl⟩⟩
  | true=>
   have HR:=hidK hr
   clear hr
   have d2:=HR.out.c2
   have d3:=HR.out.c3
   have d4:=HR.out.c4
   obtain⟨ar,cr,er⟩:=rowSlice HR.out.rr
   obtain⟨an,cn,en⟩:=rowSlice HR.out.rn
   obtain⟨ap,cp,ep⟩:=rowSlice HR.out.rp
   subst er en ep
   by_cases hp:10<s.places.length
   ·have HE:Hid (parseC t=3):=HC.out.trans (if_pos hp)
    go_wp2
    refine ret_cell2 Try.results41 w.heap.size 0 [.slice none 0 0,.slice none 0 0,.slice none 0 0] _ (.int .i64 3) rfl rfl (HT1.out.stored _ _ _).range Try.underlying84 rfl Try.fileSize rfl ?_
    rw[HE.out]
    exact⟨below_three HB1.out (Nat.le_refl _) _ _ _,_,_,_,rfl,fun h=>by simp at h,fun _=>⟨rfl,rfl,rfl⟩⟩
   ·have HE:Hid (parseC t=0):=HC.out.trans (if_neg hp)
    go_wp2
    refine ret_cell2 Try.results41 w.heap.size 0 [.slice ar s.rules.length cr,.slice an s.nodes.length cn,.slice ap s.places.length cp] _ (.int .i64 0) rfl rfl (HT1.out.stored _ _ _).range Try.underlying84 rfl Try.fileSize rfl ?_
    rw[HE.out]
    refine⟨below_three HB1.out (Nat.le_refl _) _ _ _,_,_,_,rfl,fun _=> ?_,fun h=>absurd rfl h⟩
    rw[HP.out]
    refine⟨row_three HR.out.rr (by omega) _ _ _,row_three HR.out.rn (by omega) _ _ _,row_three HR.out.rp (by omega) _ _ _, ?_, ?_, ?_⟩
    ·rw[World.size_setCell,World.size_setCell,World.size_setCell];exact HR.out.lr
    ·rw[World.size_setCell,World.size_setCell,World.size_setCell];exact HR.out.ln
    ·rw[World.size_setCell,World.size_setCell,World.size_setCell];exact HR.out.lp
 ·have HE:Hid (parseC t=1):=by unfold Hid parseC;rw[if_pos (by omega)]
  have HT0:=hidK (Three.new w w.heap.size 84 (.slice none 0 0) (.slice none 0 0) (.slice none 0 0) rfl)
  have HB0:=hidK ((Below.refl w.heap.size w).alloc (Nat.le_refl _) (.cells #[.slice none 0 0,.slice none 0 0,.slice none 0 0] 84))
  go_enter Try.func41,Try.ntmps41
  go_wp2
  refine ret_cell2 Try.results41 w.heap.size 0 [.slice none 0 0,.slice none 0 0,.slice none 0 0] _ (.int .i64 1) rfl rfl HT0.out.range Try.underlying84 rfl Try.fileSize rfl ?_
  rw[HE.out]
  exact⟨HB0.out,_,_,_,rfl,fun h=>by simp at h,fun _=>⟨rfl,rfl,rfl⟩⟩
end Go.Proofs.Ytgjgjgihceijnaa

namespace Go.Stn
def pow2 (k:Nat):Int:=((2 ^ k:Nat):Int)
def orI (a b:Int):Int:=bits .or .i64 a b
def andI (a b:Int):Int:=bits .and .i64 a b
def partV (p:Int×Int×Bool):Value:= .agg #[.int .i64 p.1,.int .i64 p.2.1,.bool p.2.2]
def joinedP (l r:Int×Int×Bool):Int×Int×Bool:=
 (if l.2.2=true then orI l.1 r.1 else l.1,if r.2.2=true then orI r.2.1 l.2.1 else r.2.1,l.2.2 && r.2.2)
end Go.Stn
namespace Go.Proofs.Ytgjgjgihceijnaa
open Go.RowKit Go.Stn
theorem wrap_pow (k:Nat)(hk:k≤10):wrap64 (2 ^ k)=((2 ^ k:Nat):Int):=by
 have:∀j:Fin 11,wrap64 (2 ^ j.val)=((2 ^ j.val:Nat):Int):=by decide+kernel
 exact this ⟨k,by omega⟩
set_option maxRecDepth 100000 in
theorem psingle_any (k:Nat)(hk:k≤10)(w:World):
  Calls Try.prog 90 #[.int .i64 (k:Int)] w fun e w'=>w'=w∧e= .returned (.int .i64 (pow2 k)):=by
 go_enter Try.func90,Try.ntmps90
 go_wp2
 go_ret
 exact⟨rfl,by rw[wrap_pow k hk];rfl⟩
theorem Try.partSize:(Try.prog.info? 193).map (·.size)=some 3:=by kernel_rfl
theorem Three.new3 (w:World)(o1 o2 o4:Obj)(ty:TypeId)(x y z:Value):Three ((((w.alloc o1).alloc o2).alloc (.cells #[x,y,z] ty)).alloc o4) (w.heap.size+1+1) x y z:=
 (Three.new _ _ ty x y z (by simp)).alloc (by simp) o4
theorem below4 (w:World)(o1 o2 o3 o4:Obj):Below w.heap.size w ((((w.alloc o1).alloc o2).alloc o3).alloc o4):=
 ((((Below.refl _ _).alloc (Nat.le_refl _) o1).alloc (by simp) o2).alloc (by simp;omega) o3).alloc (by simp;omega) o4
set_option maxRecDepth 100000 in
theorem pjoined_any (a b c d:Int)(x y:Bool)(w:World):
  Calls Try.prog 119 #[partV (a,b,x),partV (c,d,y)] w fun e w'=>Below w.heap.size w w'∧e= .returned (partV (joinedP (a,b,x) (c,d,y))):=by
 unfold partV
 cases x<;> cases y
 ·go_enter Try.func119,Try.ntmps119
  go_wp2_with fail
  exact ret_cell1 Try.results119 (w.heap.size+1+1) 0 _ _ rfl (Three.new3 _ _ _ _ _ _ _ _).range Try.underlying193 rfl Try.partSize rfl ⟨below4 _ _ _ _ _,rfl⟩
 ·go_enter Try.func119,Try.ntmps119
  go_wp2_with fail
  exact ret_cell1 Try.results119 (w.heap.size+1+1) 0 _ _ rfl (Three.new3 _ _ _ _ _ _ _ _).range Try.underlying193 rfl Try.partSize rfl ⟨below4 _ _ _ _ _,rfl⟩
 ·go_enter Try.func119,Try.ntmps119
  go_wp2_with fail
  exact ret_cell1 Try.results119 (w.heap.size+1+1) 0 _ _ rfl (Three.new3 _ _ _ _ _ _ _ _).range Try.underlying193 rfl Try.partSize rfl ⟨below4 _ _ _ _ _,rfl⟩
 ·go_enter Try.func119,Try.ntmps119
  go_wp2_with fail
  exact ret_cell1 Try.results119 (w.heap.size+1+1) 0 _ _ rfl (Three.new3 _ _ _ _ _ _ _ _).range Try.underlying193 rfl Try.partSize rfl ⟨below4 _ _ _ _ _,rfl⟩
end Go.Proofs.Ytgjgjgihceijnaa

namespace Go.Stn
def findP:List Int→Int→Nat
 | [],_=>0
 | a::r,x=>if a=x then 0 else findP r x+1
theorem findP_at {l:List Int}{x:Int}{k:Nat}(h:l[k]? =some x):findP (l.drop k) x=0:=by
 have e:l.drop k=x::l.drop (k+1):=by
  obtain⟨hk,he⟩:=List.getElem?_eq_some_iff.1 h
  rw[List.drop_eq_getElem_cons hk,he]
 rw[e,findP,if_pos rfl]
theorem findP_ne {l:List Int}{a x:Int}{k:Nat}(h:l[k]? =some a)(hne:a≠x):findP (l.drop k) x=findP (l.drop (k+1)) x+1:=by
 have e:l.drop k=a::l.drop (k+1):=by
  obtain⟨hk,he⟩:=List.getElem?_eq_some_iff.1 h
  rw[List.drop_eq_getElem_cons hk,he]
 rw[e,findP,if_neg hne]
structure Row1 (w:World)(v:Value)(l:List Int):Prop where
 sh:(v= .slice none 0 0∧l= [])∨∃g cap,v= .slice (some ⟨g,0,none⟩) l.length cap∧l.length≤cap∧cap≤maxLen∧∀k x,l[k]? =some x→w.cell? ⟨g,k,none⟩=some (.int .i64 x)
end Go.Stn
namespace Go.Proofs.Ytgjgjgihceijnaa
open Go.RowKit Go.Stn
set_option maxRecDepth 100000 in
theorem pfind_any (l:List Int)(v:Value)(x:Int)(w:World)(hl:l.length≤1000000)(hr:Row1 w v l):
  Calls Try.prog 60 #[v,.int .i64 x] w fun e w'=>w'=w∧e= .returned (.int .i64 (findP l x:Int)):=by
 rcases hr.sh with⟨rfl,rfl⟩ | ⟨g,cap,rfl,h1,h2,hcells⟩
 ·go_enter Try.func60,Try.ntmps60
  go_wp2_with fail
  go_loop [9] (fun i=>i= .int .i64 0) (fun _=>0)
  case atStart=>rfl
  case round=>
   subst hrel
   go_wp2
   go_ret
   exact⟨rfl,rfl⟩
 ·have HC:=hidK hcells
  clear hcells hr
  go_enter Try.func60,Try.ntmps60
  go_wp2_with fail
  go_loop [9] (fun i=>∃k:Nat,k≤l.length∧i= .int .i64 (k:Int)∧k+findP (l.drop k) x=findP l x) (fun i=>l.length - (intOf i).toNat)
  case atStart=>exact⟨0,Nat.zero_le _,rfl,by simp⟩
  case round=>
   obtain⟨k,hk,rfl,hall⟩:=hrel
   have HA:=hidK hall
   clear hall
   by_cases hlt:k<l.length
   ·obtain⟨a,hu⟩:∃u,l[k]? =some u:=⟨_,List.getElem?_eq_getElem hlt⟩
    have k0:=HC.out k _ hu
    by_cases he:a=x
    ·have HE:Hid (findP l x=k):=by unfold Hid;rw[←HA.out,findP_at (by rw[hu,he])];rfl
     have hb:(a==x)=true:=beq_iff_eq.2 he
     clear hu he
     go_wp2
     go_ret
     exact⟨rfl,by rw[HE.out];rfl⟩
    ·have HN:Hid (k+1+findP (l.drop (k+1)) x=findP l x):=by unfold Hid;rw[←HA.out,findP_ne hu he];omega
     have hb:(a==x)=false:=beq_eq_false_iff_ne.2 he
     clear hu he
     go_wp2
     go_round
     case rel=>exact⟨k+1,by omega,by simp,HN.out⟩
     case measure=>simp[intOf];omega
   ·have e:k=l.length:=by omega
    have HE:Hid (findP l x=l.length):=by unfold Hid;rw[←HA.out,e,List.drop_length];rfl
    clear HA
    subst e
    go_wp2
    go_ret
    exact⟨rfl,by rw[HE.out];rfl⟩
end Go.Proofs.Ytgjgjgihceijnaa

