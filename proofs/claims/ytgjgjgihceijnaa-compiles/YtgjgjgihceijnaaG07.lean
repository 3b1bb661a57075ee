/- Texts put together: RfExpr, RfAlt, RfOr, RfConds. -/
import Derived.Test.YtgjgjgihceijnaaG06
namespace Go.Proofs.Ytgjgjgihceijnaa
open Go.RowKit Go.Stn
def Few (st:PSt):Prop:=st.nodes.length≤3*st.at_∧st.places.length≤st.at_
theorem Few.gr {t:ByteArray}{a b:PSt}(h:Few a)(g:Gr t a b):Few b:=by
 obtain⟨h1,h2⟩:=h
 obtain⟨g1,g2,g3,g4⟩:=g
 exact⟨by omega,by omega⟩
theorem Few.adv {a:PSt}(h:Few a):Few (Go.Stn.adv a):=by
 obtain⟨h1,h2⟩:=h
 refine⟨?_, ?_⟩
 ·show a.nodes.length≤3*(a.at_+1);omega
 ·show a.places.length≤a.at_+1;omega
def ReadsBy (fn:Nat)(t:ByteArray)(F:PSt→Int×Bool×PSt)(st:PSt):Prop:=
 ∀(rb base:Nat) (vr vn vp:Value) (w:World),st.at_≤t.size→Few st→Rd w rb base w.heap.size t st vr vn vp→
  Calls Try.prog fn #[.pointer (some ⟨rb,0,none⟩)] w fun e w'=>e= .returned (.tuple #[.int .i64 (F st).1,.bool (F st).2.1])∧RdOut w rb base t vr vn vp (F st).2.2 w'
set_option maxRecDepth 100000 in
theorem atPiece_any (t:ByteArray)(st:PSt)(rb base:Nat)(vr vn vp:Value)(w:World)(h:Rd w rb base w.heap.size t st vr vn vp):
  Calls Try.prog 138 #[.pointer (some ⟨rb,0,none⟩)] w fun e w'=>e= .returned (.bool (atPieceB t st))∧∃q,w'=w.drewN q:=by
 have HE:Hid (atPieceB t st=(decide (peekP t st.at_=40∨peekP t st.at_=91∨peekP t st.at_=46∨peekP t st.at_=92) || plainB (peekP t st.at_) spOut)):=rfl
 go_enter Try.func138,Try.ntmps138
 go_wp2_with fail
 refine(peek_any t st rb base w.heap.size vr vn vp _ h).mono ?_
 rintro e w1 ⟨rfl,q,rfl⟩
 clear h
 generalize peekP t st.at_=p at*
 by_cases h1:p=40
 ·have HY:Hid (atPieceB t st=true):=by unfold Hid;rw[HE.out];simp[h1]
  have b1:(p==40)=true:=beq_iff_eq.2 h1
  clear h1
  go_wp2_with fail
  go_ret
  exact⟨by rw[HY.out];rfl,q,rfl⟩
 have b1:(p==40)=false:=beq_eq_false_iff_ne.2 h1
 by_cases h2:p=91
 ·have HY:Hid (atPieceB t st=true):=by unfold Hid;rw[HE.out];simp[h2]
  have b2:(p==91)=true:=beq_iff_eq.2 h2
  clear h1 h2
  go_wp2_with fail
  go_ret
  exact⟨by rw[HY.out];rfl,q,rfl⟩
 have b2:(p==91)=false:=beq_eq_false_iff_ne.2 h2
 by_cases h3:p=46
 ·have HY:Hid (atPieceB t st=true):=by unfold Hid;rw[HE.out];simp[h3]
  have b3:(p==46)=true:=beq_iff_eq.2 h3
  clear h1 h2 h3
  go_wp2_with fail
  go_ret
  exact⟨by rw[HY.out];rfl,q,rfl⟩
 have b3:(p==46)=false:=beq_eq_false_iff_ne.2 h3
 by_cases h4:p=92
 ·have HY:Hid (atPieceB t st=true):=by unfold Hid;rw[HE.out];simp[h4]
  have b4:(p==92)=true:=beq_iff_eq.2 h4
  clear h1 h2 h3 h4
  go_wp2_with fail
  go_ret
  exact⟨by rw[HY.out];rfl,q,rfl⟩
 have b4:(p==92)=false:=beq_eq_false_iff_ne.2 h4
 have HY:Hid (atPieceB t st=plainB p spOut):=by unfold Hid;rw[HE.out];simp[h1,h2,h3,h4]
 clear h1 h2 h3 h4
 go_wp2_with fail
 refine(plain_any p spOut _ spOut_size).mono ?_
 rintro e w2 ⟨rfl,rfl⟩
 go_wp2
 go_ret
 exact⟨by rw[HY.out];rfl,q,rfl⟩
set_option maxRecDepth 100000 in
theorem atom_any (t:ByteArray)(ex:PSt→Int×Bool×PSt)(st:PSt)(ht:t.size≤120)(hx:ExOk t ex)(hex:nextB t 40 st=true→ReadsBy 115 t ex (adv st)):
  ReadsBy 140 t (atomP t ex) st:=by
 intro rb base vr vn vp w hat hfew h
 cases h1:nextB t 40 st with
 | false=>
  have HE:Hid (atomP t ex st=placeP t st):=by unfold Hid atomP;rw[if_neg (by rw[h1];decide)]
  have hf:=hfew
  obtain⟨hf1,hf2⟩:=hf
  go_enter Try.func140,Try.ntmps140
  go_wp2_with fail
  refine(skip_any t st 40 rb base vr vn vp _ ht hat h).mono ?_
  rintro e w1 ⟨rfl,hg1,hr1⟩
  rw[skipP_no h1]at hr1
  rw[h1]
  have HG1:=hidK hg1
  go_wp2_with fail
  refine(place_any t st rb base vr vn vp _ ht hat hr1 (by omega) (by omega)).mono ?_
  rintro e w2 ⟨rfl,vr2,vn2,vp2,hr2,hf2'⟩
  have HR2:=hidK hr2
  have HF2:=hidK ((Fr.of_grown HG1.out).trans hf2')
  clear hr2 hf2' hr1 hg1
  go_wp2
  go_ret2
  rw[HE.out]
  exact⟨rfl,_,_,_,HR2.out,HF2.out⟩
 | true=>
  have hlt:=nextB_lt (by omega) h1
  have hq:=hex h1
  have hgr:=hx (adv st) (adv_ok hlt)
  have HY:Hid ((ex (adv st)).2.1=true∧nextB t 41 (ex (adv st)).2.2=true→atomP t ex st=((ex (adv st)).1,true,adv (ex (adv st)).2.2)):=by
   intro hc;unfold atomP;rw[if_pos h1,if_pos hc]
  have HN:Hid (¬((ex (adv st)).2.1=true∧nextB t 41 (ex (adv st)).2.2=true)→atomP t ex st=(0,false,(ex (adv st)).2.2)):=by
   intro hc;unfold atomP;rw[if_pos h1,if_neg hc]
  go_enter Try.func140,Try.ntmps140
  go_wp2_with fail
  refine(skip_any t st 40 rb base vr vn vp _ ht hat h).mono ?_
  rintro e w1 ⟨rfl,hg1,hr1⟩
  rw[skipP_yes h1]at hr1
  rw[h1]
  have hc2:=hq rb base vr vn vp w1 (adv_ok hlt) hfew.adv hr1
  have HG1:=hidK hg1
  clear hg1 hq hex
  generalize ex (adv st)=M at*
  obtain⟨n2,ok2,st2⟩:=M
  simp only at hc2 hgr HY HN
  have hat2:st2.at_≤t.size:=hgr.2.1
  go_wp2_with fail
  refine hc2.mono ?_
  rintro e w2 ⟨rfl,vr2,vn2,vp2,hr2,hf2⟩
  have HF2:=hidK ((Fr.of_grown HG1.out).trans hf2)
  clear hf2 hc2 hr1 hgr
  cases ok2 with
  | false=>
   have HE:=hidK (HN.out (by simp))
   have HR2:=hidK hr2
   clear hr2
   go_wp2_with fail
   go_ret2
   rw[HE.out]
   exact⟨rfl,_,_,_,HR2.out,HF2.out⟩
  | true=>
   go_wp2_with fail
   refine(skip_any t st2 41 rb base vr2 vn2 vp2 _ ht hat2 hr2).mono ?_
   rintro e w3 ⟨rfl,hg3,hr3⟩
   have HF3:=hidK (HF2.out.trans (Fr.of_grown hg3))
   clear hg3 hr2
   cases h3:nextB t 41 st2 with
   | true=>
    rw[skipP_yes h3]at hr3
    have HR3:=hidK hr3
    have HE:=hidK (HY.out (by simp[h3]))
    clear hr3
    go_wp2
    go_ret2
    rw[HE.out]
    exact⟨rfl,_,_,_,HR3.out,HF3.out⟩
   | false=>
    rw[skipP_no h3]at hr3
    have HR3:=hidK hr3
    have HE:=hidK (HN.out (by rw[h3];simp))
    clear hr3
    go_wp2
    go_ret2
    rw[HE.out]
    exact⟨rfl,_,_,_,HR3.out,HF3.out⟩
theorem markK_no {p:Int}(h1:p≠63)(h2:p≠43)(h3:p≠42):markK p=0:=by unfold markK;rw[if_neg h1,if_neg h2,if_neg h3]
set_option maxRecDepth 100000 in
theorem piece_any (t:ByteArray)(ex:PSt→Int×Bool×PSt)(st:PSt)(ht:t.size≤120)(hx:ExOk t ex)(hex:nextB t 40 st=true→ReadsBy 115 t ex (adv st)):
  ReadsBy 137 t (pieceP t ex) st:=by
 intro rb base vr vn vp w hat hfew h
 have hc1:=atom_any t ex st ht hx hex rb base vr vn vp w hat hfew h
 have hgr:=(atomP_gr hx hat).gr
 have HN:Hid ((atomP t ex st).2.1=false→pieceP t ex st=(0,false,(atomP t ex st).2.2)):=by
  intro hc;unfold pieceP;rw[if_neg (by rw[hc];decide)]
 have HP:Hid ((atomP t ex st).2.1=true→markK (peekP t (atomP t ex st).2.2.at_)=0→pieceP t ex st=((atomP t ex st).1,true,(atomP t ex st).2.2)):=by
  intro hc hm;unfold pieceP;rw[if_pos hc,if_pos hm]
 have HM:Hid ((atomP t ex st).2.1=true→markK (peekP t (atomP t ex st).2.2.at_)≠0→pieceP t ex st=(((atomP t ex st).2.2.nodes.length:Int),true,addN (markK (peekP t (atomP t ex st).2.2.at_),(atomP t ex st).1,0) (adv (atomP t ex st).2.2))):=by
  intro hc hm;unfold pieceP;rw[if_pos hc,if_neg hm]
 have HFW:=hidK (hfew.gr hgr)
 clear hex
 generalize atomP t ex st=M at*
 obtain⟨n1,ok1,st1⟩:=M
 simp only at hc1 hgr HN HP HM HFW
 have hat1:st1.at_≤t.size:=hgr.2.1
 clear hgr
 go_enter Try.func137,Try.ntmps137
 go_wp2_with fail
 refine hc1.mono ?_
 rintro e w1 ⟨rfl,vr1,vn1,vp1,hr1,hf1⟩
 have HF1:=hidK hf1
 clear hf1 hc1
 cases ok1 with
 | false=>
  have HE:=hidK (HN.out rfl)
  have HR1:=hidK hr1
  clear hr1
  go_wp2
  go_ret2
  rw[HE.out]
  exact⟨rfl,_,_,_,HR1.out,HF1.out⟩
 | true=>
  go_wp2_with fail
  refine(peek_any t st1 rb base _ vr1 vn1 vp1 _ hr1).mono ?_
  rintro e w2 ⟨rfl,q,rfl⟩
  have HR2:=hidK (hr1.drewN q).raise
  have HF2:Hid (Fr w (w1.drewN q) rb vr vn vp vr1 vn1 vp1):=HF1.out.trans (Fr.of_grown (grown_drewN (World.grownBy.refl _ _) q))
  clear hr1 HF1
  generalize w1.drewN q=w2 at*
  have HPP:=hidK (HP.out (by simp))
  have HMM:=hidK (HM.out (by simp))
  clear HP HM HN
  generalize hp:peekP t st1.at_=p at*
  clear hp
  have c1:=HR2.out.c1
  have f1:=HR2.out.fz 1
  have hnl:st1.nodes.length≤100000:=by have:=HFW.out.1;omega
  by_cases hm:p=63∨p=43∨p=42
  ·have HRA:=hidK HR2.out.adv.raise
   have HFA:Hid (Fr w (w2.setCell ⟨rb,1,none⟩ (.int .i64 ((st1.at_:Int)+1))) rb vr vn vp vr1 vn1 vp1):=HF2.out.trans (Fr.of_grown (grown_set (World.grownBy.refl _ _) _ _))
   rcases hm with rfl | rfl | rfl
   ·have HE:=hidK (HMM.out (by decide))
    go_wp2_with fail
    refine(add_any t (adv st1) 3 n1 0 rb base vr1 vn1 vp1 _ HRA.out hnl).mono ?_
    rintro e w3 ⟨rfl,vr3,vn3,vp3,hr3,hf3⟩
    have HR3:=hidK hr3
    have HF3:=hidK (HFA.out.trans hf3)
    clear hr3 hf3
    go_wp2
    go_ret2
    rw[HE.out]
    exact⟨rfl,_,_,_,HR3.out,HF3.out⟩
   ·have HE:=hidK (HMM.out (by decide))
    go_wp2_with fail
    refine(add_any t (adv st1) 4 n1 0 rb base vr1 vn1 vp1 _ HRA.out hnl).mono ?_
    rintro e w3 ⟨rfl,vr3,vn3,vp3,hr3,hf3⟩
    have HR3:=hidK hr3
    have HF3:=hidK (HFA.out.trans hf3)
    clear hr3 hf3
    go_wp2
    go_ret2
    rw[HE.out]
    exact⟨rfl,_,_,_,HR3.out,HF3.out⟩
   ·have HE:=hidK (HMM.out (by decide))
    go_wp2_with fail
    refine(add_any t (adv st1) 5 n1 0 rb base vr1 vn1 vp1 _ HRA.out hnl).mono ?_
    rintro e w3 ⟨rfl,vr3,vn3,vp3,hr3,hf3⟩
    have HR3:=hidK hr3
    have HF3:=hidK (HFA.out.trans hf3)
    clear hr3 hf3
    go_wp2
    go_ret2
    rw[HE.out]
    exact⟨rfl,_,_,_,HR3.out,HF3.out⟩
  ·have h1:p≠63:=fun e=>hm (.inl e)
   have h2:p≠43:=fun e=>hm (.inr (.inl e))
   have h3:p≠42:=fun e=>hm (.inr (.inr e))
   have HE:=hidK (HPP.out (markK_no h1 h2 h3))
   have b1:(p==63)=false:=beq_eq_false_iff_ne.2 h1
   have b2:(p==43)=false:=beq_eq_false_iff_ne.2 h2
   have b3:(p==42)=false:=beq_eq_false_iff_ne.2 h3
   clear hm h1 h2 h3
   go_wp2
   go_ret2
   rw[HE.out]
   exact⟨rfl,_,_,_,HR2.out,HF2.out⟩
end Go.Proofs.Ytgjgjgihceijnaa

namespace Go.Proofs.Ytgjgjgihceijnaa
open Go.RowKit Go.Stn
set_option maxRecDepth 100000 in
theorem alt_any (t:ByteArray)(ex:PSt→Int×Bool×PSt)(st:PSt)(ht:t.size≤120)(hx:ExOk t ex)(hex:∀s,st.at_≤s.at_→nextB t 40 s=true→ReadsBy 115 t ex (adv s)):
  ReadsBy 130 t (altP t ex) st:=by
 intro rb base vr vn vp w hat hfew h
 have hc1:=piece_any t ex st ht hx (hex st (Nat.le_refl _)) rb base vr vn vp w hat hfew h
 have hgr:=(pieceP_gr hx hat).gr
 have HFW:=hidK (hfew.gr hgr)
 have HA:Hid (altP t ex st=altLoop t ex (t.size+1) (pieceP t ex st).1 (pieceP t ex st).2.1 (pieceP t ex st).2.2):=rfl
 have HEX:=hidK hex
 clear hex
 generalize pieceP t ex st=M at*
 obtain⟨n1,ok1,st1⟩:=M
 simp only at hc1 hgr HFW HA
 have hat1:st1.at_≤t.size:=hgr.2.1
 have hlo1:st.at_≤st1.at_:=hgr.1
 clear hgr
 go_enter Try.func130,Try.ntmps130
 go_wp2_with fail
 refine hc1.mono ?_
 rintro e w1 ⟨rfl,vr1,vn1,vp1,hr1,hf1⟩
 have HR1:=hidK hr1
 have HF1:=hidK hf1
 clear hf1 hc1 hr1
 go_wp2_with fail
 go_loopg [4,5] (t.size+1) (fun gk x y wr=>∃(whole:Int) (ok:Bool) (s:PSt) (vr2 vn2 vp2:Value),x= .int .i64 whole∧y= .bool ok∧st.at_≤s.at_∧s.at_≤t.size∧Few s∧(ok=true→t.size - s.at_<gk)∧altP t ex st=altLoop t ex gk whole ok s∧
  Rd wr rb base wr.heap.size t s vr2 vn2 vp2∧Fr w wr rb vr vn vp vr2 vn2 vp2)
 case atStart=>exact⟨n1,ok1,st1,vr1,vn1,vp1,rfl,rfl,hlo1,hat1,HFW.out,fun _=>by omega,HA.out,HR1.out,HF1.out⟩
 case round=>
  obtain⟨whole,ok,s,vr2,vn2,vp2,rfl,rfl,hlo,has,hfs,hfu,hal,hr,hf⟩:=hrel
  have HL:=hidK hal
  have HF:=hidK hf
  have HFS:=hidK hfs
  have HFU:=hidK hfu
  clear hal hf hfs hfu HR1 HF1 HFW HA
  cases ok with
  | false=>
   have HE:Hid (altP t ex st=(whole,false,s)):=HL.out.trans (altLoop_false t ex gk whole s)
   have HR:=hidK hr
   clear hr
   go_wp2
   go_ret2
   rw[HE.out]
   exact⟨rfl,_,_,_,HR.out,HF.out⟩
  | true=>
   obtain⟨g',hg'⟩:∃g',gk=g'+1:=⟨gk - 1,by have:=HFU.out rfl;omega⟩
   have HGK:=hidK hg'
   clear hg'
   have HUF:Hid (t.size - s.at_<gk):=HFU.out rfl
   clear HFU
   go_wp2_with fail
   refine(atPiece_any t s rb base vr2 vn2 vp2 _ hr).mono ?_
   rintro e w3 ⟨rfl,q,rfl⟩
   have hr3:=(hr.drewN q).raise
   have HF3:Hid (Fr w (wr.drewN q) rb vr vn vp vr2 vn2 vp2):=HF.out.trans (Fr.of_grown (grown_drewN (World.grownBy.refl _ _) q))
   clear hr HF
   generalize wr.drewN q=w3 at*
   cases hp:atPieceB t s with
   | false=>
    have HE:Hid (altP t ex st=(whole,true,s)):=by unfold Hid;rw[HL.out,HGK.out];exact altLoop_done hp
    have HR3:=hidK hr3
    clear hr3
    go_wp2
    go_ret2
    rw[HE.out]
    exact⟨rfl,_,_,_,HR3.out,HF3.out⟩
   | true=>
    have hstep:altP t ex st=altLoop t ex g' ((pieceP t ex s).2.2.nodes.length:Int) (pieceP t ex s).2.1 (addN (1,whole,(pieceP t ex s).1) (pieceP t ex s).2.2):=by rw[HL.out,HGK.out];exact altLoop_more hp
    have hc4:=piece_any t ex s ht hx (HEX.out s hlo) rb base vr2 vn2 vp2 w3 has HFS.out hr3
    have hg4:=pieceP_gr hx has
    have ha4:=pieceP_adv hx hp
    have HS:=hidK hstep
    clear hstep
    generalize pieceP t ex s=M at*
    obtain⟨n4,ok4,st4⟩:=M
    simp only at hc4 hg4 ha4 HS
    have hgg:=hg4.gr
    have hat4:st4.at_≤t.size:=hgg.2.1
    have hfew4:Few st4:=HFS.out.gr hgg
    have hnl:st4.nodes.length≤100000:=by have:=hfew4.1;omega
    have HW4:Hid (Few (addN (1,whole,n4) st4)):=by
     have h2:=hfew4.2
     have h1:=HFS.out.1
     refine⟨?_,h2⟩
     show(st4.nodes++ [(1,whole,n4)]).length≤3*st4.at_
     rw[List.length_append,List.length_singleton]
     rcases hg4 with⟨g1,g2,g3,g4⟩ | ⟨g1,g2,g3,g4⟩
     ·omega
     ·omega
    clear hg4 hgg hfew4
    go_wp2_with fail
    refine hc4.mono ?_
    rintro e w4 ⟨rfl,vr4,vn4,vp4,hr4,hf4⟩
    have HF4:=hidK (HF3.out.trans hf4)
    clear hf4 hc4 hr3 HF3
    go_wp2_with fail
    refine(add_any t st4 1 whole n4 rb base vr4 vn4 vp4 _ hr4 hnl).mono ?_
    rintro e w5 ⟨rfl,vr5,vn5,vp5,hr5,hf5⟩
    have HR5:=hidK hr5
    have HF5:=hidK (HF4.out.trans hf5)
    clear hr5 hf5 hr4 HF4
    go_wp2_with fail
    go_roundg g'
    case measure=>have:=HGK.out;omega
    case rel=>
     refine⟨_,ok4,addN (1,whole,n4) st4,vr5,vn5,vp5,rfl,rfl, ?_,hat4,HW4.out,fun _=> ?_,HS.out,HR5.out,HF5.out⟩
     ·show st.at_≤st4.at_;omega
     ·show t.size - st4.at_<g'
      have a1:=HUF.out
      have a2:=HGK.out
      omega
end Go.Proofs.Ytgjgjgihceijnaa

namespace Go.Proofs.Ytgjgjgihceijnaa
open Go.RowKit Go.Stn
set_option maxRecDepth 100000 in
theorem or_any (t:ByteArray)(ex:PSt→Int×Bool×PSt)(st:PSt)(ht:t.size≤120)(hx:ExOk t ex)(hex:∀s,st.at_≤s.at_→nextB t 40 s=true→ReadsBy 115 t ex (adv s)):
  ReadsBy 115 t (fun st=>exprLoop t ex (t.size+1) (altP t ex st).1 (altP t ex st).2.1 (altP t ex st).2.2) st:=by
 intro rb base vr vn vp w hat hfew h
 show Calls _ _ _ _ fun e w'=>e= .returned (.tuple #[.int .i64 (exprLoop t ex (t.size+1) (altP t ex st).1 (altP t ex st).2.1 (altP t ex st).2.2).1,.bool (exprLoop t ex (t.size+1) (altP t ex st).1 (altP t ex st).2.1 (altP t ex st).2.2).2.1])∧RdOut w rb base t vr vn vp (exprLoop t ex (t.size+1) (altP t ex st).1 (altP t ex st).2.1 (altP t ex st).2.2).2.2 w'
 have hc1:=alt_any t ex st ht hx hex rb base vr vn vp w hat hfew h
 have hgr:=altP_gr hx hat
 have HFW:=hidK (hfew.gr hgr)
 generalize hA:exprLoop t ex (t.size+1) (altP t ex st).1 (altP t ex st).2.1 (altP t ex st).2.2=A
 have HA:=hidK hA.symm
 clear hA
 have HEX:=hidK hex
 clear hex
 generalize altP t ex st=M at*
 obtain⟨n1,ok1,st1⟩:=M
 simp only at hc1 hgr HFW HA
 have hat1:st1.at_≤t.size:=hgr.2.1
 have hlo1:st.at_≤st1.at_:=hgr.1
 clear hgr
 go_enter Try.func115,Try.ntmps115
 go_wp2_with fail
 refine hc1.mono ?_
 rintro e w1 ⟨rfl,vr1,vn1,vp1,hr1,hf1⟩
 have HR1:=hidK hr1
 have HF1:=hidK hf1
 clear hf1 hc1 hr1
 go_wp2_with fail
 go_loopg [4,5] (t.size+1) (fun gk x y wr=>∃(whole:Int) (ok:Bool) (s:PSt) (vr2 vn2 vp2:Value),x= .int .i64 whole∧y= .bool ok∧st.at_≤s.at_∧s.at_≤t.size∧Few s∧(ok=true→t.size - s.at_<gk)∧A=exprLoop t ex gk whole ok s∧
  Rd wr rb base wr.heap.size t s vr2 vn2 vp2∧Fr w wr rb vr vn vp vr2 vn2 vp2)
 case atStart=>exact⟨n1,ok1,st1,vr1,vn1,vp1,rfl,rfl,hlo1,hat1,HFW.out,fun _=>by omega,HA.out,HR1.out,HF1.out⟩
 case round=>
  obtain⟨whole,ok,s,vr2,vn2,vp2,rfl,rfl,hlo,has,hfs,hfu,hal,hr,hf⟩:=hrel
  have HL:=hidK hal
  have HF:=hidK hf
  have HFS:=hidK hfs
  have HFU:=hidK hfu
  clear hal hf hfs hfu HR1 HF1 HFW HA
  cases ok with
  | false=>
   have HE:Hid (A=(whole,false,s)):=HL.out.trans (exprLoop_false t ex gk whole s)
   have HR:=hidK hr
   clear hr
   go_wp2
   go_ret2
   rw[HE.out]
   exact⟨rfl,_,_,_,HR.out,HF.out⟩
  | true=>
   obtain⟨g',hg'⟩:∃g',gk=g'+1:=⟨gk - 1,by have:=HFU.out rfl;omega⟩
   have HGK:=hidK hg'
   clear hg'
   have HUF:Hid (t.size - s.at_<gk):=HFU.out rfl
   clear HFU
   go_wp2_with fail
   refine(skip_any t s 124 rb base vr2 vn2 vp2 _ ht has hr).mono ?_
   rintro e w3 ⟨rfl,hg3,hr3⟩
   have HF3:Hid (Fr w w3 rb vr vn vp vr2 vn2 vp2):=HF.out.trans (Fr.of_grown hg3)
   clear hr HF hg3
   cases hp:nextB t 124 s with
   | false=>
    have HE:Hid (A=(whole,true,s)):=by unfold Hid;rw[HL.out,HGK.out];exact exprLoop_done hp
    rw[skipP_no hp]at hr3
    have HR3:=hidK hr3
    clear hr3
    go_wp2
    go_ret2
    rw[HE.out]
    exact⟨rfl,_,_,_,HR3.out,HF3.out⟩
   | true=>
    have hlt:=nextB_lt (by omega) hp
    rw[skipP_yes hp]at hr3
    have hstep:A=exprLoop t ex g' ((altP t ex (adv s)).2.2.nodes.length:Int) (altP t ex (adv s)).2.1 (addN (2,whole,(altP t ex (adv s)).1) (altP t ex (adv s)).2.2):=by rw[HL.out,HGK.out];exact exprLoop_more hp
    have hc4:=alt_any t ex (adv s) ht hx (fun x hx1=>HEX.out x (by rw[adv_at]at hx1;omega)) rb base vr2 vn2 vp2 w3 (adv_ok hlt) HFS.out.adv hr3
    have hgg:=altP_gr hx (adv_ok hlt)
    have hg4:=Gr_adv hgg
    have HS:=hidK hstep
    clear hstep
    have ha4:s.at_+1≤(altP t ex (adv s)).2.2.at_:=by have:=hgg.1;rw[adv_at]at this;exact this
    generalize altP t ex (adv s)=M at*
    obtain⟨n4,ok4,st4⟩:=M
    simp only at hc4 hg4 ha4 HS hgg
    have hat4:st4.at_≤t.size:=hgg.2.1
    have hfew4:Few st4:=HFS.out.adv.gr hgg
    have hnl:st4.nodes.length≤100000:=by have:=hfew4.1;omega
    have HW4:Hid (Few (addN (2,whole,n4) st4)):=by
     have h2:=hfew4.2
     have h1:=HFS.out.1
     refine⟨?_,h2⟩
     show(st4.nodes++ [(2,whole,n4)]).length≤3*st4.at_
     rw[List.length_append,List.length_singleton]
     rcases hg4 with⟨g1,g2,g3,g4⟩ | ⟨g1,g2,g3,g4⟩
     ·omega
     ·omega
    clear hg4 hgg hfew4
    go_wp2_with fail
    refine hc4.mono ?_
    rintro e w4 ⟨rfl,vr4,vn4,vp4,hr4,hf4⟩
    have HF4:=hidK (HF3.out.trans hf4)
    clear hf4 hc4 hr3 HF3
    go_wp2_with fail
    refine(add_any t st4 2 whole n4 rb base vr4 vn4 vp4 _ hr4 hnl).mono ?_
    rintro e w5 ⟨rfl,vr5,vn5,vp5,hr5,hf5⟩
    have HR5:=hidK hr5
    have HF5:=hidK (HF4.out.trans hf5)
    clear hr5 hf5 hr4 HF4
    go_wp2_with fail
    go_roundg g'
    case measure=>have:=HGK.out;omega
    case rel=>
     refine⟨_,ok4,addN (2,whole,n4) st4,vr5,vn5,vp5,rfl,rfl, ?_,hat4,HW4.out,fun _=> ?_,HS.out,HR5.out,HF5.out⟩
     ·show st.at_≤st4.at_;omega
     ·show t.size - st4.at_<g'
      have a1:=HUF.out
      have a2:=HGK.out
      omega
theorem expr_any (t:ByteArray)(ht:t.size≤120):∀(f:Nat) (st:PSt),t.size - st.at_<f→ReadsBy 115 t (exprP t f) st:=by
 intro f
 induction f with
 | zero=>intro st h;omega
 | succ e ih=>
  intro st h
  exact or_any t (exprP t e) st ht (exprP_ok t e) (fun s hs hn=>ih (adv s) (by have:=nextB_lt (by omega) hn;rw[adv_at];omega))
end Go.Proofs.Ytgjgjgihceijnaa

namespace Go.Stn
def set1 (f:Nat→Bool)(k:Int):Nat→Bool:=fun i=>if(i:Int)=k then true else f i
def condsLoop (t:ByteArray):Nat→(Nat→Bool)→Int→PSt→(Nat→Bool)×Bool×PSt
 | 0,f,_,st=>(f,false,st)
 | n+1,f,last,st=>
  if(letterP t st).2.1=false then(f,true,(letterP t st).2.2)
  else if(letterP t st).1≤last then(f,false,(letterP t st).2.2)
  else condsLoop t n (set1 f (letterP t st).1) (letterP t st).1 (letterP t st).2.2
def rcondsP (t:ByteArray)(st:PSt):(Nat→Bool)×Bool×PSt:=
 if(letterP t st).2.1=false then(zeroF,false,(letterP t st).2.2)
 else condsLoop t 5 (set1 zeroF (letterP t st).1) (letterP t st).1 (letterP t st).2.2
def fourV (f:Nat→Bool):Value:= .agg #[.bool (f 0),.bool (f 1),.bool (f 2),.bool (f 3)]
theorem letterP_same (t:ByteArray)(st:PSt):sameL st (letterP t st).2.2:=by
 unfold letterP
 split
 ·exact sameL.adv st
 ·exact sameL.refl st
theorem condsLoop_at {t:ByteArray}:∀(n:Nat) (f:Nat→Bool) (last:Int) (st:PSt),st.at_≤t.size→sameL st (condsLoop t n f last st).2.2∧st.at_≤(condsLoop t n f last st).2.2.at_∧(condsLoop t n f last st).2.2.at_≤t.size:=by
 intro n
 induction n with
 | zero=>intro f last st h;exact⟨sameL.refl st,Nat.le_refl _,h⟩
 | succ e ih=>
  intro f last st h
  have h1:=letterP_same t st
  have h2:=letterP_at h
  rw[condsLoop]
  split
  ·exact⟨h1,h2⟩
  ·split
   ·exact⟨h1,h2⟩
   ·have h3:=ih (set1 f (letterP t st).1) (letterP t st).1 (letterP t st).2.2 h2.2
    exact⟨h1.trans h3.1,by omega,h3.2.2⟩
theorem rcondsP_at {t:ByteArray}{st:PSt}(h:st.at_≤t.size):sameL st (rcondsP t st).2.2∧st.at_≤(rcondsP t st).2.2.at_∧(rcondsP t st).2.2.at_≤t.size:=by
 have h1:=letterP_same t st
 have h2:=letterP_at h
 unfold rcondsP
 split
 ·exact⟨h1,h2⟩
 ·have h3:=condsLoop_at (t:=t) 5 (set1 zeroF (letterP t st).1) (letterP t st).1 (letterP t st).2.2 h2.2
  exact⟨h1.trans h3.1,by omega,h3.2.2⟩
end Go.Stn
namespace Go.Proofs.Ytgjgjgihceijnaa
open Go.RowKit Go.Stn
structure Four (w:World)(b:Nat)(f:Nat→Bool):Prop where
 c0:w.cell? ⟨b,0,none⟩=some (.bool (f 0))
 c1:w.cell? ⟨b,1,none⟩=some (.bool (f 1))
 c2:w.cell? ⟨b,2,none⟩=some (.bool (f 2))
 c3:w.cell? ⟨b,3,none⟩=some (.bool (f 3))
 z:∀i,w.frozen? ⟨b,i,none⟩=false
theorem Four.block {w w':World}{b:Nat}{f:Nat→Bool}(h:Four w b f)(he:w'.heap[b]? =w.heap[b]?):Four w' b f:=
 ⟨(World.cell?_of_block (w:=w) (a:=⟨b,0,none⟩) he).trans h.c0,(World.cell?_of_block (w:=w) (a:=⟨b,1,none⟩) he).trans h.c1,(World.cell?_of_block (w:=w) (a:=⟨b,2,none⟩) he).trans h.c2,(World.cell?_of_block (w:=w) (a:=⟨b,3,none⟩) he).trans h.c3,fun i=>(World.frozen?_of_block (w:=w) (a:=⟨b,i,none⟩) he).trans (h.z i)⟩
theorem Four.new (w:World)(b:Nat)(hb:b=w.heap.size):Four (w.alloc (.cells #[.bool false,.bool false,.bool false,.bool false] 149)) b zeroF:=
 ⟨(World.cell?_alloc_at _ _ b 0 hb).trans rfl,(World.cell?_alloc_at _ _ b 1 hb).trans rfl,(World.cell?_alloc_at _ _ b 2 hb).trans rfl,(World.cell?_alloc_at _ _ b 3 hb).trans rfl,fun i=>World.frozen?_alloc_at _ _ b i hb⟩
theorem Four.alloc {w:World}{b:Nat}{f:Nat→Bool}(h:Four w b f)(hb:b<w.heap.size)(o:Obj):Four (w.alloc o) b f:=
 ⟨(World.cell?_alloc_past o b 0 hb).trans h.c0,(World.cell?_alloc_past o b 1 hb).trans h.c1,(World.cell?_alloc_past o b 2 hb).trans h.c2,(World.cell?_alloc_past o b 3 hb).trans h.c3,fun i=>(World.frozen?_alloc_past o b i hb).trans (h.z i)⟩
theorem Four.there {w:World}{b:Nat}{f:Nat→Bool}(h:Four w b f):w.there b 0 4:=by
 intro j hj
 rw[Nat.zero_add]
 refine⟨?_,h.z j⟩
 match j,hj with
 | 0,_=>rw[h.c0];rfl
 | 1,_=>rw[h.c1];rfl
 | 2,_=>rw[h.c2];rfl
 | 3,_=>rw[h.c3];rfl
def fourL (f:Nat→Bool):List Value:= [.bool (f 0),.bool (f 1),.bool (f 2),.bool (f 3)]
theorem Try.fourSize:(Try.prog.info? 149).map (·.size)=some 4:=by kernel_rfl
theorem wpList_store_four {P:Program}{ops:Array Oper}{rest:List Oper}{op:Oper}{a:Act}{w:World}{Q:Exit→Act→World→Prop}(hgd:op.guard=none)(ty:TypeId)(x y:Operand)(ho:op.op= .store ty x y)
  (b:Nat) (f g:Nat→Bool) (hx:a.eval x= .pointer (some ⟨b,0,none⟩)) (hy:a.eval y=fourV f) (ht:Four w b g) (hi:(P.info? ty).map (·.size)=some 4)
  (h:wpList P ops Q rest (a.put op.dst undef) (w.setCells b 0 (fourL f))):wpList P ops Q (op::rest) a w:=
 wpList_store_mid hgd ty x y ho b 0 (fourL f).toArray hx hy ht.there hi (by simp[fourL,Value.oneCell']) h
theorem set1_at (f:Nat→Bool)(k:Nat):set1 f (k:Int) k=true:=by unfold set1;rw[if_pos rfl]
theorem set1_ne (f:Nat→Bool)(k i:Nat)(h:i≠k):set1 f (k:Int) i=f i:=by unfold set1;rw[if_neg (by omega)]
theorem Four.set {w:World}{b:Nat}{f:Nat→Bool}(h:Four w b f){n:Int}(h0:0≤n)(h3:n≤3):Four (w.setCell ⟨b,n.toNat,none⟩ (.bool true)) b (set1 f n):=by
 obtain⟨k,rfl⟩:∃k:Nat,n=(k:Int):=⟨n.toNat,by omega⟩
 rw[Int.toNat_natCast]
 have hk:(w.cell? ⟨b,k,none⟩).isSome=true:=by have:=(h.there k (by omega)).1;rw[Nat.zero_add]at this;exact this
 have e:∀i,i<4→w.cell? ⟨b,i,none⟩=some (.bool (f i))→(w.setCell ⟨b,k,none⟩ (.bool true)).cell? ⟨b,i,none⟩=some (.bool (set1 f k i)):=by
  intro i hi hc
  by_cases hik:i=k
  ·subst hik
   rw[set1_at,World.cell?_setCell_same' _ _ _ hk]
  ·rw[set1_ne f k i hik,World.cell?_setCell_other (w:=w) (a:=⟨b,k,none⟩) (b:=⟨b,i,none⟩) (v:= .bool true) (h:=by intro e;exact hik (by injection e with _ e2 _;exact e2.symm)),hc]
 exact⟨e 0 (by omega) h.c0,e 1 (by omega) h.c1,e 2 (by omega) h.c2,e 3 (by omega) h.c3,fun i=>by rw[World.frozen?_setCell];exact h.z i⟩
theorem Four.other {w:World}{b:Nat}{f:Nat→Bool}(h:Four w b f)(c i:Nat)(v:Value)(hc:b≠c):Four (w.setCell ⟨c,i,none⟩ v) b f:=
 h.block (Below.heap_setCell w ⟨c,i,none⟩ v b hc)
theorem grown_setOver {a w:World}{r:Option Nat}(h:a.grownBy w r){b:Nat}(hb:a.heap.size≤b)(i:Nat)(v:Value):a.grownBy (w.setCell ⟨b,i,none⟩ v) r:=
 ⟨h.os,h.tape,h.output,by have:=h.size;simp[World.setCell];omega,fun k hk hr=>(Below.heap_setCell w ⟨b,i,none⟩ v k (by show k≠b;omega)).trans (h.block k hk hr)⟩
set_option maxRecDepth 100000 in
theorem conds_any (t:ByteArray)(st:PSt)(rb base:Nat)(vr vn vp:Value)(w:World)(ht:t.size≤120)(hat:st.at_≤t.size)(h:Rd w rb base w.heap.size t st vr vn vp):
  Calls Try.prog 114 #[.pointer (some ⟨rb,0,none⟩)] w fun e w'=>
   e= .returned (.tuple #[fourV (rcondsP t st).1,.bool (rcondsP t st).2.1])∧RdTo w rb base t vr vn vp (rcondsP t st).2.2 w':=by
 have hb:=letterP_bound t st
 have hl:=letterP_at (t:=t) hat
 have hrb:rb<w.heap.size:=by have:=h.hb;have:=h.hbt;omega
 have HC:Hid (rcondsP t st=if(letterP t st).2.1=false then(zeroF,false,(letterP t st).2.2)else condsLoop t 5 (set1 zeroF (letterP t st).1) (letterP t st).1 (letterP t st).2.2):=rfl
 have HB0:Hid (Below w.heap.size w ((w.alloc (.cells #[.bool false,.bool false,.bool false,.bool false] 149)).alloc (.cells #[.bool false,.bool false,.bool false,.bool false] 149))):=((Below.refl _ _).alloc (Nat.le_refl _) _).alloc (by simp) _
 have HZ0:Hid (Four ((w.alloc (.cells #[.bool false,.bool false,.bool false,.bool false] 149)).alloc (.cells #[.bool false,.bool false,.bool false,.bool false] 149)) w.heap.size zeroF):=by
  exact(Four.new w _ rfl).alloc (by simp) _
 have HY0:Hid (Four ((w.alloc (.cells #[.bool false,.bool false,.bool false,.bool false] 149)).alloc (.cells #[.bool false,.bool false,.bool false,.bool false] 149)) (w.heap.size+1) zeroF):=by
  exact Four.new _ _ (by simp)
 have hsz0:((w.alloc (.cells #[.bool false,.bool false,.bool false,.bool false] 149)).alloc (.cells #[.bool false,.bool false,.bool false,.bool false] 149)).heap.size=w.heap.size+2:=by simp
 go_enter Try.func114,Try.ntmps114
 go_wp2_with fail
 generalize (w.alloc (.cells #[.bool false,.bool false,.bool false,.bool false] 149)).alloc (.cells #[.bool false,.bool false,.bool false,.bool false] 149)=W0 at*
 refine(letter_any t st rb base vr vn vp _ ht hat (h.below HB0.out).raise).mono ?_
 rintro e w1 ⟨rfl,hg1,hr1⟩
 have HZ1:=hidK (HZ0.out.block (hg1.block w.heap.size (by omega) (by intro e;injection e;omega)))
 have HY1:=hidK (HY0.out.block (hg1.block (w.heap.size+1) (by omega) (by intro e;injection e;omega)))
 have HG1:=hidK (grown_trans (grown_of_below HB0.out (Nat.le_refl _) (some rb)) hg1)
 have hsz1:w.heap.size+2≤w1.heap.size:=by have:=hg1.size;omega
 have HR1:=hidK hr1
 clear hr1 HB0 HZ0 HY0 hsz0 hg1
 generalize letterP t st=M at*
 obtain⟨n1,ok1,st1⟩:=M
 simp only at HC HR1 hb hl
 obtain⟨hb1,hb2⟩:=hb
 obtain⟨hl1,hl2⟩:=hl
 cases ok1 with
 | false=>
  have HE:Hid (rcondsP t st=(zeroF,false,st1)):=HC.out
  have c0:=HY1.out.c0
  have c1:=HY1.out.c1
  have c2:=HY1.out.c2
  have c3:=HY1.out.c3
  have z0:=HZ1.out.z 0
  have z1:=HZ1.out.z 1
  have z2:=HZ1.out.z 2
  have z3:=HZ1.out.z 3
  go_wp2_with (first | (refine wpList_store_four rfl 149 (.tmp 2) (.tmp 16) rfl w.heap.size zeroF zeroF rfl rfl HZ1.out Try.fourSize ?_))
  refine ret_cell2 Try.results114 w.heap.size 0 (fourL zeroF) _ (.bool false) rfl rfl ?_ Try.underlying149 rfl Try.fourSize rfl ?_
  ·exact World.rangeAt_setCells_same _ _ _ _ HZ1.out.there
  ·rw[HE.out]
   exact⟨rfl,fin_store h HR1.out.raise HG1.out _ _ _ (Nat.le_refl _)⟩
 | true=>
  have HE:Hid (rcondsP t st=condsLoop t 5 (set1 zeroF n1) n1 st1):=HC.out
  clear HC
  have HT1:Hid (Four (w1.setCell ⟨w.heap.size+1,n1.toNat,none⟩ (.bool true)) (w.heap.size+1) (set1 zeroF n1)):=HY1.out.set hb1 hb2
  have HZ2:Hid (Four (w1.setCell ⟨w.heap.size+1,n1.toNat,none⟩ (.bool true)) w.heap.size zeroF):=HZ1.out.other _ _ _ (by omega)
  have HG2:=hidK (grown_setOver HG1.out (b:=w.heap.size+1) (by omega) n1.toNat (.bool true))
  have HR2:=hidK ((h.retop HR1.out (by omega)).below ((Below.refl w.heap.size w1).setCell (p:=⟨w.heap.size+1,n1.toNat,none⟩) (by show w.heap.size≤w.heap.size+1;omega) (.bool true)))
  have hs2:w.heap.size+2≤(w1.setCell ⟨w.heap.size+1,n1.toNat,none⟩ (.bool true)).heap.size:=by rw[World.size_setCell];exact hsz1
  have hc:(w1.cell? ⟨w.heap.size+1,n1.toNat,none⟩).isSome=true:=by have:=(HY1.out.there n1.toNat (by omega)).1;rw[Nat.zero_add]at this;exact this
  obtain⟨v1,hv1⟩:=Option.isSome_iff_exists.1 hc
  clear hc
  have hz:=HY1.out.z n1.toNat
  obtain⟨k1,hk1⟩:∃k:Nat,n1=(k:Int):=⟨n1.toNat,by omega⟩
  subst hk1
  rw[Int.toNat_natCast]at*
  go_wp2_with fail
  clear hv1 hz
  generalize w1.setCell ⟨w.heap.size+1,k1,none⟩ (.bool true)=X0 at*
  clear HZ1 HY1 HG1 HR1 hsz1
  go_loopg [5] 5 (fun gk x wr=>∃(f:Nat→Bool) (last:Int) (s:PSt),x= .int .i64 last∧0≤last∧last≤3∧s.at_≤t.size∧3 - last<gk∧rcondsP t st=condsLoop t gk f last s∧
   Rd wr rb base w.heap.size t s vr vn vp∧Four wr (w.heap.size+1) f∧Four wr w.heap.size zeroF∧w.grownBy wr (some rb)∧w.heap.size+2≤wr.heap.size)
  case atStart=>exact⟨set1 zeroF k1,k1,st1,rfl,hb1,hb2,hl2,by omega,HE.out,HR2.out,HT1.out,HZ2.out,HG2.out,hs2⟩
  case round=>
   obtain⟨f,last,s,rfl,hla,hlb,has,hfu,hlp,hr,hf,hz,hg,hsz⟩:=hrel
   have HL:=hidK hlp
   have HF:=hidK hf
   have HZ:=hidK hz
   have HG:=hidK hg
   have hb:=letterP_bound t s
   have hl:=letterP_at (t:=t) has
   obtain⟨g',hg'⟩:∃g',gk=g'+1:=⟨gk - 1,by omega⟩
   have HC:Hid (rcondsP t st=if(letterP t s).2.1=false then(f,true,(letterP t s).2.2)
    else if(letterP t s).1≤last then(f,false,(letterP t s).2.2)
    else condsLoop t g' (set1 f (letterP t s).1) (letterP t s).1 (letterP t s).2.2):=by
    unfold Hid;rw[HL.out,hg'];rfl
   have HGK:=hidK hg'
   clear hg' hlp hf hz hg HR2 HT1 HZ2 HG2 hs2 HE
   go_wp2_with fail
   refine(letter_any t s rb base vr vn vp _ ht has hr.raise).mono ?_
   rintro e w3 ⟨rfl,hg3,hr3⟩
   have HF3:=hidK (HF.out.block (hg3.block (w.heap.size+1) (by omega) (by intro e;injection e;omega)))
   have HZ3:=hidK (HZ.out.block (hg3.block w.heap.size (by omega) (by intro e;injection e;omega)))
   have HG3:=hidK (grown_trans HG.out hg3)
   have hsz3:w.heap.size+2≤w3.heap.size:=by have:=hg3.size;omega
   have HR3:=hidK hr3
   clear hr3 hr hg3 HF HZ HG
   generalize letterP t s=M at*
   obtain⟨n3,ok3,st3⟩:=M
   simp only at HC HR3 hb hl
   obtain⟨hb1,hb2⟩:=hb
   obtain⟨hl1,hl2⟩:=hl
   have c0:=HF3.out.c0
   have c1:=HF3.out.c1
   have c2:=HF3.out.c2
   have c3:=HF3.out.c3
   cases ok3 with
   | false=>
    have HE:Hid (rcondsP t st=(f,true,st3)):=HC.out
    go_wp2_with (first | (refine wpList_store_four rfl 149 (.tmp 2) (.tmp 26) rfl w.heap.size f zeroF rfl rfl HZ3.out Try.fourSize ?_))
    refine ret_cell2 Try.results114 w.heap.size 0 (fourL f) _ (.bool true) rfl rfl ?_ Try.underlying149 rfl Try.fourSize rfl ?_
    ·exact World.rangeAt_setCells_same _ _ _ _ HZ3.out.there
    ·rw[HE.out]
     exact⟨rfl,fin_store h HR3.out.raise HG3.out _ _ _ (Nat.le_refl _)⟩
   | true=>
    by_cases hle:n3≤last
    ·have HE:Hid (rcondsP t st=(f,false,st3)):=HC.out.trans (if_pos hle)
     go_wp2_with (first | (refine wpList_store_four rfl 149 (.tmp 2) (.tmp 30) rfl w.heap.size f zeroF rfl rfl HZ3.out Try.fourSize ?_))
     refine ret_cell2 Try.results114 w.heap.size 0 (fourL f) _ (.bool false) rfl rfl ?_ Try.underlying149 rfl Try.fourSize rfl ?_
     ·exact World.rangeAt_setCells_same _ _ _ _ HZ3.out.there
     ·rw[HE.out]
      exact⟨rfl,fin_store h HR3.out.raise HG3.out _ _ _ (Nat.le_refl _)⟩
    ·have HE:Hid (rcondsP t st=condsLoop t g' (set1 f n3) n3 st3):=HC.out.trans (if_neg hle)
     clear HC c0 c1 c2 c3
     have HT4:Hid (Four (w3.setCell ⟨w.heap.size+1,n3.toNat,none⟩ (.bool true)) (w.heap.size+1) (set1 f n3)):=HF3.out.set hb1 hb2
     have HZ4:Hid (Four (w3.setCell ⟨w.heap.size+1,n3.toNat,none⟩ (.bool true)) w.heap.size zeroF):=HZ3.out.other _ _ _ (by omega)
     have HG4:=hidK (grown_setOver HG3.out (b:=w.heap.size+1) (by omega) n3.toNat (.bool true))
     have HR4:=hidK ((h.retop HR3.out (by omega)).below ((Below.refl w.heap.size w3).setCell (p:=⟨w.heap.size+1,n3.toNat,none⟩) (by show w.heap.size≤w.heap.size+1;omega) (.bool true)))
     have hs4:w.heap.size+2≤(w3.setCell ⟨w.heap.size+1,n3.toNat,none⟩ (.bool true)).heap.size:=by rw[World.size_setCell];exact hsz3
     have hc:(w3.cell? ⟨w.heap.size+1,n3.toNat,none⟩).isSome=true:=by have:=(HF3.out.there n3.toNat (by omega)).1;rw[Nat.zero_add]at this;exact this
     obtain⟨v3,hv3⟩:=Option.isSome_iff_exists.1 hc
     clear hc
     have hz3:=HF3.out.z n3.toNat
     obtain⟨k3,hk3⟩:∃k:Nat,n3=(k:Int):=⟨n3.toNat,by omega⟩
     subst hk3
     rw[Int.toNat_natCast]at*
     go_wp2_with fail
     clear hv3 hz3
     generalize w3.setCell ⟨w.heap.size+1,k3,none⟩ (.bool true)=X4 at*
     go_roundg g'
     case measure=>have:=HGK.out;omega
     case rel=>
      exact⟨set1 f k3,k3,st3,rfl,hb1,hb2,hl2,by have:=HGK.out;omega,HE.out,HR4.out,HT4.out,HZ4.out,HG4.out,hs4⟩
end Go.Proofs.Ytgjgjgihceijnaa

