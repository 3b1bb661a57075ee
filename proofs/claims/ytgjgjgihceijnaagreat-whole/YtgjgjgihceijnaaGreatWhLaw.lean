/- Whole holds: whatever the rule file and the input: Compile answers as the reference does, and where there is an image, Scan by it tells the longest words of the first rules, condition by condition, by the expressions alone. No condition. -/
import Derived.Test.YtgjgjgihceijnaaGreatG53
import Derived.Test.YtgjgjgihceijnaaGreatG54
import Derived.Test.YtgjgjgihceijnaaGreatRows
import Derived.ProofKit
import Derived.OpenShut
import Derived.ShutString
import Derived.ChangeOld
import Derived.Below
open ByteArray renaming empty->aL
set_option maxRecDepth 100000
set_option maxHeartbeats 8000000
namespace Go.Stn
theorem Qv {s inp:ByteArray}(hi:fV s=true)(hin:inp.size<=300):(rC s inp 0).1.length<=1000:=by
 have hm:=(nJ hi).2.2.1;have:∀(f p c:Nat) (H:List (Int×Int×Int)) (n:Nat) (T:List (Int×Int×Int)),c<iM s->(vV s inp f p c H n T).1.length<=T.length+f:=by
  intro f
  induction f with
  | zero=>intro p c H n T _;simp[vV]
  | succ e ih=>
   intro p c H n T hc;by_cases hlt:p<inp.size
   ·rcases yG hi hc (Nat.le_of_lt hlt)with hno | ⟨r,q,hyes,hr,hpq,hq⟩
    ·rw[zN hlt hno];simp
    ·rw[zP hlt hyes];have:=uI hi hr;have:=ih q (if 1<fE s r then fE s r - 2 else c) (H++(eW s inp c H p).1) (n+(eW s inp c H p).2) (if fE s r=1 then T else T++ [((r:Int),(p:Int),(q:Int))]) (by split<;> omega);refine Nat.le_trans this ?_;split<;> simp<;> omega
   ·rw[I1 hlt];simp
 have:=this (inp.size+1) 0 0 [] 0 [] (by omega);unfold rC;simp at this ⊢;omega
end Go.Stn
namespace Go.Proofs.YtgjgjgihceijnaaGreat
open Go.ChangeShapes Go.WideShapes Go.ChangeAt Go.RowKit Go.Stn
open Go.ChangeMaps (open_string shut_string)
theorem Ct (a:List (Int×Int×Int)):Stn.gA a a=true:=by unfold Stn.gA;simp
theorem Mx {t:ByteArray}(h:(gQ t).2=0):∃ls,lV t=(some ls,0)/\mC (ls.map toX) ⟨(gQ t).1.toArray⟩:=by
 obtain⟨hr1,hr2⟩:=vM t
 cases hR:lV t with
 | mk o c=>
  cases o with
  | none=>
   exfalso;obtain⟨hc0,hpc⟩:=hr1 c hR;rcases pQ t with⟨_,h2⟩ | ⟨h1,_⟩
   ·rw[h2]at h;have h:dD t=0:=h;omega
   ·omega
  | some ls=>
   obtain⟨hp0,hfx,hn10,_,_⟩:=hr2 ls c hR;have hc:c=0:=by
    unfold lV at hR;split at hR
    ·injection hR with h _;cases h
    ·split at hR
     ·injection hR with h _;cases h
     ·split at hR
      ·injection hR with h _;cases h
      ·split at hR
       ·injection hR with h _;cases h
       ·injection hR with _ h;exact h.symm
   subst hc;refine⟨ls,rfl, ?_⟩;rcases pQ t with⟨h1,_⟩ | ⟨_,l',hl',hs,h1 | ⟨tb,h1,h2⟩⟩
   ·exact absurd hp0 h1
   ·rw[h1.1]at h;cases h
   ·rw[hfx]at hl';injection hl' with hl';subst hl';obtain⟨o1,o2,o3⟩:=lY hfx;rw[h2];exact I4 o1 o2 o3 hs h1
theorem Gc (t inp:ByteArray)(hin:inp.size<=maxLen)(w:World):
  Calls Tryz.prog 3 #[.string t,.string inp] w fun e w'=>e= .returned (.bool true)/\Below w.heap.size w w':=by
 have HP:=aA (fun w=>Ca t w);have HR:=aA (fun w=>S6 t w);have HFINE:=aA (fun h=>Mx (t:=t) h);obtain⟨n,en⟩:∃n,(gQ t).2=n:=⟨_,rfl⟩
 obtain⟨s,es⟩:∃s:ByteArray,⟨(gQ t).1.toArray⟩=s:=⟨_,rfl⟩
 rw[en,es]at HP HR HFINE;clear en es;have d2:(n !=n)=false:=by simp
 go_enter Tryz.func3,Tryz.ntmps3;go_wp2_with fail;refine(Mz _).mono ?_;rintro e w1 ⟨rfl,hb1⟩;have HB1:=aA hb1;clear hb1;go_wp2_with fail;refine(HP.out _).mono ?_;rintro e w2 ⟨rfl,hb2⟩;have HB2:=aA (HB1.out.trans (hb2.mono HB1.out.size));clear hb2 HB1;go_wp2_with fail;refine(HR.out _).mono ?_;rintro e w3 ⟨rfl,hb3⟩;have HB3:=aA (HB2.out.trans (hb3.mono HB2.out.size));clear hb3 HB2;go_wp2_with fail;refine(Jn _ _).mono ?_;rintro e w4 ⟨rfl,hw4⟩;rw[hw4];clear hw4 w4;by_cases hn:n=0
 ·subst hn;by_cases hbig:300<inp.size
  ·have d3:decide ((300:Int)<(inp.size:Int))=true:=by simp;omega
   go_wp2;go_ret;exact⟨rfl,HB3.out⟩
  ·have d3:decide ((300:Int)<(inp.size:Int))=false:=by simp;omega
   obtain⟨ls,hrd,him⟩:=HFINE.out rfl;have hsc:pW s inp=((rC s inp 0).1,(rC s inp 0).2.1,0):=by
    unfold pW;rw[if_neg (by have:=him.sz;omega),if_pos him.ok]
   have HPS:=aA (fun w=>Ks s inp w (by have:=him.sz;unfold maxLen;omega) hin);rw[hsc]at HPS;have HTK:=aA (fun w=>Bs t inp (by omega) hrd him w);have hlen:=Qv (inp:=inp) him.ok (by omega);generalize (rC s inp 0).2.1=k at*;generalize (rC s inp 0).1=T at*;clear hsc him hrd HFINE HP HR;go_wp2_with fail;refine(HPS.out _).mono ?_;rintro e w5 ⟨v1,rfl,hr5,hb5⟩;have HR5:=aA hr5;have HB5:=aA (HB3.out.trans (hb5.mono HB3.out.size));clear hr5 hb5 HB3;go_wp2_with fail;refine(HTK.out _).mono ?_;rintro e w6 ⟨v2,rfl,hr6,hb6⟩;have HR6:=aA hr6;have HR7:=aA (HR5.out.below hb6 (Nat.le_refl _));have HB6:=aA (HB5.out.trans (hb6.mono HB5.out.size));clear hr6 hb6 HR5 HB5;go_wp2_with fail;refine(Ph T T v1 v2 _ _ _ (by omega) (by omega) HR7.out HR6.out).mono ?_;rintro e w7 ⟨rfl,q,hw7⟩;rw[Ct,hw7];clear hw7;go_wp2;go_ret;exact⟨rfl,⟨HB6.out.os,HB6.out.tape,HB6.out.output,HB6.out.size,HB6.out.block⟩⟩
 ·have d3:(n !=0)=true:=by rw[bne_iff_ne];exact hn
  clear hn;go_wp2;go_ret;exact⟨rfl,HB3.out⟩
theorem Lm:ownKnob Tryz.prog.godebug=none:=by kernel_rfl
theorem V4 (os:Os)(started:os.Started)(H:Type)(enc:TypeId×Value->H):
  ReturnsInHanded {} Tryz.checked os 3 .any (Rows.wholeSpec.pre6 enc Tryz.prog Tryz.f3 Rows.wholeRow.domain false) (Rows.wholeSpec.post enc Tryz.prog Tryz.f3 false true false false):=by
 refine returnsInHanded_of_change (C:=Tryz.checked) Lm started (by kernel_rfl) Tryz.func3
  (ChangeSpec.witness6 (enc:=enc) (C:=Tryz.checked) false ⟨#[], #[.string aL,.string aL],[]⟩ 8 (by kernel_rfl) (by kernel_rfl) (by kernel_rfl) (by kernel_rfl)) ?_
 intro W base args ds gs before hval0 hW hcnd _;have hval:∀(j:Nat) t v,Tryz.f3.params[j]? =some t->args[j]? =some v->Value.okWide Tryz.prog W .any base t v:=hval0;have hW':=hW;obtain⟨p,q,hA0,hV,rfl,hfz,hnd⟩:=hW;have hA:DataW.TrodAll enc Tryz.prog W 0 (fun _=>true) true Tryz.f3.params.toList args.toList ds p:=hA0;rw[Tryz.params3]at hA hval;obtain⟨v0,vs0,d0,ds0,p0,q0,hargs,rfl,rfl,h0,r0⟩:=trodAll_cons hA;obtain⟨v1,vs1,d1,ds1,p1,q1,rfl,rfl,rfl,h1,r1⟩:=trodAll_cons r0;obtain⟨rfl,rfl,rfl⟩:=trodAll_nil r1;obtain rfl:args= #[v0,v1]:=by cases args;simp_all
 obtain⟨rfl,rfl⟩:=trodVars_none hV;obtain⟨a0,rfl,rfl,rfl,w0⟩:=open_string Tryz.underlying9 (hval 0 9 v0 rfl rfl) h0;obtain⟨a1,rfl,rfl,rfl,w1⟩:=open_string Tryz.underlying9 (hval 1 9 v1 rfl rfl) h1;clear hA0 hval0;refine(Gc a0 a1 w1 W).mono fun e W' ⟨he,bel⟩=> ?_
 subst he;exact⟨_,rfl,_,_,_,[],_,[],hW',trodAll_mk1 (shut_bool Tryz.underlying4 _),trodAll_cons_mk (shut_string Tryz.underlying9 w0) (trodAll_cons_mk (shut_string Tryz.underlying9 w1) trodAll_mk0),rfl,bel.frame _,fun h=>by cases h⟩
theorem whole_holds:Rows.WholeSaid:=
 OpenClaim.holds_of_wide 3 Tryz.f3 rfl rfl rfl rfl rfl rfl rfl ⟨rfl,rfl,rfl,rfl,rfl⟩ rfl rfl rfl rfl rfl (by kernel_rfl) Tryz.func3 (by kernel_rfl)
  (of_decide_eq_true (by kernel_rfl)) (by unfold Func.isWrapper;first | (rw[if_pos (by decide+kernel)];kernel_rfl) | (rw[if_neg (by decide+kernel)];exact⟨rfl,rfl⟩))
  (fun os started H enc _=>V4 os started H enc)
end Go.Proofs.YtgjgjgihceijnaaGreat
