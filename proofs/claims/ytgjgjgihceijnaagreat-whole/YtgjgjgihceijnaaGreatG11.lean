import Derived.Test.YtgjgjgihceijnaaGreatG10
import Derived.Deep.RegionLaw
import Derived.Deep.Cut
import Derived.Deep.DrawnRows
import Derived.Great.BuildSlice
open Go.World renaming cell?_alloc_new->aL
open Go.RowKit.Below renaming refl->aO
open List renaming length_singleton->aR,length_append->bC
open Nat renaming le_refl->aT
open Go.Value renaming slice->bD
set_option maxRecDepth 100000
set_option maxHeartbeats 8000000
namespace Go.Proofs.YtgjgjgihceijnaaGreat
open Go.RowKit Go.Stn
theorem Tryz.infoNode:(Tryz.prog.info? 162).map (fun i=>(i.zero,i.size,i.bytes))=some (some (.agg #[.int .i64 0,.int .i64 0,.int .i64 0]),3,24):=by kernel_rfl
theorem tX (t:ByteArray)(st:PSt)(x y z:Int)(rb base:Nat)(vr vn vp:Value)(w:World)(h:Rd w rb base w.heap.size t st vr vn vp)(hn:st.nodes.length<=100000):
  Calls Tryz.prog 115 #[.pointer (some ⟨rb,0,none⟩),.agg #[.int .i64 x,.int .i64 y,.int .i64 z]] w fun e w'=>e= .returned (.int .i64 st.nodes.length)/\R5 w rb base t vr vn vp (lE (x,y,z) st) w':=by
 have HR0:=aE (h.below ((aO _ _).alloc (aT _) (.cells #[.int .i64 x,.int .i64 y,.int .i64 z] 162)));have HB0:=aE ((aO w.heap.size w).alloc (aT _) (.cells #[.int .i64 x,.int .i64 y,.int .i64 z] 162));have g0:(w.alloc (.cells #[.int .i64 x,.int .i64 y,.int .i64 z] 162)).cell? ⟨w.heap.size,0,none⟩=some (.int .i64 x):=by rw[aL];rfl
 have g1:(w.alloc (.cells #[.int .i64 x,.int .i64 y,.int .i64 z] 162)).cell? ⟨w.heap.size,1,none⟩=some (.int .i64 y):=by rw[aL];rfl
 have g2:(w.alloc (.cells #[.int .i64 x,.int .i64 y,.int .i64 z] 162)).cell? ⟨w.heap.size,2,none⟩=some (.int .i64 z):=by rw[aL];rfl
 have hsz0:(w.alloc (.cells #[.int .i64 x,.int .i64 y,.int .i64 z] 162)).heap.size=w.heap.size+1:=by simp
 go_enter Tryz.func115,Tryz.ntmps115;go_wp2_with fail;generalize w.alloc (.cells #[.int .i64 x,.int .i64 y,.int .i64 z] 162)=W at*;have c3:=HR0.out.c3;have hrb:rb<w.heap.size:=by have:=h.hb;have:=h.hbt;omega
 have hbs:base<=W.heap.size:=by have:=h.hbt;omega
 have hrne:some rb≠vn.ownBlock:=fun e=>by have:=h.rn.lt rb e.symm;have:=h.hb;omega
 have f3:=HR0.out.fz 3;go_region_law ((refine lT W.drew rfl (.tmp 10) (.tmp 12) 41 rfl base 162 (.agg #[.int .i64 0,.int .i64 0,.int .i64 0]) 3 24 Tryz.underlying41 Tryz.infoNode rfl (by decide) (by decide) vn st.nodes.length (qD st.nodes) [.int .i64 x,.int .i64 y,.int .i64 z] _ (by simp[Act.eval]) HR0.out.rn _ rfl (by simp[Act.eval]) rfl (by simp[Value.oneCell']) (by omega) hbs ?_;intro g4 cap4 w4 hown4 hgrow4 hat4 hlt4;have m3:=((bG hgrow4 (k:=rb) (by show rb<W.heap.size;omega) hrne).1 3).trans c3;have n3:=((bG hgrow4 (k:=rb) (by show rb<W.heap.size;omega) hrne).2 3).trans f3;have HM:=aE (HR0.out.drew.moreN (x:=(x,y,z)) hown4 hgrow4 hat4 hlt4)))
 all_goals
  go_wp2;go_ret;refine⟨?_,_,_,_,HM.out.1.raise,(Fr.of_grown (bU HB0.out (aT _) (some rb))).trans HM.out.2.of_drew⟩
  first | rfl | (simp;done) | (congr 2;omega)
end Go.Proofs.YtgjgjgihceijnaaGreat
namespace Go.Proofs.YtgjgjgihceijnaaGreat
open Go.RowKit Go.Stn
theorem Ms (f:Nat->Bool)(cells:Array Value)(h:cells.size=256):Instr.fill (fun i=>some (i*256,256)) cells [(0,.agg (aV f).toArray)]=some (aV f).toArray:=by
 have hf:=Go.Great.fill_whole (s:=256) (by decide) [.agg (aV f).toArray] cells (fun v hv=>by rw[List.mem_singleton]at hv;subst hv;exact bH f) (by simp[h]);have e:([Value.agg (aV f).toArray].flatMap fun v=>v.cells.toList).toArray=(aV f).toArray:=by simp[Value.cells]
 rw[e]at hf;exact hf
def L4 (v:Value):Array Value:=match v with
 | .agg cs=>cs
 | _=> #[]
def Bp (v:Value):Prop:=∃f,v= .agg (aV f).toArray
theorem Tryz.infoBytes:(Tryz.prog.info? 158).map (fun i=>(i.zero,i.size,i.bytes))=some (some (.agg Tryz.zeroCells158),256,256):=by kernel_rfl
theorem Tryz.wpBuildBits {d:Option Tmp}{x:Operand}{ty:TypeId}{p:String}{af:Array Edge}{gd:Option (Nat×Bool)}{a:Act}{X:World}{K:Act->World->Prop}{Q:Exit->Act->World->Prop}
  (h:Bp (a.eval x)):
  Oper.wp Tryz.prog {dst:=d,op:= .buildSlice 42 1 #[(0,x)],type:=ty,pos:=p,after:=af,guard:=gd} a X K Q=K (a.put d (.slice (some ⟨X.heap.size,0,none⟩) 1 1)) (X.alloc (.cells (L4 (a.eval x)) 158)):=by
 obtain⟨f,hf⟩:=h;obtain⟨i,hi,hz,hsize,hb⟩:=info_parts Tryz.infoBytes;have hr:=run_buildSlice (P:=Tryz.prog) X 42 158 1 #[(0,.agg (aV f).toArray)] (aV f).toArray i _ Tryz.underlying42 hi hz (by rw[hsize];decide) (by rw[hsize];decide)
  (by rw[hsize];exact Ms f _ (by simp))
 unfold Oper.wp execOp;simp only[List.map_toArray,List.map_cons,List.map_nil,hf,Sem.run_bind,hr,Result.andThen_ok,L4]
 rfl
def Gb (X:World)(v:Value):Nat->Bool:=match v with
 | .pointer (some a)=>yK X a.block
 | _=>fun _=>false
def T6 (X:World)(v:Value):Prop:=∃B,v= .pointer (some ⟨B,0,none⟩)/\In X B
theorem Tryz.wpLoadBits {d:Option Tmp}{x:Operand}{ty:TypeId}{p:String}{af:Array Edge}{gd:Option (Nat×Bool)}{a:Act}{X:World}{K:Act->World->Prop}{Q:Exit->Act->World->Prop}
  (h:T6 X (a.eval x)):
  Oper.wp Tryz.prog {dst:=d,op:= .load 158 x,type:=ty,pos:=p,after:=af,guard:=gd} a X K Q=K (a.put d (.agg (aV (Gb X (a.eval x))).toArray)) X:=by
 obtain⟨B,hx,hb⟩:=h;have hr:=run_loadVar_mid (P:=Tryz.prog) X B 0 158 (aV (yK X B)) _ hb Tryz.underlying158 rfl (by rw[aS];exact Tryz.bytesSize);unfold Oper.wp execOp;simp only[hx,Instr.loadAt,Instr.sureAddr,Sem.run_bind,Sem.run_pure,Result.andThen_ok,hr,Gb]
 rfl
attribute [local go_sem] L4
attribute [local go_sem ↓] Go.wp_at_zero Go.wp_at_succ Tryz.wpBuildBits Tryz.wpLoadBits
theorem Ll (t:ByteArray)(st:PSt)(rb base:Nat)(vr vn vp:Value)(w:World)(ht:t.size<=120)(hat:st.at_<=t.size)(h:Rd w rb base w.heap.size t st vr vn vp)(hn:st.nodes.length<=1000)(hpl:st.places.length<=1000):
  Calls Tryz.prog 133 #[.pointer (some ⟨rb,0,none⟩)] w fun e w'=>e= .returned (.tuple #[.int .i64 (kQ t st).1,.bool (kQ t st).2.1])/\R5 w rb base t vr vn vp (kQ t st).2.2 w':=by
 have hrb:rb<w.heap.size:=by have:=h.hb;have:=h.hbt;omega
 have hc1:=Ci t st rb base vr vn vp w ht hat h;have hY:(bA t st).2.1=true->kQ t st=(((bA t st).2.2.nodes.length:Int),true,lE (0,((bA t st).2.2.places.length:Int),0) (Rs (bA t st).1 (bA t st).2.2)):=fun hq=>by unfold kQ;rw[if_pos hq]
 have hN:(bA t st).2.1=false->kQ t st=(0,false,(bA t st).2.2):=fun hq=>by unfold kQ;rw[if_neg (by rw[hq];decide)]
 have hsm:=qY t st;generalize bA t st=M at*;obtain⟨f,ok,st1⟩:=M;simp only at hc1 hY hN hsm;have hn1:st1.nodes.length<=1000:=by rw[hsm.2.1];exact hn
 have hp1:st1.places.length<=1000:=by rw[hsm.2.2];exact hpl
 clear hsm;have HY:=aE hY;have HN:=aE hN;clear hY hN;go_enter Tryz.func133,Tryz.ntmps133;go_wp2_with fail;refine hc1.mono ?_;rintro e w1 ⟨rfl,hg1,hr1⟩;have HN1:=aE (bI w1 Tryz.zeroCells158 158 _ 256 Tryz.bytesZero rfl);have hsz1:=hg1.size;clear hc1;have HR2:=aE (((h.retop hr1 hsz1).below ((aO _ _).alloc (by omega) (.cells Tryz.zeroCells158 158))).below (aD (aV f) 0 _ w1.heap.size (aO w.heap.size _) (by omega)));have HG2:=aE (iU (dG hg1 (.cells Tryz.zeroCells158 158)) w1.heap.size 0 (aV f) (by omega));have HF2:=aE (World.rangeAt_setCells_same (w1.alloc (.cells Tryz.zeroCells158 158)) w1.heap.size 0 (aV f) (by rw[aS];exact HN1.out));have HZ2:Hid (w1.heap.size<((w1.alloc (.cells Tryz.zeroCells158 158)).setCells w1.heap.size 0 (aV f)).heap.size):=by
  unfold Hid;have:=(aD (aV f) 0 (w1.alloc (.cells Tryz.zeroCells158 158)) w1.heap.size (aO 0 _) (Nat.zero_le _)).size;simp at this;omega
 have HG1:=aE hg1;clear hg1 hr1;go_upto_region 2 with(first | (refine qP rfl 158 (.tmp 4) (.tmp 10) rfl w1.heap.size 0 f ?_ ?_ ?_ Tryz.bytesSize ?_;rfl;rfl;exact HN1.out))
 generalize (w1.alloc (.cells Tryz.zeroCells158 158)).setCells w1.heap.size 0 (aV f)=X at*;have HB1:Hid (w.heap.size<=w1.heap.size):=hsz1;clear HN1 HG1 hsz1;generalize w1.heap.size=B1 at*
 cases ok with
 | false=>
  have HE:=aE (HN.out rfl);go_wp2;go_ret2;rw[HE.out];exact⟨rfl,_,_,_,HR2.out.raise,Fr.of_grown HG2.out⟩
 | true=>
  have HE:=aE (HY.out rfl);obtain⟨av,cv,hvp⟩:=aK HR2.out.rp;subst hvp;have c4:=HR2.out.c4;have f4:=HR2.out.fz 4;go_wp2_with fail;have hrne:some rb≠(bD av st1.places.length cv).ownBlock:=fun e=>by have:=HR2.out.rp.lt rb e.symm;have:=h.hb;omega
  have hbs:base<=X.heap.size:=by have:=HR2.out.hbt;have:=HR2.out.hz;omega
  have hag:Bp (.agg (aV f).toArray):=⟨f,rfl⟩
  have hrz:rb<X.heap.size:=by have:=HR2.out.hz;omega
  have hu:=Tryz.underlying158;have hi:(Tryz.prog.info? 158).map (·.size)=some (aV f).length:=by rw[aS];exact Tryz.bytesSize
  have hll:=aS f;have hoc:=fH f;have hF:=HF2.out;have hB1z:B1<X.heap.size:=HZ2.out;have hB1n:some B1≠(bD av st1.places.length cv).ownBlock:=fun e=>by have:=HR2.out.lp B1 e.symm;have:=HB1.out;omega
  have hB1r:rb≠B1:=by have:=HB1.out;omega
  obtain⟨hbq0,hib⟩:=Mp (X:=X.drew) (B:=B1) (f:=f) hF;have hlb:T6 X.drew (.pointer (some ⟨B1,0,none⟩)):=⟨B1,rfl,hib⟩
  have hbq:aV (Gb X.drew (.pointer (some ⟨B1,0,none⟩)))=aV f:=hbq0;clear hbq0 hib hu hi hll hoc;go_region_law ((refine lT X.drew rfl (.tmp 25) (.tmp 27) 42 rfl base 158 (.agg Tryz.zeroCells158) 256 256 Tryz.underlying42 Tryz.infoBytes Tryz.bytesZero (by decide) (by decide) _ st1.places.length (zS st1.places) (aV f) _ (by simp[Act.eval]) HR2.out.rp _ rfl (by simp[Act.eval]) (aS f) (fH f) (by omega) hbs ?_;intro g4 cap4 w4 hown4 hgrow4 hat4 hlt4;have m3:=((bG hgrow4 (k:=rb) hrz hrne).1 4).trans c4;have n3:=((bG hgrow4 (k:=rb) hrz hrne).2 4).trans f4;have hF4:w4.rangeAt B1 0 (aV f):=fun j v hv=>((bG hgrow4 (k:=B1) hB1z hB1n).1 (0+j)).trans (hF j v hv);have HM:=aE (HR2.out.drew.moreP (x:=f) hown4 hgrow4 hat4 hlt4)))
  all_goals
   have hk5:=HM.out.1.raise;have HK5:=aE hk5;have HF5:=aE ((Fr.of_grown HG2.out).trans HM.out.2.of_drew);clear hk5;generalize w4.setCell ⟨rb,4,none⟩ (.slice (some ⟨g4,0,none⟩) (st1.places.length+1) cap4)=w5 at*;go_wp2_with fail;refine(tX t (Rs f st1) 0 (st1.places.length:Int) 0 rb base _ _ _ w5 HK5.out (by show st1.nodes.length<=100000;omega)).mono ?_;rintro e w6 ⟨rfl,vr6,vn6,vp6,hr6,hf6⟩;have HR6:=aE hr6;have HF6:=aE (HF5.out.trans hf6);clear hr6 hf6;go_wp2;go_ret2;rw[HE.out];exact⟨rfl,_,_,_,HR6.out,HF6.out⟩
end Go.Proofs.YtgjgjgihceijnaaGreat
namespace Go.Proofs.YtgjgjgihceijnaaGreat
open Go.RowKit Go.Stn
def Few (st:PSt):Prop:=st.nodes.length<=3*st.at_/\st.places.length<=st.at_
theorem Few.gr {t:ByteArray}{a b:PSt}(h:Few a)(g:Gr t a b):Few b:=by
 obtain⟨h1,h2⟩:=h;obtain⟨g1,g2,g3,g4⟩:=g;exact⟨by omega,by omega⟩
theorem Few.adv {a:PSt}(h:Few a):Few (Go.Stn.adv a):=by
 obtain⟨h1,h2⟩:=h;refine⟨?_, ?_⟩
 ·show a.nodes.length<=3*(a.at_+1);omega
 ·show a.places.length<=a.at_+1;omega
def oX (fn:Nat)(t:ByteArray)(F:PSt->Int×Bool×PSt)(st:PSt):Prop:=
 ∀(rb base:Nat) (vr vn vp:Value) (w:World),st.at_<=t.size->Few st->Rd w rb base w.heap.size t st vr vn vp->
  Calls Tryz.prog fn #[.pointer (some ⟨rb,0,none⟩)] w fun e w'=>e= .returned (.tuple #[.int .i64 (F st).1,.bool (F st).2.1])/\R5 w rb base t vr vn vp (F st).2.2 w'
theorem Ed (t:ByteArray)(st:PSt)(rb base:Nat)(vr vn vp:Value)(w:World)(h:Rd w rb base w.heap.size t st vr vn vp):
  Calls Tryz.prog 122 #[.pointer (some ⟨rb,0,none⟩)] w fun e w'=>e= .returned (.bool (gD t st))/\∃q,w'=w.drewN q:=by
 have HE:Hid (gD t st=(decide (aJ t st.at_=40\/aJ t st.at_=91\/aJ t st.at_=46\/aJ t st.at_=92) || dY (aJ t st.at_) dM)):=rfl;go_enter Tryz.func122,Tryz.ntmps122;go_wp2_with fail;refine(pG t st rb base w.heap.size vr vn vp _ h).mono ?_;rintro e w1 ⟨rfl,q,rfl⟩;clear h;generalize aJ t st.at_=p at*;by_cases h1:p=40
 ·have HY:Hid (gD t st=true):=by unfold Hid;rw[HE.out];simp[h1]
  have b1:(p==40)=true:=beq_iff_eq.2 h1;clear h1;go_wp2_with fail;go_ret;exact⟨by rw[HY.out];rfl,q,rfl⟩
 have b1:(p==40)=false:=beq_eq_false_iff_ne.2 h1;by_cases h2:p=91
 ·have HY:Hid (gD t st=true):=by unfold Hid;rw[HE.out];simp[h2]
  have b2:(p==91)=true:=beq_iff_eq.2 h2;clear h1 h2;go_wp2_with fail;go_ret;exact⟨by rw[HY.out];rfl,q,rfl⟩
 have b2:(p==91)=false:=beq_eq_false_iff_ne.2 h2;by_cases h3:p=46
 ·have HY:Hid (gD t st=true):=by unfold Hid;rw[HE.out];simp[h3]
  have b3:(p==46)=true:=beq_iff_eq.2 h3;clear h1 h2 h3;go_wp2_with fail;go_ret;exact⟨by rw[HY.out];rfl,q,rfl⟩
 have b3:(p==46)=false:=beq_eq_false_iff_ne.2 h3;by_cases h4:p=92
 ·have HY:Hid (gD t st=true):=by unfold Hid;rw[HE.out];simp[h4]
  have b4:(p==92)=true:=beq_iff_eq.2 h4;clear h1 h2 h3 h4;go_wp2_with fail;go_ret;exact⟨by rw[HY.out];rfl,q,rfl⟩
 have b4:(p==92)=false:=beq_eq_false_iff_ne.2 h4;have HY:Hid (gD t st=dY p dM):=by unfold Hid;rw[HE.out];simp[h1,h2,h3,h4]
 clear h1 h2 h3 h4;go_wp2_with fail;refine(yH p dM _ I6).mono ?_;rintro e w2 ⟨rfl,rfl⟩;go_wp2;go_ret;exact⟨by rw[HY.out];rfl,q,rfl⟩
theorem Ql (t:ByteArray)(ex:PSt->Int×Bool×PSt)(st:PSt)(ht:t.size<=120)(hx:I5 t ex)(hex:aM t 40 st=true->oX 95 t ex (adv st)):
  oX 127 t (cX t ex) st:=by
 intro rb base vr vn vp w hat hfew h
 cases h1:aM t 40 st with
 | false=>
  have HE:Hid (cX t ex st=kQ t st):=by unfold Hid cX;rw[if_neg (by rw[h1];decide)]
  have hf:=hfew;obtain⟨hf1,hf2⟩:=hf;go_enter Tryz.func127,Tryz.ntmps127;go_wp2_with fail;refine(dV t st 40 rb base vr vn vp _ ht hat h).mono ?_;rintro e w1 ⟨rfl,hg1,hr1⟩;rw[fO h1]at hr1;rw[h1];have HG1:=aE hg1;go_wp2_with fail;refine(Ll t st rb base vr vn vp _ ht hat hr1 (by omega) (by omega)).mono ?_;rintro e w2 ⟨rfl,vr2,vn2,vp2,hr2,hf2'⟩;have HR2:=aE hr2;have HF2:=aE ((Fr.of_grown HG1.out).trans hf2');clear hr2 hf2' hr1 hg1;go_wp2;go_ret2;rw[HE.out];exact⟨rfl,_,_,_,HR2.out,HF2.out⟩
 | true=>
  have hlt:=bV (by omega) h1;have hq:=hex h1;have hgr:=hx (adv st) (oL hlt);have HY:Hid ((ex (adv st)).2.1=true/\aM t 41 (ex (adv st)).2.2=true->cX t ex st=((ex (adv st)).1,true,adv (ex (adv st)).2.2)):=by
   intro hc;unfold cX;rw[if_pos h1,if_pos hc]
  have HN:Hid (¬((ex (adv st)).2.1=true/\aM t 41 (ex (adv st)).2.2=true)->cX t ex st=(0,false,(ex (adv st)).2.2)):=by
   intro hc;unfold cX;rw[if_pos h1,if_neg hc]
  go_enter Tryz.func127,Tryz.ntmps127;go_wp2_with fail;refine(dV t st 40 rb base vr vn vp _ ht hat h).mono ?_;rintro e w1 ⟨rfl,hg1,hr1⟩;rw[dU h1]at hr1;rw[h1];have hc2:=hq rb base vr vn vp w1 (oL hlt) hfew.adv hr1;have HG1:=aE hg1;clear hg1 hq hex;generalize ex (adv st)=M at*;obtain⟨n2,ok2,st2⟩:=M;simp only at hc2 hgr HY HN;have hat2:st2.at_<=t.size:=hgr.2.1;go_wp2_with fail;refine hc2.mono ?_;rintro e w2 ⟨rfl,vr2,vn2,vp2,hr2,hf2⟩;have HF2:=aE ((Fr.of_grown HG1.out).trans hf2);clear hf2 hc2 hr1 hgr
  cases ok2 with
  | false=>
   have HE:=aE (HN.out (by simp));have HR2:=aE hr2;clear hr2;go_wp2_with fail;go_ret2;rw[HE.out];exact⟨rfl,_,_,_,HR2.out,HF2.out⟩
  | true=>
   go_wp2_with fail;refine(dV t st2 41 rb base vr2 vn2 vp2 _ ht hat2 hr2).mono ?_;rintro e w3 ⟨rfl,hg3,hr3⟩;have HF3:=aE (HF2.out.trans (Fr.of_grown hg3));clear hg3 hr2
   cases h3:aM t 41 st2 with
   | true=>
    rw[dU h3]at hr3;have HR3:=aE hr3;have HE:=aE (HY.out (by simp[h3]));clear hr3;go_wp2;go_ret2;rw[HE.out];exact⟨rfl,_,_,_,HR3.out,HF3.out⟩
   | false=>
    rw[fO h3]at hr3;have HR3:=aE hr3;have HE:=aE (HN.out (by rw[h3];simp));clear hr3;go_wp2;go_ret2;rw[HE.out];exact⟨rfl,_,_,_,HR3.out,HF3.out⟩
theorem Ro {p:Int}(h1:p≠63)(h2:p≠43)(h3:p≠42):fN p=0:=by unfold fN;rw[if_neg h1,if_neg h2,if_neg h3]
theorem S1 (t:ByteArray)(ex:PSt->Int×Bool×PSt)(st:PSt)(ht:t.size<=120)(hx:I5 t ex)(hex:aM t 40 st=true->oX 95 t ex (adv st)):
  oX 121 t (cE t ex) st:=by
 intro rb base vr vn vp w hat hfew h;have hc1:=Ql t ex st ht hx hex rb base vr vn vp w hat hfew h;have hgr:=(Cm hx hat).gr;have HN:Hid ((cX t ex st).2.1=false->cE t ex st=(0,false,(cX t ex st).2.2)):=by
  intro hc;unfold cE;rw[if_neg (by rw[hc];decide)]
 have HP:Hid ((cX t ex st).2.1=true->fN (aJ t (cX t ex st).2.2.at_)=0->cE t ex st=((cX t ex st).1,true,(cX t ex st).2.2)):=by
  intro hc hm;unfold cE;rw[if_pos hc,if_pos hm]
 have HM:Hid ((cX t ex st).2.1=true->fN (aJ t (cX t ex st).2.2.at_)≠0->cE t ex st=(((cX t ex st).2.2.nodes.length:Int),true,lE (fN (aJ t (cX t ex st).2.2.at_),(cX t ex st).1,0) (adv (cX t ex st).2.2))):=by
  intro hc hm;unfold cE;rw[if_pos hc,if_neg hm]
 have HFW:=aE (hfew.gr hgr);clear hex;generalize cX t ex st=M at*;obtain⟨n1,ok1,st1⟩:=M;simp only at hc1 hgr HN HP HM HFW;have hat1:st1.at_<=t.size:=hgr.2.1;clear hgr;go_enter Tryz.func121,Tryz.ntmps121;go_wp2_with fail;refine hc1.mono ?_;rintro e w1 ⟨rfl,vr1,vn1,vp1,hr1,hf1⟩;have HF1:=aE hf1;clear hf1 hc1
 cases ok1 with
 | false=>
  have HE:=aE (HN.out rfl);have HR1:=aE hr1;clear hr1;go_wp2;go_ret2;rw[HE.out];exact⟨rfl,_,_,_,HR1.out,HF1.out⟩
 | true=>
  go_wp2_with fail;refine(pG t st1 rb base _ vr1 vn1 vp1 _ hr1).mono ?_;rintro e w2 ⟨rfl,q,rfl⟩;have HR2:=aE (hr1.drewN q).raise;have HF2:Hid (Fr w (w1.drewN q) rb vr vn vp vr1 vn1 vp1):=HF1.out.trans (Fr.of_grown (dB (World.grownBy.refl _ _) q));clear hr1 HF1;generalize w1.drewN q=w2 at*;have HPP:=aE (HP.out (by simp));have HMM:=aE (HM.out (by simp));clear HP HM HN;generalize hp:aJ t st1.at_=p at*;clear hp;have c1:=HR2.out.c1;have f1:=HR2.out.fz 1;have hnl:st1.nodes.length<=100000:=by have:=HFW.out.1;omega
  by_cases hm:p=63\/p=43\/p=42
  ·have HRA:=aE HR2.out.adv.raise;have HFA:Hid (Fr w (w2.setCell ⟨rb,1,none⟩ (.int .i64 ((st1.at_:Int)+1))) rb vr vn vp vr1 vn1 vp1):=HF2.out.trans (Fr.of_grown (fX (World.grownBy.refl _ _) _ _));rcases hm with rfl | rfl | rfl
   ·have HE:=aE (HMM.out (by decide));go_wp2_with fail;refine(tX t (adv st1) 3 n1 0 rb base vr1 vn1 vp1 _ HRA.out hnl).mono ?_;rintro e w3 ⟨rfl,vr3,vn3,vp3,hr3,hf3⟩;have HR3:=aE hr3;have HF3:=aE (HFA.out.trans hf3);clear hr3 hf3;go_wp2;go_ret2;rw[HE.out];exact⟨rfl,_,_,_,HR3.out,HF3.out⟩
   ·have HE:=aE (HMM.out (by decide));go_wp2_with fail;refine(tX t (adv st1) 4 n1 0 rb base vr1 vn1 vp1 _ HRA.out hnl).mono ?_;rintro e w3 ⟨rfl,vr3,vn3,vp3,hr3,hf3⟩;have HR3:=aE hr3;have HF3:=aE (HFA.out.trans hf3);clear hr3 hf3;go_wp2;go_ret2;rw[HE.out];exact⟨rfl,_,_,_,HR3.out,HF3.out⟩
   ·have HE:=aE (HMM.out (by decide));go_wp2_with fail;refine(tX t (adv st1) 5 n1 0 rb base vr1 vn1 vp1 _ HRA.out hnl).mono ?_;rintro e w3 ⟨rfl,vr3,vn3,vp3,hr3,hf3⟩;have HR3:=aE hr3;have HF3:=aE (HFA.out.trans hf3);clear hr3 hf3;go_wp2;go_ret2;rw[HE.out];exact⟨rfl,_,_,_,HR3.out,HF3.out⟩
  ·have h1:p≠63:=fun e=>hm (.inl e)
   have h2:p≠43:=fun e=>hm (.inr (.inl e))
   have h3:p≠42:=fun e=>hm (.inr (.inr e))
   have HE:=aE (HPP.out (Ro h1 h2 h3));have b1:(p==63)=false:=beq_eq_false_iff_ne.2 h1;have b2:(p==43)=false:=beq_eq_false_iff_ne.2 h2;have b3:(p==42)=false:=beq_eq_false_iff_ne.2 h3;clear hm h1 h2 h3;go_wp2;go_ret2;rw[HE.out];exact⟨rfl,_,_,_,HR2.out,HF2.out⟩
end Go.Proofs.YtgjgjgihceijnaaGreat
namespace Go.Proofs.YtgjgjgihceijnaaGreat
open Go.RowKit Go.Stn
theorem Ip (t:ByteArray)(ex:PSt->Int×Bool×PSt)(st:PSt)(ht:t.size<=120)(hx:I5 t ex)(hex:∀s,st.at_<=s.at_->aM t 40 s=true->oX 95 t ex (adv s)):
  oX 114 t (fR t ex) st:=by
 intro rb base vr vn vp w hat hfew h;have hc1:=S1 t ex st ht hx (hex st (aT _)) rb base vr vn vp w hat hfew h;have hgr:=(uD hx hat).gr;have HFW:=aE (hfew.gr hgr);have HA:Hid (fR t ex st=gX t ex (t.size+1) (cE t ex st).1 (cE t ex st).2.1 (cE t ex st).2.2):=rfl;have HEX:=aE hex;clear hex;generalize cE t ex st=M at*;obtain⟨n1,ok1,st1⟩:=M;simp only at hc1 hgr HFW HA;have hat1:st1.at_<=t.size:=hgr.2.1;have hlo1:st.at_<=st1.at_:=hgr.1;clear hgr;go_enter Tryz.func114,Tryz.ntmps114;go_wp2_with fail;refine hc1.mono ?_;rintro e w1 ⟨rfl,vr1,vn1,vp1,hr1,hf1⟩;have HR1:=aE hr1;have HF1:=aE hf1;clear hf1 hc1 hr1;go_wp2_with fail
 go_loopg [4,5] (t.size+1) (fun gk x y wr=>∃(whole:Int) (ok:Bool) (s:PSt) (vr2 vn2 vp2:Value),x= .int .i64 whole/\y= .bool ok/\st.at_<=s.at_/\s.at_<=t.size/\Few s/\(ok=true->t.size - s.at_<gk)/\fR t ex st=gX t ex gk whole ok s/\
  Rd wr rb base wr.heap.size t s vr2 vn2 vp2/\Fr w wr rb vr vn vp vr2 vn2 vp2)
 case atStart=>exact⟨n1,ok1,st1,vr1,vn1,vp1,rfl,rfl,hlo1,hat1,HFW.out,fun _=>by omega,HA.out,HR1.out,HF1.out⟩
 case round=>
  obtain⟨whole,ok,s,vr2,vn2,vp2,rfl,rfl,hlo,has,hfs,hfu,hal,hr,hf⟩:=hrel;have HL:=aE hal;have HF:=aE hf;have HFS:=aE hfs;have HFU:=aE hfu;clear hal hf hfs hfu HR1 HF1 HFW HA
  cases ok with
  | false=>
   have HE:Hid (fR t ex st=(whole,false,s)):=HL.out.trans (N8 t ex gk whole s);have HR:=aE hr;clear hr;go_wp2;go_ret2;rw[HE.out];exact⟨rfl,_,_,_,HR.out,HF.out⟩
  | true=>
   obtain⟨g',hg'⟩:∃g',gk=g'+1:=⟨gk - 1,by have:=HFU.out rfl;omega⟩
   have HGK:=aE hg';clear hg';have HUF:Hid (t.size - s.at_<gk):=HFU.out rfl;clear HFU;go_wp2_with fail;refine(Ed t s rb base vr2 vn2 vp2 _ hr).mono ?_;rintro e w3 ⟨rfl,q,rfl⟩;have hr3:=(hr.drewN q).raise;have HF3:Hid (Fr w (wr.drewN q) rb vr vn vp vr2 vn2 vp2):=HF.out.trans (Fr.of_grown (dB (World.grownBy.refl _ _) q));clear hr HF;generalize wr.drewN q=w3 at*
   cases hp:gD t s with
   | false=>
    have HE:Hid (fR t ex st=(whole,true,s)):=by unfold Hid;rw[HL.out,HGK.out];exact X5 hp
    have HR3:=aE hr3;clear hr3;go_wp2;go_ret2;rw[HE.out];exact⟨rfl,_,_,_,HR3.out,HF3.out⟩
   | true=>
    have hstep:fR t ex st=gX t ex g' ((cE t ex s).2.2.nodes.length:Int) (cE t ex s).2.1 (lE (1,whole,(cE t ex s).1) (cE t ex s).2.2):=by rw[HL.out,HGK.out];exact Y0 hp
    have hc4:=S1 t ex s ht hx (HEX.out s hlo) rb base vr2 vn2 vp2 w3 has HFS.out hr3;have hg4:=uD hx has;have ha4:=J7 hx hp;have HS:=aE hstep;clear hstep;generalize cE t ex s=M at*;obtain⟨n4,ok4,st4⟩:=M;simp only at hc4 hg4 ha4 HS;have hgg:=hg4.gr;have hat4:st4.at_<=t.size:=hgg.2.1;have hfew4:Few st4:=HFS.out.gr hgg;have hnl:st4.nodes.length<=100000:=by have:=hfew4.1;omega
    have HW4:Hid (Few (lE (1,whole,n4) st4)):=by
     have h2:=hfew4.2;have h1:=HFS.out.1;refine⟨?_,h2⟩;show(st4.nodes++ [(1,whole,n4)]).length<=3*st4.at_;rw[bC,aR];rcases hg4 with⟨g1,g2,g3,g4⟩ | ⟨g1,g2,g3,g4⟩
     ·omega
     ·omega
    clear hg4 hgg hfew4;go_wp2_with fail;refine hc4.mono ?_;rintro e w4 ⟨rfl,vr4,vn4,vp4,hr4,hf4⟩;have HF4:=aE (HF3.out.trans hf4);clear hf4 hc4 hr3 HF3;go_wp2_with fail;refine(tX t st4 1 whole n4 rb base vr4 vn4 vp4 _ hr4 hnl).mono ?_;rintro e w5 ⟨rfl,vr5,vn5,vp5,hr5,hf5⟩;have HR5:=aE hr5;have HF5:=aE (HF4.out.trans hf5);clear hr5 hf5 hr4 HF4;go_wp2_with fail;go_roundg g'
    case measure=>have:=HGK.out;omega
    case rel=>
     refine⟨_,ok4,lE (1,whole,n4) st4,vr5,vn5,vp5,rfl,rfl, ?_,hat4,HW4.out,fun _=> ?_,HS.out,HR5.out,HF5.out⟩
     ·show st.at_<=st4.at_;omega
     ·show t.size - st4.at_<g';have a1:=HUF.out;have a2:=HGK.out;omega
end Go.Proofs.YtgjgjgihceijnaaGreat
namespace Go.Proofs.YtgjgjgihceijnaaGreat
open Go.RowKit Go.Stn
theorem Wb (t:ByteArray)(ex:PSt->Int×Bool×PSt)(st:PSt)(ht:t.size<=120)(hx:I5 t ex)(hex:∀s,st.at_<=s.at_->aM t 40 s=true->oX 95 t ex (adv s)):
  oX 95 t (fun st=>dI t ex (t.size+1) (fR t ex st).1 (fR t ex st).2.1 (fR t ex st).2.2) st:=by
 intro rb base vr vn vp w hat hfew h;show Calls _ _ _ _ fun e w'=>e= .returned (.tuple #[.int .i64 (dI t ex (t.size+1) (fR t ex st).1 (fR t ex st).2.1 (fR t ex st).2.2).1,.bool (dI t ex (t.size+1) (fR t ex st).1 (fR t ex st).2.1 (fR t ex st).2.2).2.1])/\R5 w rb base t vr vn vp (dI t ex (t.size+1) (fR t ex st).1 (fR t ex st).2.1 (fR t ex st).2.2).2.2 w'
 have hc1:=Ip t ex st ht hx hex rb base vr vn vp w hat hfew h;have hgr:=wU hx hat;have HFW:=aE (hfew.gr hgr);generalize hA:dI t ex (t.size+1) (fR t ex st).1 (fR t ex st).2.1 (fR t ex st).2.2=A;have HA:=aE hA.symm;clear hA;have HEX:=aE hex;clear hex;generalize fR t ex st=M at*;obtain⟨n1,ok1,st1⟩:=M;simp only at hc1 hgr HFW HA;have hat1:st1.at_<=t.size:=hgr.2.1;have hlo1:st.at_<=st1.at_:=hgr.1;clear hgr;go_enter Tryz.func95,Tryz.ntmps95;go_wp2_with fail;refine hc1.mono ?_;rintro e w1 ⟨rfl,vr1,vn1,vp1,hr1,hf1⟩;have HR1:=aE hr1;have HF1:=aE hf1;clear hf1 hc1 hr1;go_wp2_with fail
 go_loopg [4,5] (t.size+1) (fun gk x y wr=>∃(whole:Int) (ok:Bool) (s:PSt) (vr2 vn2 vp2:Value),x= .int .i64 whole/\y= .bool ok/\st.at_<=s.at_/\s.at_<=t.size/\Few s/\(ok=true->t.size - s.at_<gk)/\A=dI t ex gk whole ok s/\
  Rd wr rb base wr.heap.size t s vr2 vn2 vp2/\Fr w wr rb vr vn vp vr2 vn2 vp2)
 case atStart=>exact⟨n1,ok1,st1,vr1,vn1,vp1,rfl,rfl,hlo1,hat1,HFW.out,fun _=>by omega,HA.out,HR1.out,HF1.out⟩
 case round=>
  obtain⟨whole,ok,s,vr2,vn2,vp2,rfl,rfl,hlo,has,hfs,hfu,hal,hr,hf⟩:=hrel;have HL:=aE hal;have HF:=aE hf;have HFS:=aE hfs;have HFU:=aE hfu;clear hal hf hfs hfu HR1 HF1 HFW HA
  cases ok with
  | false=>
   have HE:Hid (A=(whole,false,s)):=HL.out.trans (G8 t ex gk whole s);have HR:=aE hr;clear hr;go_wp2;go_ret2;rw[HE.out];exact⟨rfl,_,_,_,HR.out,HF.out⟩
  | true=>
   obtain⟨g',hg'⟩:∃g',gk=g'+1:=⟨gk - 1,by have:=HFU.out rfl;omega⟩
   have HGK:=aE hg';clear hg';have HUF:Hid (t.size - s.at_<gk):=HFU.out rfl;clear HFU;go_wp2_with fail;refine(dV t s 124 rb base vr2 vn2 vp2 _ ht has hr).mono ?_;rintro e w3 ⟨rfl,hg3,hr3⟩;have HF3:Hid (Fr w w3 rb vr vn vp vr2 vn2 vp2):=HF.out.trans (Fr.of_grown hg3);clear hr HF hg3
   cases hp:aM t 124 s with
   | false=>
    have HE:Hid (A=(whole,true,s)):=by unfold Hid;rw[HL.out,HGK.out];exact M5 hp
    rw[fO hp]at hr3;have HR3:=aE hr3;clear hr3;go_wp2;go_ret2;rw[HE.out];exact⟨rfl,_,_,_,HR3.out,HF3.out⟩
   | true=>
    have hlt:=bV (by omega) hp;rw[dU hp]at hr3;have hstep:A=dI t ex g' ((fR t ex (adv s)).2.2.nodes.length:Int) (fR t ex (adv s)).2.1 (lE (2,whole,(fR t ex (adv s)).1) (fR t ex (adv s)).2.2):=by rw[HL.out,HGK.out];exact P1 hp
    have hc4:=Ip t ex (adv s) ht hx (fun x hx1=>HEX.out x (by rw[bF]at hx1;omega)) rb base vr2 vn2 vp2 w3 (oL hlt) HFS.out.adv hr3;have hgg:=wU hx (oL hlt);have hg4:=V6 hgg;have HS:=aE hstep;clear hstep;have ha4:s.at_+1<=(fR t ex (adv s)).2.2.at_:=by have:=hgg.1;rw[bF]at this;exact this
    generalize fR t ex (adv s)=M at*;obtain⟨n4,ok4,st4⟩:=M;simp only at hc4 hg4 ha4 HS hgg;have hat4:st4.at_<=t.size:=hgg.2.1;have hfew4:Few st4:=HFS.out.adv.gr hgg;have hnl:st4.nodes.length<=100000:=by have:=hfew4.1;omega
    have HW4:Hid (Few (lE (2,whole,n4) st4)):=by
     have h2:=hfew4.2;have h1:=HFS.out.1;refine⟨?_,h2⟩;show(st4.nodes++ [(2,whole,n4)]).length<=3*st4.at_;rw[bC,aR];rcases hg4 with⟨g1,g2,g3,g4⟩ | ⟨g1,g2,g3,g4⟩
     ·omega
     ·omega
    clear hg4 hgg hfew4;go_wp2_with fail;refine hc4.mono ?_;rintro e w4 ⟨rfl,vr4,vn4,vp4,hr4,hf4⟩;have HF4:=aE (HF3.out.trans hf4);clear hf4 hc4 hr3 HF3;go_wp2_with fail;refine(tX t st4 2 whole n4 rb base vr4 vn4 vp4 _ hr4 hnl).mono ?_;rintro e w5 ⟨rfl,vr5,vn5,vp5,hr5,hf5⟩;have HR5:=aE hr5;have HF5:=aE (HF4.out.trans hf5);clear hr5 hf5 hr4 HF4;go_wp2_with fail;go_roundg g'
    case measure=>have:=HGK.out;omega
    case rel=>
     refine⟨_,ok4,lE (2,whole,n4) st4,vr5,vn5,vp5,rfl,rfl, ?_,hat4,HW4.out,fun _=> ?_,HS.out,HR5.out,HF5.out⟩
     ·show st.at_<=st4.at_;omega
     ·show t.size - st4.at_<g';have a1:=HUF.out;have a2:=HGK.out;omega
theorem Sn (t:ByteArray)(ht:t.size<=120):∀(f:Nat) (st:PSt),t.size - st.at_<f->oX 95 t (eQ t f) st:=by
 intro f
 induction f with
 | zero=>intro st h;omega
 | succ e ih=>
  intro st h;exact Wb t (eQ t e) st ht (K7 t e) (fun s hs hn=>ih (adv s) (by have:=bV (by omega) hn;rw[bF];omega))
end Go.Proofs.YtgjgjgihceijnaaGreat
