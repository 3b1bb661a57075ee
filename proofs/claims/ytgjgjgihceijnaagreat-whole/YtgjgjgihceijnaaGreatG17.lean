import Derived.Test.YtgjgjgihceijnaaGreatG16
import Derived.Test.YtgjgjgihceijnaaGreatG13
open List renaming getElem?_eq_some_iff->aL,drop_eq_getElem_cons->aR,getElem?_eq_getElem->aT,getElem?_append_right->bK,getElem?_append_left->bM,drop_eq_nil_iff->bN
open Go.World renaming rangeAt_setCells_same->aO,cell?_alloc_at->bC
open Nat renaming le_refl->bD,zero_add->bT,add_mul->cF
open Go.RowKit.Below renaming refl->bO
open Go.Value renaming oneCell'->bS
set_option maxRecDepth 100000
set_option maxHeartbeats 8000000
namespace Go.Stn
open Go.RowKit
theorem pV (g i:Nat):(⟨g,0,none⟩:Addr).add i=⟨g,i,none⟩:=by
 by_cases h:i=0
 ·subst h;simp[Addr.add]
 ·simp[Addr.add,h]
theorem E3 {α:Type}(f:α->List Value)(m:Nat)(hf:∀x,(f x).length=m):∀(l:List α) (k:Nat) (x:α) (j:Nat) (v:Value),l[k]? =some x->(f x)[j]? =some v->(l.flatMap f)[k*m+j]? =some v:=by
 intro l
 induction l with
 | nil=>intro k x j v h;simp at h
 | cons a r ih=>
  intro k x j v h hj;rw[List.flatMap_cons]
  cases k with
  | zero=>
   have e:a=x:=by simpa using h
   subst e;have hlt:=(aL.1 hj).1;rw[Nat.zero_mul,bT,bM hlt];exact hj
  | succ i=>
   rw[bK (by rw[hf];rw[cF];omega),hf,show(i+1)*m+j - m=i*m+j by rw[cF];omega];exact ih i x j v (by simpa using h) hj
def nH (w:World)(g:Nat)(rules:List ((Nat->Bool)×Int×Int)):Prop:=∀k x,rules[k]? =some x->w.rangeAt g (k*6) (gU x)
theorem nH.below {w w':World}{g B:Nat}{rules:List ((Nat->Bool)×Int×Int)}(h:nH w g rules)(hB:Below B w w')(hg:g<B):nH w' g rules:=fun k x hk=>aC (h k x hk) (hB.block g hg)
def oZ (f:Nat->Bool):Nat->Nat->Nat
 | 0,c=>c
 | k+1,c=>if f k=true/\oZ f k c<k+1 then k+1 else oZ f k c
def wY (x:(Nat->Bool)×Int×Int)(c:Nat):Nat:=if((oZ x.1 4 c:Nat):Int)<x.2.1 - 1 then(x.2.1 - 1).toNat else oZ x.1 4 c
def bJ:List ((Nat->Bool)×Int×Int)->Nat->Nat
 | [],c=>c
 | x::r,c=>bJ r (wY x c)
theorem D7 {rules:List ((Nat->Bool)×Int×Int)}{k:Nat}{x:(Nat->Bool)×Int×Int}(h:rules[k]? =some x)(c:Nat):bJ (rules.drop k) c=bJ (rules.drop (k+1)) (wY x c):=by
 have e:rules.drop k=x::rules.drop (k+1):=by
  obtain⟨hk,he⟩:=aL.1 h;rw[aR hk,he]
 rw[e,bJ]
end Go.Stn
namespace Go.Proofs.YtgjgjgihceijnaaGreat
open Go.RowKit Go.Stn
theorem Tryz.ruleSize:(Tryz.prog.info? 119).map (·.size)=some 6:=by kernel_rfl
theorem Tryz.condsSize:(Tryz.prog.info? 117).map (·.size)=some 4:=by kernel_rfl
theorem Tryz.runIndex40 (a b c d:Bool)(w:World):(Instr.index 117 (.agg #[.bool a,.bool b,.bool c,.bool d]) (.int .i64 0)).run Tryz.prog w= .ok (.bool a) w:=by kernel_rfl
theorem Tryz.runIndex41 (a b c d:Bool)(w:World):(Instr.index 117 (.agg #[.bool a,.bool b,.bool c,.bool d]) (.int .i64 1)).run Tryz.prog w= .ok (.bool b) w:=by kernel_rfl
theorem Tryz.runIndex42 (a b c d:Bool)(w:World):(Instr.index 117 (.agg #[.bool a,.bool b,.bool c,.bool d]) (.int .i64 2)).run Tryz.prog w= .ok (.bool c) w:=by kernel_rfl
theorem Tryz.runIndex43 (a b c d:Bool)(w:World):(Instr.index 117 (.agg #[.bool a,.bool b,.bool c,.bool d]) (.int .i64 3)).run Tryz.prog w= .ok (.bool d) w:=by kernel_rfl
theorem Tryz.runIndex4 (f:Nat->Bool)(j:Nat)(hj:j<4)(w:World):(Instr.index 117 (.agg #[.bool (f 0),.bool (f 1),.bool (f 2),.bool (f 3)]) (.int .i64 (j:Int))).run Tryz.prog w= .ok (.bool (f j)) w:=by
 have:j=0\/j=1\/j=2\/j=3:=by omega
 rcases this with e | e | e | e
 ·rw[e];exact Tryz.runIndex40 (f 0) (f 1) (f 2) (f 3) w
 ·rw[e];exact Tryz.runIndex41 (f 0) (f 1) (f 2) (f 3) w
 ·rw[e];exact Tryz.runIndex42 (f 0) (f 1) (f 2) (f 3) w
 ·rw[e];exact Tryz.runIndex43 (f 0) (f 1) (f 2) (f 3) w
theorem Tryz.wpIndex4 {ops:Array Oper}{rest:List Oper}{o:Oper}{a:Act}{w:World}{Q:Exit->Act->World->Prop}(hg:o.guard=none)(x y:Operand)(ho:o.op= .index 117 x y)(f:Nat->Bool)(j:Nat)(hj:j<4)
  (hx:a.eval x= .agg #[.bool (f 0),.bool (f 1),.bool (f 2),.bool (f 3)]) (hy:a.eval y= .int .i64 (j:Int)) (h:wpList Tryz.prog ops Q rest (a.put o.dst (.bool (f j))) w):wpList Tryz.prog ops Q (o::rest) a w:=by
 refine wpList_plain hg fun K hK=> ?_
 have hr:=Tryz.runIndex4 f j hj w;unfold Oper.wp execOp;simp only[ho,hx,hy,Sem.run_bind,hr,Result.andThen_ok];exact hK _ _ h
structure qZ (w:World)(b:Nat)(x:(Nat->Bool)×Int×Int):Prop where
 rg:w.rangeAt b 0 (gU x)
 cs:w.rangeAt b 0 [.bool (x.1 0),.bool (x.1 1),.bool (x.1 2),.bool (x.1 3)]
 c4:w.cell? ⟨b,4,none⟩=some (.int .i64 x.2.1)
 c5:w.cell? ⟨b,5,none⟩=some (.int .i64 x.2.2)
theorem qZ.mk' {w:World}{b:Nat}{x:(Nat->Bool)×Int×Int}(h:w.rangeAt b 0 (gU x)):qZ w b x:=by
 refine⟨h,fun j v hv=> ?_, ?_, ?_⟩
 ·refine h j v ?_;have hj:j<4:=(aL.1 hv).1;have:j=0\/j=1\/j=2\/j=3:=by omega
  rcases this with rfl | rfl | rfl | rfl<;> exact hv
 ·exact h 4 _ rfl
 ·exact h 5 _ rfl
theorem Hj (rules:List ((Nat->Bool)×Int×Int))(rg rcap:Nat)(vn vp:Value)(w:World)(hn:rules.length<=1000)(hbe:∀x∈rules,0<=x.2.1/\x.2.1<=1000)(hr:nH w rg rules)(hg:rg<w.heap.size):
  Calls Tryz.prog 37 #[.agg #[.slice (some ⟨rg,0,none⟩) rules.length rcap,vn,vp]] w fun e w'=>e= .returned (.int .i64 ((bJ rules 1:Nat):Int))/\Below w.heap.size w w':=by
 have HR:=aA hr;have HBE:=aA hbe;clear hr hbe;obtain⟨n,hnn⟩:∃n,rules.length=n:=⟨_,rfl⟩
 rw[hnn]at hn ⊢;replace hnn:=aA hnn;have c0:(w.alloc (.cells #[.slice (some ⟨rg,0,none⟩) n rcap,vn,vp] 44)).cell? ⟨w.heap.size,0,none⟩=some (.slice (some ⟨rg,0,none⟩) n rcap):=(bC _ _ w.heap.size 0 rfl).trans rfl;have HB0:Hid (Below w.heap.size w (w.alloc (.cells #[.slice (some ⟨rg,0,none⟩) n rcap,vn,vp] 44))):=(bO _ _).alloc (bD _) _;go_enter Tryz.func37,Tryz.ntmps37;go_upto_region 2 with fail;generalize w.alloc (.cells #[.slice (some ⟨rg,0,none⟩) n rcap,vn,vp] 44)=W at*;go_wp2_with fail;clear c0;obtain⟨FC,EFC⟩:∃c,bJ rules 1=c:=⟨_,rfl⟩
 replace EFC:=aA EFC
 go_loopg [3,11] n (fun gk cv iv wr=>∃(k c:Nat),cv= .int .i64 (c:Int)/\iv= .int .i64 (k:Int)/\k+gk=n/\c<=1000/\FC=bJ (rules.drop k) c/\Below w.heap.size w wr)
 case atStart=>exact⟨0,1,rfl,rfl,by omega,by omega,EFC.out.symm,HB0.out⟩
 case round=>
  obtain⟨k,c,rfl,rfl,hkn,hc,heq,hb⟩:=hrel;have HQ:=aA heq;have HB:=aA hb;have hzw:=hb.size;clear heq hb HB0;by_cases hlt:k<n
  ·obtain⟨d,rfl⟩:∃d,gk=d+1:=⟨gk - 1,by omega⟩
   have hkr:k<rules.length:=by rw[hnn.out];exact hlt
   have hx:rules[k]? =some (rules[k]):=aT hkr;have HRG:=aA ((HR.out.below HB.out hg) k _ hx);have HQ2:=aA (HQ.out.trans (D7 hx c));have hxb:=HBE.out _ (List.getElem_mem hkr);generalize rules[k]=x at*;obtain⟨f,be,ro⟩:=x;simp only at hxb;have HNEW:Hid (qZ ((wr.alloc (.cells #[.bool false,.bool false,.bool false,.bool false,.int .i64 0,.int .i64 0] 119)).setCells wr.heap.size 0 (gU (f,be,ro))) wr.heap.size (f,be,ro)):=
    qZ.mk' (aO _ _ _ _ (jC wr [.bool false,.bool false,.bool false,.bool false,.int .i64 0,.int .i64 0] 119 6 rfl))
   have HBN:Hid (Below w.heap.size w ((wr.alloc (.cells #[.bool false,.bool false,.bool false,.bool false,.int .i64 0,.int .i64 0] 119)).setCells wr.heap.size 0 (gU (f,be,ro)))):=aD _ 0 _ wr.heap.size (HB.out.alloc hzw _) hzw;have HTN:=aA (jC wr [.bool false,.bool false,.bool false,.bool false,.int .i64 0,.int .i64 0] 119 6 rfl);have hd1:decide ((k:Int)<(n:Int))=true:=by simp;omega
   have hkI:(0:Int)<=(k:Int)/\(k:Int)<(n:Int):=by omega
   clear hx hkr;go_upto_region 5 with(first
    | (refine wpList_load_mid rfl 119 (.tmp 13) rfl rg (k*6) rfl (gU (f,be,ro)) _ HRG.out Tryz.underlying119 rfl Tryz.ruleSize ?_)
    | (refine wpList_store_mid rfl 119 (.tmp 5) (.tmp 14) rfl wr.heap.size 0 (gU (f,be,ro)).toArray rfl rfl ?_ ?_ ?_ ?_;exact HTN.out;exact Tryz.ruleSize;(simp[gU,bS])))
   generalize (wr.alloc (.cells #[.bool false,.bool false,.bool false,.bool false,.int .i64 0,.int .i64 0] 119)).setCells wr.heap.size 0 (gU (f,be,ro))=w5 at*;have c4:=HNEW.out.c4;simp only at c4;have HCS:Hid (w5.rangeAt wr.heap.size 0 [.bool (f 0),.bool (f 1),.bool (f 2),.bool (f 3)]):=HNEW.out.cs;have HCR:Hid (wY (f,be,ro) c=if((oZ f 4 c:Nat):Int)<be - 1 then(be - 1).toNat else oZ f 4 c):=rfl;clear HNEW HTN HRG HB;go_wp2_with (first | (refine wpList_load_mid rfl 117 (.tmp 15) rfl wr.heap.size 0 rfl [.bool (f 0),.bool (f 1),.bool (f 2),.bool (f 3)] _ HCS.out Tryz.underlying117 rfl Tryz.condsSize ?_) | fail)
   go_loopg [3,17] 4 (fun gj cv iv wj=>∃(j cc:Nat),cv= .int .i64 (cc:Int)/\iv= .int .i64 (j:Int)/\j+gj=4/\cc=oZ f j c/\cc<=1000/\wj=w5)
   case atStart=>exact⟨0,c,rfl,rfl,rfl,rfl,hc,rfl⟩
   case round=>
    obtain⟨j,cc,rfl,rfl,hj4,hcc,hcb,rfl⟩:=hrel;have HCC:=aA hcc;clear hcc;by_cases hj:j<4
    ·obtain⟨g,rfl⟩:∃g,gk=g+1:=⟨gk - 1,by omega⟩
     have HST:Hid (oZ f (j+1) c=if f j=true/\cc<j+1 then j+1 else cc):=by unfold Hid;rw[oZ,←HCC.out]
     have hd4:decide ((j:Int)<4)=true:=by simp;omega
     by_cases hq:f j=true/\cc<j+1
     ·have HS2:Hid (oZ f (j+1) c=j+1):=by unfold Hid;rw[HST.out,if_pos hq]
      have hfj:=hq.1;have hd2:decide ((cc:Int)<(j:Int)+1)=true:=by simp;omega
      clear HST HCC hq;go_wp2_with (first | (refine Tryz.wpIndex4 rfl (.tmp 16) (.tmp 17) rfl f j hj rfl rfl ?_;rw[hfj]) | fail);go_roundg g
      case measure=>omega
      case rel=>exact⟨j+1,j+1,by go_num,by go_num,by omega,HS2.out.symm,by omega,rfl⟩
     ·have HS2:Hid (oZ f (j+1) c=cc):=by unfold Hid;rw[HST.out,if_neg hq]
      cases hfj:f j with
      | true=>
       have hd2:decide ((cc:Int)<(j:Int)+1)=false:=by rw[decide_eq_false_iff_not];exact fun h=>hq ⟨hfj,by omega⟩
       clear HST HCC hq;go_wp2_with (first | (refine Tryz.wpIndex4 rfl (.tmp 16) (.tmp 17) rfl f j hj rfl rfl ?_;rw[hfj]) | fail);go_roundg g
       case measure=>omega
       case rel=>exact⟨j+1,cc,rfl,by go_num,by omega,HS2.out.symm,hcb,rfl⟩
      | false=>
       clear HST HCC hq;go_wp2_with (first | (refine Tryz.wpIndex4 rfl (.tmp 16) (.tmp 17) rfl f j hj rfl rfl ?_;rw[hfj]) | fail);go_roundg g
       case measure=>omega
       case rel=>exact⟨j+1,cc,rfl,by go_num,by omega,HS2.out.symm,hcb,rfl⟩
    ·have ej:j=4:=by omega
     have HC4:Hid (oZ f 4 c=cc):=by unfold Hid;rw[HCC.out,ej]
     have hd4:decide ((j:Int)<4)=false:=by simp;omega
     clear ej HCC;by_cases hbe:(cc:Int)<be - 1
     ·have HS2:Hid (wY (f,be,ro) c=(be - 1).toNat):=by unfold Hid;rw[HCR.out,HC4.out,if_pos hbe]
      have hd5:decide ((cc:Int)<be - 1)=true:=decide_eq_true hbe;go_wp2;go_roundg d
      case measure=>omega
      case rel=>exact⟨k+1,(be - 1).toNat,by simp;omega,by go_num,by omega,by omega,by rw[HQ2.out,HS2.out],HBN.out⟩
     ·have HS2:Hid (wY (f,be,ro) c=cc):=by unfold Hid;rw[HCR.out,HC4.out,if_neg hbe]
      have hd5:decide ((cc:Int)<be - 1)=false:=decide_eq_false hbe;go_wp2;go_roundg d
      case measure=>omega
      case rel=>exact⟨k+1,cc,rfl,by go_num,by omega,hcb,by rw[HQ2.out,HS2.out],HBN.out⟩
  ·have e:gk=0:=by omega
   subst e;have HE:Hid (FC=c):=by unfold Hid;rw[HQ.out,show k=rules.length by rw[hnn.out];omega,List.drop_length];rfl
   have hd1:decide ((k:Int)<(n:Int))=false:=by simp;omega
   go_wp2;go_ret;exact⟨by rw[EFC.out,HE.out];rfl,HB.out⟩
end Go.Proofs.YtgjgjgihceijnaaGreat
namespace Go.Stn
open Go.RowKit
def uO (f:Nat->Bool)(fr:Int)(cond:Nat):Nat->Int->Int
 | 0,b=>b
 | k+1,b=>if f k=true/\k=cond then orI (uO f fr cond k b) fr else uO f fr cond k b
def lN (fi:Nat->Int)(cond:Nat):List ((Nat->Bool)×Int×Int)->Nat->Int->Int
 | [],_,b=>b
 | x::l,r,b=>lN fi cond l (r+1) (uO x.1 (fi r) cond 4 b)
theorem Bd {fi:Nat->Int}{cond:Nat}{rules:List ((Nat->Bool)×Int×Int)}{k:Nat}{x:(Nat->Bool)×Int×Int}(h:rules[k]? =some x)(b:Int):lN fi cond (rules.drop k) k b=lN fi cond (rules.drop (k+1)) (k+1) (uO x.1 (fi k) cond 4 b):=by
 have e:rules.drop k=x::rules.drop (k+1):=by
  obtain⟨hk,he⟩:=aL.1 h;rw[aR hk,he]
 rw[e,lN]
end Go.Stn
namespace Go.Proofs.YtgjgjgihceijnaaGreat
open Go.RowKit Go.Stn
theorem Fl (rules:List ((Nat->Bool)×Int×Int))(rg rcap nb fg fcap cond:Nat)(fi:Nat->Int)(vn vp:Value)(w:World)(hn:rules.length<=1000)(hr:nH w rg rules)(hg:rg<w.heap.size)
  (hnb:nb<w.heap.size) (hvf:w.cell? ⟨nb,0,none⟩=some (.slice (some ⟨fg,0,none⟩) rules.length fcap)) (hfi:NIn w fg rules.length fi) (hfg:fg<w.heap.size):
  Calls Tryz.prog 38 #[.pointer (some ⟨nb,0,none⟩),.agg #[.slice (some ⟨rg,0,none⟩) rules.length rcap,vn,vp],.int .i64 cond] w fun e w'=>e= .returned (.int .i64 (lN fi cond rules 0 0))/\Below w.heap.size w w':=by
 have HR:=aA hr;have HVF:=aA hvf;have HFI:=aA hfi;clear hr hvf hfi;obtain⟨n,hnn⟩:∃n,rules.length=n:=⟨_,rfl⟩
 rw[hnn]at hn HVF HFI ⊢;replace hnn:=aA hnn;have c0:(w.alloc (.cells #[.slice (some ⟨rg,0,none⟩) n rcap,vn,vp] 44)).cell? ⟨w.heap.size,0,none⟩=some (.slice (some ⟨rg,0,none⟩) n rcap):=(bC _ _ w.heap.size 0 rfl).trans rfl;have HB0:Hid (Below w.heap.size w (w.alloc (.cells #[.slice (some ⟨rg,0,none⟩) n rcap,vn,vp] 44))):=(bO _ _).alloc (bD _) _;go_enter Tryz.func38,Tryz.ntmps38;go_upto_region 2 with fail;generalize w.alloc (.cells #[.slice (some ⟨rg,0,none⟩) n rcap,vn,vp] 44)=W at*;go_wp2_with fail;clear c0;obtain⟨FC,EFC⟩:∃c,lN fi cond rules 0 0=c:=⟨_,rfl⟩
 replace EFC:=aA EFC
 go_loopg [7,15] n (fun gk cv iv wr=>∃(k:Nat) (b:Int),cv= .int .i64 b/\iv= .int .i64 (k:Int)/\k+gk=n/\FC=lN fi cond (rules.drop k) k b/\Below w.heap.size w wr)
 case atStart=>exact⟨0,0,rfl,rfl,by omega,EFC.out.symm,HB0.out⟩
 case round=>
  obtain⟨k,b,rfl,rfl,hkn,heq,hb⟩:=hrel;have HQ:=aA heq;have HB:=aA hb;have hzw:=hb.size;clear heq hb HB0;by_cases hlt:k<n
  ·obtain⟨d,rfl⟩:∃d,gk=d+1:=⟨gk - 1,by omega⟩
   have hkr:k<rules.length:=by rw[hnn.out];exact hlt
   have hx:rules[k]? =some (rules[k]):=aT hkr;have HRG:=aA ((HR.out.below HB.out hg) k _ hx);have HQ2:=aA (HQ.out.trans (Bd hx b));generalize rules[k]=x at*;obtain⟨f,be,ro⟩:=x;have HNEW:Hid (qZ ((wr.alloc (.cells #[.bool false,.bool false,.bool false,.bool false,.int .i64 0,.int .i64 0] 119)).setCells wr.heap.size 0 (gU (f,be,ro))) wr.heap.size (f,be,ro)):=
    qZ.mk' (aO _ _ _ _ (jC wr [.bool false,.bool false,.bool false,.bool false,.int .i64 0,.int .i64 0] 119 6 rfl))
   have HBN:Hid (Below w.heap.size w ((wr.alloc (.cells #[.bool false,.bool false,.bool false,.bool false,.int .i64 0,.int .i64 0] 119)).setCells wr.heap.size 0 (gU (f,be,ro)))):=aD _ 0 _ wr.heap.size (HB.out.alloc hzw _) hzw;have HTN:=aA (jC wr [.bool false,.bool false,.bool false,.bool false,.int .i64 0,.int .i64 0] 119 6 rfl);have hd1:decide ((k:Int)<(n:Int))=true:=by simp;omega
   have hkI:(0:Int)<=(k:Int)/\(k:Int)<(n:Int):=by omega
   clear hx hkr;go_upto_region 5 with(first
    | (refine wpList_load_mid rfl 119 (.tmp 18) rfl rg (k*6) rfl (gU (f,be,ro)) _ HRG.out Tryz.underlying119 rfl Tryz.ruleSize ?_)
    | (refine wpList_store_mid rfl 119 (.tmp 9) (.tmp 19) rfl wr.heap.size 0 (gU (f,be,ro)).toArray rfl rfl ?_ ?_ ?_ ?_;exact HTN.out;exact Tryz.ruleSize;(simp[gU,bS])))
   generalize (wr.alloc (.cells #[.bool false,.bool false,.bool false,.bool false,.int .i64 0,.int .i64 0] 119)).setCells wr.heap.size 0 (gU (f,be,ro))=w5 at*;have HCS:Hid (w5.rangeAt wr.heap.size 0 [.bool (f 0),.bool (f 1),.bool (f 2),.bool (f 3)]):=HNEW.out.cs;have v0:=(HBN.out.cell (p:=⟨nb,0,none⟩) hnb).trans HVF.out;have v1:=(HBN.out.cell (p:=⟨fg,k,none⟩) hfg).trans (HFI.out k hlt);simp only at HQ2;generalize fi k=fr at*;clear HNEW HTN HRG HB;go_wp2_with (first | (refine wpList_load_mid rfl 117 (.tmp 20) rfl wr.heap.size 0 rfl [.bool (f 0),.bool (f 1),.bool (f 2),.bool (f 3)] _ HCS.out Tryz.underlying117 rfl Tryz.condsSize ?_) | fail)
   go_loopg [7,22] 4 (fun gj cv iv wj=>∃(j:Nat) (bb:Int),cv= .int .i64 bb/\iv= .int .i64 (j:Int)/\j+gj=4/\bb=uO f fr cond j b/\wj=w5)
   case atStart=>exact⟨0,b,rfl,rfl,rfl,rfl,rfl⟩
   case round=>
    obtain⟨j,bb,rfl,rfl,hj4,hbb,rfl⟩:=hrel;have HBB:=aA hbb;clear hbb;by_cases hj:j<4
    ·obtain⟨g,rfl⟩:∃g,gk=g+1:=⟨gk - 1,by omega⟩
     have HST:Hid (uO f fr cond (j+1) b=if f j=true/\j=cond then orI bb fr else bb):=by unfold Hid;rw[uO,←HBB.out]
     have hd4:decide ((j:Int)<4)=true:=by simp;omega
     by_cases hq:f j=true/\j=cond
     ·have HS2:Hid (uO f fr cond (j+1) b=orI bb fr):=by unfold Hid;rw[HST.out,if_pos hq]
      have hfj:=hq.1;have hd2:((j:Int)==(cond:Int))=true:=by rw[hq.2];simp
      clear HST HBB hq;go_wp2_with (first | (refine Tryz.wpIndex4 rfl (.tmp 21) (.tmp 22) rfl f j hj rfl rfl ?_;rw[hfj]) | fail);go_roundg g
      case measure=>omega
      case rel=>exact⟨j+1,orI bb fr,rfl,by go_num,by omega,HS2.out.symm,rfl⟩
     ·have HS2:Hid (uO f fr cond (j+1) b=bb):=by unfold Hid;rw[HST.out,if_neg hq]
      cases hfj:f j with
      | true=>
       have hd2:((j:Int)==(cond:Int))=false:=by rw[beq_eq_false_iff_ne];exact fun h=>hq ⟨hfj,by omega⟩
       clear HST HBB hq;go_wp2_with (first | (refine Tryz.wpIndex4 rfl (.tmp 21) (.tmp 22) rfl f j hj rfl rfl ?_;rw[hfj]) | fail);go_roundg g
       case measure=>omega
       case rel=>exact⟨j+1,bb,rfl,by go_num,by omega,HS2.out.symm,rfl⟩
      | false=>
       clear HST HBB hq;go_wp2_with (first | (refine Tryz.wpIndex4 rfl (.tmp 21) (.tmp 22) rfl f j hj rfl rfl ?_;rw[hfj]) | fail);go_roundg g
       case measure=>omega
       case rel=>exact⟨j+1,bb,rfl,by go_num,by omega,HS2.out.symm,rfl⟩
    ·have ej:j=4:=by omega
     have HC4:Hid (uO f fr cond 4 b=bb):=by unfold Hid;rw[HBB.out,ej]
     have hd4:decide ((j:Int)<4)=false:=by simp;omega
     clear ej HBB;go_wp2;go_roundg d
     case measure=>omega
     case rel=>exact⟨k+1,bb,rfl,by go_num,by omega,by rw[HQ2.out,HC4.out],HBN.out⟩
  ·have e:gk=0:=by omega
   subst e;have HE:Hid (FC=b):=by unfold Hid;rw[HQ.out,show rules.drop k= [] by rw[bN,hnn.out];omega];rfl
   have hd1:decide ((k:Int)<(n:Int))=false:=by simp;omega
   go_wp2;go_ret;exact⟨by rw[EFC.out,HE.out];rfl,HB.out⟩
end Go.Proofs.YtgjgjgihceijnaaGreat
namespace Go.Stn
open Go.RowKit
def rI (w:World)(g:Nat)(places:List (Nat->Bool)):Prop:=∀k f,places[k]? =some f->w.rangeAt g (k*256) (aV f)
theorem rI.below {w w':World}{g B:Nat}{places:List (Nat->Bool)}(h:rI w g places)(hB:Below B w w')(hg:g<B):rI w' g places:=fun k x hk=>aC (h k x hk) (hB.block g hg)
def P4 (b:Nat):List (Nat->Bool)->Nat->Int->Int
 | [],_,a=>a
 | f::r,p,a=>P4 b r (p+1) (if f b=true then orI a (lZ p)else a)
def uR (places:List (Nat->Bool))(b:Nat):Int:=P4 b places 0 0
theorem Li {places:List (Nat->Bool)}{k b:Nat}{f:Nat->Bool}(h:places[k]? =some f)(a:Int):P4 b (places.drop k) k a=P4 b (places.drop (k+1)) (k+1) (if f b=true then orI a (lZ k)else a):=by
 have e:places.drop k=f::places.drop (k+1):=by
  obtain⟨hk,he⟩:=aL.1 h;rw[aR hk,he]
 rw[e,P4]
def yL (al:Nat->Int):Nat->Nat->List Nat->List Int->List Nat×List Int
 | 0,_,ofs,P=>(ofs,P)
 | d+1,b,ofs,P=>yL al d (b+1) (ofs++ [cY P (al b)]) (if cY P (al b)=P.length then P++ [al b]else P)
def kH (places:List (Nat->Bool)):List Nat×List Int:=yL (uR places) 256 0 [] []
def oI (ofs:List Nat)(vpl:Value):List Value:=jD ofs++ [vpl]
theorem xQ (ofs:List Nat)(vpl:Value)(h:ofs.length=256):(oI ofs vpl).length=257:=by simp[oI,gM,h]
theorem On (ofs:List Nat)(vpl:Value)(k:Nat)(h:k<ofs.length):(oI ofs vpl)[k]? =some (.int .i64 (ofs[k]:Int)):=by
 unfold oI;rw[bM (by rw[gM];exact h),yD _ _ h]
theorem Bc (ofs:List Nat)(vpl:Value)(h:ofs.length=256):(oI ofs vpl)[256]? =some vpl:=by
 unfold oI;rw[bK (by rw[gM,h];exact bD _),gM,h];rfl
theorem U1 (ofs:List Nat)(vpl:Value)(k x:Nat)(h:k<ofs.length):(oI ofs vpl).set k (.int .i64 (x:Int))=oI (ofs.set k x) vpl:=by
 unfold oI;rw[List.set_append_left _ _ (by rw[gM];exact h)];simp[jD,List.map_set]
theorem Ce (ofs:List Nat)(vpl u:Value)(h:ofs.length=256):(oI ofs vpl).set 256 u=oI ofs u:=by
 unfold oI;rw[List.set_append_right _ _ (by rw[gM,h];exact bD _),gM,h];rfl
theorem Sb (P:List Int)(x:Int):cY P x<=P.length:=by
 by_cases h:x∈P
 ·exact Nat.le_of_lt (J0 h)
 ·rw[L9 h];exact bD _
end Go.Stn
namespace Go.Proofs.YtgjgjgihceijnaaGreat
open Go.RowKit Go.Stn
theorem Gx (places:List (Nat->Bool))(qg qcap b:Nat)(vr vn:Value)(w:World)(hn:places.length<=10)(hb:b<256)(hp:rI w qg places)(hg:qg<w.heap.size):
  Calls Tryz.prog 34 #[.agg #[vr,vn,.slice (some ⟨qg,0,none⟩) places.length qcap],.int .i64 b] w fun e w'=>e= .returned (.int .i64 (uR places b))/\Below w.heap.size w w':=by
 have HP:=aA hp;clear hp;obtain⟨n,hnn⟩:∃n,places.length=n:=⟨_,rfl⟩
 rw[hnn]at hn ⊢;replace hnn:=aA hnn;have c0:(w.alloc (.cells #[vr,vn,.slice (some ⟨qg,0,none⟩) n qcap] 44)).cell? ⟨w.heap.size,2,none⟩=some (.slice (some ⟨qg,0,none⟩) n qcap):=(bC _ _ w.heap.size 2 rfl).trans rfl;have HB0:Hid (Below w.heap.size w (w.alloc (.cells #[vr,vn,.slice (some ⟨qg,0,none⟩) n qcap] 44))):=(bO _ _).alloc (bD _) _;go_enter Tryz.func34,Tryz.ntmps34;go_upto_region 2 with fail;generalize w.alloc (.cells #[vr,vn,.slice (some ⟨qg,0,none⟩) n qcap] 44)=W at*;go_wp2_with fail;clear c0;obtain⟨FC,EFC⟩:∃c,uR places b=c:=⟨_,rfl⟩
 have HFC:Hid (P4 b places 0 0=FC):=EFC;replace EFC:=aA EFC
 go_loopg [5,11] n (fun gk cv iv wr=>∃(k:Nat) (a:Int),cv= .int .i64 a/\iv= .int .i64 (k:Int)/\k+gk=n/\FC=P4 b (places.drop k) k a/\Below w.heap.size w wr)
 case atStart=>exact⟨0,0,rfl,rfl,by omega,HFC.out.symm,HB0.out⟩
 case round=>
  obtain⟨k,a,rfl,rfl,hkn,heq,hbl⟩:=hrel;have HQ:=aA heq;have HB:=aA hbl;have hzw:=hbl.size;clear heq hbl HB0 HFC;by_cases hlt:k<n
  ·obtain⟨d,rfl⟩:∃d,gk=d+1:=⟨gk - 1,by omega⟩
   have hkr:k<places.length:=by rw[hnn.out];exact hlt
   have hx:places[k]? =some (places[k]):=aT hkr;have HRG:=aA ((HP.out.below HB.out hg) k _ hx);have HQ2:=aA (HQ.out.trans (Li hx a));generalize places[k]=f at*;have HTN:=aA (bI wr Tryz.zeroCells158 158 wr.heap.size 256 Tryz.bytesZero rfl);have HNEW:Hid (((wr.alloc (.cells Tryz.zeroCells158 158)).setCells wr.heap.size 0 (aV f)).rangeAt wr.heap.size 0 (aV f)):=aO _ _ _ _ (by rw[aS];exact HTN.out);have HBN:Hid (Below w.heap.size w ((wr.alloc (.cells Tryz.zeroCells158 158)).setCells wr.heap.size 0 (aV f))):=aD _ 0 _ wr.heap.size (HB.out.alloc hzw _) hzw;have hd1:decide ((k:Int)<(n:Int))=true:=by simp;omega
   have hkI:(0:Int)<=(k:Int)/\(k:Int)<(n:Int):=by omega
   clear hx hkr;go_upto_region 5 with(first
    | (refine yI rfl 158 (.tmp 14) rfl qg (k*256) f _ rfl HRG.out Tryz.underlying158 rfl Tryz.bytesSize ?_)
    | (refine qP rfl 158 (.tmp 7) (.tmp 15) rfl wr.heap.size 0 f ?_ ?_ ?_ Tryz.bytesSize ?_;rfl;rfl;exact HTN.out))
   generalize (wr.alloc (.cells Tryz.zeroCells158 158)).setCells wr.heap.size 0 (aV f)=w5 at*;have cb:w5.cell? ⟨wr.heap.size,b,none⟩=some (.bool (f b)):=by have:=HNEW.out b _ (pO f b hb);rw[bT]at this;exact this
   have hbI:(0:Int)<=(b:Int)/\(b:Int)<256:=by omega
   clear HNEW HTN HRG HB
   cases hfb:f b with
   | true=>
    rw[hfb]at cb HQ2;rw[if_pos rfl]at HQ2;go_wp2_with fail;refine(qM k (by omega) w5).mono ?_;rintro e w6 ⟨rfl,rfl⟩;go_wp2;go_roundg d
    case measure=>omega
    case rel=>exact⟨k+1,orI a (lZ k),rfl,by go_num,by omega,HQ2.out,HBN.out⟩
   | false=>
    rw[hfb]at cb HQ2;rw[if_neg (by decide)]at HQ2;go_wp2;go_roundg d
    case measure=>omega
    case rel=>exact⟨k+1,a,rfl,by go_num,by omega,HQ2.out,HBN.out⟩
  ·have e:gk=0:=by omega
   subst e;have HE:Hid (FC=a):=by unfold Hid;rw[HQ.out,show places.drop k= [] by rw[bN,hnn.out];omega];rfl
   have hd1:decide ((k:Int)<(n:Int))=false:=by simp;omega
   go_wp2;go_ret;exact⟨by rw[EFC.out,HE.out];rfl,HB.out⟩
end Go.Proofs.YtgjgjgihceijnaaGreat
