/- Texts put together: PlBegin, PlGroup, PlGroups. -/
import Derived.Test.YtgjgjgihceijnaaG11
namespace Go.Stn
open Go.RowKit
def begC (f:Nat→Bool)(fr:Int)(cond:Nat):Nat→Int→Int
 | 0,b=>b
 | k+1,b=>if f k=true∧k=cond then orI (begC f fr cond k b) fr else begC f fr cond k b
def beginL (fi:Nat→Int)(cond:Nat):List ((Nat→Bool)×Int×Int)→Nat→Int→Int
 | [],_,b=>b
 | x::l,r,b=>beginL fi cond l (r+1) (begC x.1 (fi r) cond 4 b)
theorem beginL_drop {fi:Nat→Int}{cond:Nat}{rules:List ((Nat→Bool)×Int×Int)}{k:Nat}{x:(Nat→Bool)×Int×Int}(h:rules[k]? =some x)(b:Int):beginL fi cond (rules.drop k) k b=beginL fi cond (rules.drop (k+1)) (k+1) (begC x.1 (fi k) cond 4 b):=by
 have e:rules.drop k=x::rules.drop (k+1):=by
  obtain⟨hk,he⟩:=List.getElem?_eq_some_iff.1 h
  rw[List.drop_eq_getElem_cons hk,he]
 rw[e,beginL]
end Go.Stn
namespace Go.Proofs.Ytgjgjgihceijnaa
open Go.RowKit Go.Stn
set_option maxRecDepth 100000 in
set_option maxHeartbeats 1000000 in
theorem pbegin_any (rules:List ((Nat→Bool)×Int×Int))(rg rcap nb fg fcap cond:Nat)(fi:Nat→Int)(vn vp:Value)(w:World)(hn:rules.length≤1000)(hr:RulesIn w rg rules)(hg:rg<w.heap.size)
  (hnb:nb<w.heap.size) (hvf:w.cell? ⟨nb,0,none⟩=some (.slice (some ⟨fg,0,none⟩) rules.length fcap)) (hfi:NIn w fg rules.length fi) (hfg:fg<w.heap.size):
  Calls Try.prog 63 #[.pointer (some ⟨nb,0,none⟩),.agg #[.slice (some ⟨rg,0,none⟩) rules.length rcap,vn,vp],.int .i64 cond] w fun e w'=>e= .returned (.int .i64 (beginL fi cond rules 0 0))∧Below w.heap.size w w':=by
 have HR:=hidZ hr
 have HVF:=hidZ hvf
 have HFI:=hidZ hfi
 clear hr hvf hfi
 obtain⟨n,hnn⟩:∃n,rules.length=n:=⟨_,rfl⟩
 rw[hnn]at hn HVF HFI ⊢
 replace hnn:=hidZ hnn
 have c0:(w.alloc (.cells #[.slice (some ⟨rg,0,none⟩) n rcap,vn,vp] 84)).cell? ⟨w.heap.size,0,none⟩=some (.slice (some ⟨rg,0,none⟩) n rcap):=(World.cell?_alloc_at _ _ w.heap.size 0 rfl).trans rfl
 have HB0:Hid (Below w.heap.size w (w.alloc (.cells #[.slice (some ⟨rg,0,none⟩) n rcap,vn,vp] 84))):=(Below.refl _ _).alloc (Nat.le_refl _) _
 go_enter Try.func63,Try.ntmps63
 go_upto_region 2 with fail
 generalize w.alloc (.cells #[.slice (some ⟨rg,0,none⟩) n rcap,vn,vp] 84)=W at*
 go_wp2_with fail
 clear c0
 obtain⟨FC,EFC⟩:∃c,beginL fi cond rules 0 0=c:=⟨_,rfl⟩
 replace EFC:=hidZ EFC
 go_loopg [7,15] n (fun gk cv iv wr=>∃(k:Nat) (b:Int),cv= .int .i64 b∧iv= .int .i64 (k:Int)∧k+gk=n∧FC=beginL fi cond (rules.drop k) k b∧Below w.heap.size w wr)
 case atStart=>exact⟨0,0,rfl,rfl,by omega,EFC.out.symm,HB0.out⟩
 case round=>
  obtain⟨k,b,rfl,rfl,hkn,heq,hb⟩:=hrel
  have HQ:=hidZ heq
  have HB:=hidZ hb
  have hzw:=hb.size
  clear heq hb HB0
  by_cases hlt:k<n
  ·obtain⟨d,rfl⟩:∃d,gk=d+1:=⟨gk - 1,by omega⟩
   have hkr:k<rules.length:=by rw[hnn.out];exact hlt
   have hx:rules[k]? =some (rules[k]):=List.getElem?_eq_getElem hkr
   have HRG:=hidZ ((HR.out.below HB.out hg) k _ hx)
   have HQ2:=hidZ (HQ.out.trans (beginL_drop hx b))
   generalize rules[k]=x at*
   obtain⟨f,be,ro⟩:=x
   have HNEW:Hid (RuleAt ((wr.alloc (.cells #[.bool false,.bool false,.bool false,.bool false,.int .i64 0,.int .i64 0] 151)).setCells wr.heap.size 0 (ruleC (f,be,ro))) wr.heap.size (f,be,ro)):=
    RuleAt.mk' (World.rangeAt_setCells_same _ _ _ _ (there_newL wr [.bool false,.bool false,.bool false,.bool false,.int .i64 0,.int .i64 0] 151 6 rfl))
   have HBN:Hid (Below w.heap.size w ((wr.alloc (.cells #[.bool false,.bool false,.bool false,.bool false,.int .i64 0,.int .i64 0] 151)).setCells wr.heap.size 0 (ruleC (f,be,ro)))):=below_setCells _ 0 _ wr.heap.size (HB.out.alloc hzw _) hzw
   have HTN:=hidZ (there_newL wr [.bool false,.bool false,.bool false,.bool false,.int .i64 0,.int .i64 0] 151 6 rfl)
   have hd1:decide ((k:Int)<(n:Int))=true:=by simp;omega
   have hkI:(0:Int)≤(k:Int)∧(k:Int)<(n:Int):=by omega
   clear hx hkr
   go_upto_region 5 with(first
    | (refine wpList_load_mid rfl 151 (.tmp 18) rfl rg (k*6) rfl (ruleC (f,be,ro)) _ HRG.out Try.underlying151 rfl Try.ruleSize ?_)
    | (refine wpList_store_mid rfl 151 (.tmp 9) (.tmp 19) rfl wr.heap.size 0 (ruleC (f,be,ro)).toArray rfl rfl ?_ ?_ ?_ ?_;exact HTN.out;exact Try.ruleSize;(simp[ruleC,Value.oneCell'])))
   generalize (wr.alloc (.cells #[.bool false,.bool false,.bool false,.bool false,.int .i64 0,.int .i64 0] 151)).setCells wr.heap.size 0 (ruleC (f,be,ro))=w5 at*
   have HCS:Hid (w5.rangeAt wr.heap.size 0 [.bool (f 0),.bool (f 1),.bool (f 2),.bool (f 3)]):=HNEW.out.cs
   have v0:=(HBN.out.cell (p:=⟨nb,0,none⟩) hnb).trans HVF.out
   have v1:=(HBN.out.cell (p:=⟨fg,k,none⟩) hfg).trans (HFI.out k hlt)
   simp only at HQ2
   generalize fi k=fr at*
   clear HNEW HTN HRG HB
   go_wp2_with (first | (refine wpList_load_mid rfl 149 (.tmp 20) rfl wr.heap.size 0 rfl [.bool (f 0),.bool (f 1),.bool (f 2),.bool (f 3)] _ HCS.out Try.underlying149 rfl Try.condsSize ?_) | fail)
   go_loopg [7,22] 4 (fun gj cv iv wj=>∃(j:Nat) (bb:Int),cv= .int .i64 bb∧iv= .int .i64 (j:Int)∧j+gj=4∧bb=begC f fr cond j b∧wj=w5)
   case atStart=>exact⟨0,b,rfl,rfl,rfl,rfl,rfl⟩
   case round=>
    obtain⟨j,bb,rfl,rfl,hj4,hbb,rfl⟩:=hrel
    have HBB:=hidZ hbb
    clear hbb
    by_cases hj:j<4
    ·obtain⟨g,rfl⟩:∃g,gk=g+1:=⟨gk - 1,by omega⟩
     have HST:Hid (begC f fr cond (j+1) b=if f j=true∧j=cond then orI bb fr else bb):=by unfold Hid;rw[begC,←HBB.out]
     have hd4:decide ((j:Int)<4)=true:=by simp;omega
     by_cases hq:f j=true∧j=cond
     ·have HS2:Hid (begC f fr cond (j+1) b=orI bb fr):=by unfold Hid;rw[HST.out,if_pos hq]
      have hfj:=hq.1
      have hd2:((j:Int)==(cond:Int))=true:=by rw[hq.2];simp
      clear HST HBB hq
      go_wp2_with (first | (refine Try.wpIndex4 rfl (.tmp 21) (.tmp 22) rfl f j hj rfl rfl ?_;rw[hfj]) | fail)
      go_roundg g
      case measure=>omega
      case rel=>exact⟨j+1,orI bb fr,rfl,by go_num,by omega,HS2.out.symm,rfl⟩
     ·have HS2:Hid (begC f fr cond (j+1) b=bb):=by unfold Hid;rw[HST.out,if_neg hq]
      cases hfj:f j with
      | true=>
       have hd2:((j:Int)==(cond:Int))=false:=by rw[beq_eq_false_iff_ne];exact fun h=>hq ⟨hfj,by omega⟩
       clear HST HBB hq
       go_wp2_with (first | (refine Try.wpIndex4 rfl (.tmp 21) (.tmp 22) rfl f j hj rfl rfl ?_;rw[hfj]) | fail)
       go_roundg g
       case measure=>omega
       case rel=>exact⟨j+1,bb,rfl,by go_num,by omega,HS2.out.symm,rfl⟩
      | false=>
       clear HST HBB hq
       go_wp2_with (first | (refine Try.wpIndex4 rfl (.tmp 21) (.tmp 22) rfl f j hj rfl rfl ?_;rw[hfj]) | fail)
       go_roundg g
       case measure=>omega
       case rel=>exact⟨j+1,bb,rfl,by go_num,by omega,HS2.out.symm,rfl⟩
    ·have ej:j=4:=by omega
     have HC4:Hid (begC f fr cond 4 b=bb):=by unfold Hid;rw[HBB.out,ej]
     have hd4:decide ((j:Int)<4)=false:=by simp;omega
     clear ej HBB
     go_wp2
     go_roundg d
     case measure=>omega
     case rel=>exact⟨k+1,bb,rfl,by go_num,by omega,by rw[HQ2.out,HC4.out],HBN.out⟩
  ·have e:gk=0:=by omega
   subst e
   have HE:Hid (FC=b):=by unfold Hid;rw[HQ.out,show rules.drop k= [] by rw[List.drop_eq_nil_iff,hnn.out];omega];rfl
   have hd1:decide ((k:Int)<(n:Int))=false:=by simp;omega
   go_wp2
   go_ret
   exact⟨by rw[EFC.out,HE.out];rfl,HB.out⟩
end Go.Proofs.Ytgjgjgihceijnaa

namespace Go.Stn
open Go.RowKit
def PlacesIn (w:World)(g:Nat)(places:List (Nat→Bool)):Prop:=∀k f,places[k]? =some f→w.rangeAt g (k*256) (bitL f)
theorem PlacesIn.below {w w':World}{g B:Nat}{places:List (Nat→Bool)}(h:PlacesIn w g places)(hB:Below B w w')(hg:g<B):PlacesIn w' g places:=fun k x hk=>rangeAt_block (h k x hk) (hB.block g hg)
def alwL (b:Nat):List (Nat→Bool)→Nat→Int→Int
 | [],_,a=>a
 | f::r,p,a=>alwL b r (p+1) (if f b=true then orI a (pow2 p)else a)
def alwP (places:List (Nat→Bool))(b:Nat):Int:=alwL b places 0 0
theorem alwL_drop {places:List (Nat→Bool)}{k b:Nat}{f:Nat→Bool}(h:places[k]? =some f)(a:Int):alwL b (places.drop k) k a=alwL b (places.drop (k+1)) (k+1) (if f b=true then orI a (pow2 k)else a):=by
 have e:places.drop k=f::places.drop (k+1):=by
  obtain⟨hk,he⟩:=List.getElem?_eq_some_iff.1 h
  rw[List.drop_eq_getElem_cons hk,he]
 rw[e,alwL]
def grpL (al:Nat→Int):Nat→Nat→List Nat→List Int→List Nat×List Int
 | 0,_,ofs,P=>(ofs,P)
 | d+1,b,ofs,P=>grpL al d (b+1) (ofs++ [findP P (al b)]) (if findP P (al b)=P.length then P++ [al b]else P)
def grpP (places:List (Nat→Bool)):List Nat×List Int:=grpL (alwP places) 256 0 [] []
def grpC (ofs:List Nat)(vpl:Value):List Value:=natC ofs++ [vpl]
theorem grpC_len (ofs:List Nat)(vpl:Value)(h:ofs.length=256):(grpC ofs vpl).length=257:=by simp[grpC,natC_len,h]
theorem grpC_k (ofs:List Nat)(vpl:Value)(k:Nat)(h:k<ofs.length):(grpC ofs vpl)[k]? =some (.int .i64 (ofs[k]:Int)):=by
 unfold grpC;rw[List.getElem?_append_left (by rw[natC_len];exact h),natC_get _ _ h]
theorem grpC_256 (ofs:List Nat)(vpl:Value)(h:ofs.length=256):(grpC ofs vpl)[256]? =some vpl:=by
 unfold grpC;rw[List.getElem?_append_right (by rw[natC_len,h];exact Nat.le_refl _),natC_len,h];rfl
theorem grpC_setk (ofs:List Nat)(vpl:Value)(k x:Nat)(h:k<ofs.length):(grpC ofs vpl).set k (.int .i64 (x:Int))=grpC (ofs.set k x) vpl:=by
 unfold grpC
 rw[List.set_append_left _ _ (by rw[natC_len];exact h)]
 simp[natC,List.map_set]
theorem grpC_set256 (ofs:List Nat)(vpl u:Value)(h:ofs.length=256):(grpC ofs vpl).set 256 u=grpC ofs u:=by
 unfold grpC
 rw[List.set_append_right _ _ (by rw[natC_len,h];exact Nat.le_refl _),natC_len,h];rfl
theorem findP_le (P:List Int)(x:Int):findP P x≤P.length:=by
 by_cases h:x∈P
 ·exact Nat.le_of_lt (findP_lt h)
 ·rw[findP_none h];exact Nat.le_refl _
end Go.Stn
namespace Go.Proofs.Ytgjgjgihceijnaa
open Go.RowKit Go.Stn
set_option maxRecDepth 100000 in
set_option maxHeartbeats 1000000 in
theorem pallow_any (places:List (Nat→Bool))(qg qcap b:Nat)(vr vn:Value)(w:World)(hn:places.length≤10)(hb:b<256)(hp:PlacesIn w qg places)(hg:qg<w.heap.size):
  Calls Try.prog 59 #[.agg #[vr,vn,.slice (some ⟨qg,0,none⟩) places.length qcap],.int .i64 b] w fun e w'=>e= .returned (.int .i64 (alwP places b))∧Below w.heap.size w w':=by
 have HP:=hidZ hp
 clear hp
 obtain⟨n,hnn⟩:∃n,places.length=n:=⟨_,rfl⟩
 rw[hnn]at hn ⊢
 replace hnn:=hidZ hnn
 have c0:(w.alloc (.cells #[vr,vn,.slice (some ⟨qg,0,none⟩) n qcap] 84)).cell? ⟨w.heap.size,2,none⟩=some (.slice (some ⟨qg,0,none⟩) n qcap):=(World.cell?_alloc_at _ _ w.heap.size 2 rfl).trans rfl
 have HB0:Hid (Below w.heap.size w (w.alloc (.cells #[vr,vn,.slice (some ⟨qg,0,none⟩) n qcap] 84))):=(Below.refl _ _).alloc (Nat.le_refl _) _
 go_enter Try.func59,Try.ntmps59
 go_upto_region 2 with fail
 generalize w.alloc (.cells #[vr,vn,.slice (some ⟨qg,0,none⟩) n qcap] 84)=W at*
 go_wp2_with fail
 clear c0
 obtain⟨FC,EFC⟩:∃c,alwP places b=c:=⟨_,rfl⟩
 have HFC:Hid (alwL b places 0 0=FC):=EFC
 replace EFC:=hidZ EFC
 go_loopg [5,11] n (fun gk cv iv wr=>∃(k:Nat) (a:Int),cv= .int .i64 a∧iv= .int .i64 (k:Int)∧k+gk=n∧FC=alwL b (places.drop k) k a∧Below w.heap.size w wr)
 case atStart=>exact⟨0,0,rfl,rfl,by omega,HFC.out.symm,HB0.out⟩
 case round=>
  obtain⟨k,a,rfl,rfl,hkn,heq,hbl⟩:=hrel
  have HQ:=hidZ heq
  have HB:=hidZ hbl
  have hzw:=hbl.size
  clear heq hbl HB0 HFC
  by_cases hlt:k<n
  ·obtain⟨d,rfl⟩:∃d,gk=d+1:=⟨gk - 1,by omega⟩
   have hkr:k<places.length:=by rw[hnn.out];exact hlt
   have hx:places[k]? =some (places[k]):=List.getElem?_eq_getElem hkr
   have HRG:=hidZ ((HP.out.below HB.out hg) k _ hx)
   have HQ2:=hidZ (HQ.out.trans (alwL_drop hx a))
   generalize places[k]=f at*
   have HTN:=hidZ (there_newA wr Try.zeroCells187 187 wr.heap.size 256 Try.bytesZero rfl)
   have HNEW:Hid (((wr.alloc (.cells Try.zeroCells187 187)).setCells wr.heap.size 0 (bitL f)).rangeAt wr.heap.size 0 (bitL f)):=World.rangeAt_setCells_same _ _ _ _ (by rw[bitL_len];exact HTN.out)
   have HBN:Hid (Below w.heap.size w ((wr.alloc (.cells Try.zeroCells187 187)).setCells wr.heap.size 0 (bitL f))):=below_setCells _ 0 _ wr.heap.size (HB.out.alloc hzw _) hzw
   have hd1:decide ((k:Int)<(n:Int))=true:=by simp;omega
   have hkI:(0:Int)≤(k:Int)∧(k:Int)<(n:Int):=by omega
   clear hx hkr
   go_upto_region 5 with(first
    | (refine wpList_load_bits rfl 187 (.tmp 14) rfl qg (k*256) f _ rfl HRG.out Try.underlying187 rfl Try.bytesSize ?_)
    | (refine wpList_store_bits rfl 187 (.tmp 7) (.tmp 15) rfl wr.heap.size 0 f ?_ ?_ ?_ Try.bytesSize ?_;rfl;rfl;exact HTN.out))
   generalize (wr.alloc (.cells Try.zeroCells187 187)).setCells wr.heap.size 0 (bitL f)=w5 at*
   have cb:w5.cell? ⟨wr.heap.size,b,none⟩=some (.bool (f b)):=by have:=HNEW.out b _ (bitL_get f b hb);rw[Nat.zero_add]at this;exact this
   have hbI:(0:Int)≤(b:Int)∧(b:Int)<256:=by omega
   clear HNEW HTN HRG HB
   cases hfb:f b with
   | true=>
    rw[hfb]at cb HQ2
    rw[if_pos rfl]at HQ2
    go_wp2_with fail
    refine(psingle_any k (by omega) w5).mono ?_
    rintro e w6 ⟨rfl,rfl⟩
    go_wp2
    go_roundg d
    case measure=>omega
    case rel=>exact⟨k+1,orI a (pow2 k),rfl,by go_num,by omega,HQ2.out,HBN.out⟩
   | false=>
    rw[hfb]at cb HQ2
    rw[if_neg (by decide)]at HQ2
    go_wp2
    go_roundg d
    case measure=>omega
    case rel=>exact⟨k+1,a,rfl,by go_num,by omega,HQ2.out,HBN.out⟩
  ·have e:gk=0:=by omega
   subst e
   have HE:Hid (FC=a):=by unfold Hid;rw[HQ.out,show places.drop k= [] by rw[List.drop_eq_nil_iff,hnn.out];omega];rfl
   have hd1:decide ((k:Int)<(n:Int))=false:=by simp;omega
   go_wp2
   go_ret
   exact⟨by rw[EFC.out,HE.out];rfl,HB.out⟩
end Go.Proofs.Ytgjgjgihceijnaa

namespace Go.Proofs.Ytgjgjgihceijnaa
open Go.RowKit Go.Stn
theorem Try.grpZeroA:Try.zeroCells89=(grpC (List.replicate 256 0) (.slice none 0 0)).toArray:=by kernel_rfl
theorem Try.grpZeroL:Try.zeroCells89.toList=grpC (List.replicate 256 0) (.slice none 0 0):=by rw[Try.grpZeroA]
theorem Try.grpZeroSize:Try.zeroCells89.size=257:=by kernel_rfl
theorem Try.grpSize:(Try.prog.info? 89).map (·.size)=some 257:=by kernel_rfl
theorem Try.grpZeroOne:Try.zeroCells89.all (·.oneCell')=true:=by kernel_rfl
theorem row1_of {w:World}{base e:Nat}{v:Value}{l:List Int}(h:w.ownsRow base e 1 v l.length (intC l)):Row1 w v l:=by
 refine⟨?_⟩
 rcases h.2 with⟨hv,hn⟩ | ⟨g,cap,cur,rfl,hbg,hg,hnc,hcm,hcs,htk⟩
 ·exact .inl ⟨hv,List.eq_nil_of_length_eq_zero hn⟩
 ·refine .inr ⟨g,cap,rfl,hnc,hcm,fun k x hk=> ?_⟩
  have:=h.cells rfl k (.int .i64 x) (intC_get l k x hk)
  rw[addr_add]at this;exact this
structure GW (w0 w:World)(ofs:List Nat)(P:List Int)(vr vn vp vpl:Value):Prop where
 bl:Below w0.heap.size w0 w
 fl:w.rangeAt w0.heap.size 0 [vr,vn,vp]
 t1:w.there (w0.heap.size+1) 0 257
 rg:w.rangeAt (w0.heap.size+1+1) 0 (grpC ofs vpl)
 t2:w.there (w0.heap.size+1+1) 0 257
 rp:w.ownsRow (w0.heap.size+3) 136 1 vpl P.length (intC P)
 hz:w0.heap.size+3≤w.heap.size
 ln:ofs.length=256
variable {w0 w w':World} {ofs:List Nat} {P:List Int} {vr vn vp vpl:Value}
theorem GW.below (h:GW w0 w ofs P vr vn vp vpl)(hB:Below w.heap.size w w'):GW w0 w' ofs P vr vn vp vpl:=by
 have hz:=h.hz
 exact⟨h.bl.trans (hB.mono (by omega)),rangeAt_block h.fl (hB.block _ (by omega)),there_block h.t1 (hB.block _ (by omega)),rangeAt_block h.rg (hB.block _ (by omega)),there_block h.t2 (hB.block _ (by omega)),row_stay h.rp hB,by have:=hB.size;omega,h.ln⟩
theorem GW.set (h:GW w0 w ofs P vr vn vp vpl){k:Nat}{u:Value}{ofs':List Nat}(hk:k<257)(he:(grpC ofs vpl).set k u=grpC ofs' vpl)(hl:ofs'.length=256):GW w0 (w.setCell ⟨w0.heap.size+1+1,k,none⟩ u) ofs' P vr vn vp vpl:=by
 have hz:=h.hz
 refine⟨h.bl.setCell (p:=⟨w0.heap.size+1+1,k,none⟩) (by show w0.heap.size≤w0.heap.size+1+1;omega) u,rangeAt_other h.fl (by omega) u,there_set h.t1 _ _, ?_,there_set h.t2 _ _,ownsRow_setCell_below h.rp (by show w0.heap.size+1+1<w0.heap.size+3;omega) _,by simp[World.setCell];omega,hl⟩
 rw[←he];exact rangeAt_setL h.rg k (by rw[grpC_len _ _ h.ln];exact hk) u
theorem GW.cell (h:GW w0 w ofs P vr vn vp vpl){k:Nat}{v:Value}(hk:(grpC ofs vpl)[k]? =some v):w.cell? ⟨w0.heap.size+1+1,k,none⟩=some v:=by
 have:=h.rg k v hk;rw[Nat.zero_add]at this;exact this
theorem GW.fz (h:GW w0 w ofs P vr vn vp vpl){k:Nat}(hk:k<257):w.frozen? ⟨w0.heap.size+1+1,k,none⟩=false:=by
 have:=(h.t2 k hk).2;rw[Nat.zero_add]at this;exact this
theorem GW.more {w4:World}(h:GW w0 w ofs P vr vn vp vpl){o:Obj}{x:Int}{g cap:Nat}
  (hown:w4.ownsRow (w0.heap.size+3) 136 1 (.slice (some ⟨g,0,none⟩) (P.length+1) cap) (P.length+1) (intC P++ [.int .i64 x])) (hgrow:(w.alloc o).grownBy w4 vpl.ownBlock):
  GW w0 (w4.setCell ⟨w0.heap.size+1+1,256,none⟩ (.slice (some ⟨g,0,none⟩) (P.length+1) cap)) ofs (P++ [x]) vr vn vp (.slice (some ⟨g,0,none⟩) (P.length+1) cap)∧Below (w0.heap.size+3) w w4:=by
 have hz:=h.hz
 have hsz:=hgrow.size
 simp at hsz
 have blk:∀k,k<w0.heap.size+3→w4.heap[k]? =w.heap[k]? :=fun k hk=>(hgrow.block k (by simp;omega) (fun e=>by have:=(h.rp.lt k e.symm).1;omega)).trans (Below.heap_alloc w o k (by omega))
 have hb:Below (w0.heap.size+3) w w4:=⟨hgrow.os,hgrow.tape,hgrow.output,by omega,blk⟩
 have hr4:w4.rangeAt (w0.heap.size+1+1) 0 (grpC ofs vpl):=rangeAt_block h.rg (blk _ (by omega))
 refine⟨⟨(h.bl.trans (hb.mono (by omega))).setCell (p:=⟨w0.heap.size+1+1,256,none⟩) (by show w0.heap.size≤w0.heap.size+1+1;omega) _,rangeAt_other (rangeAt_block h.fl (blk _ (by omega))) (by omega) _,there_set (there_block h.t1 (blk _ (by omega))) _ _, ?_,there_set (there_block h.t2 (blk _ (by omega))) _ _, ?_,by simp[World.setCell];omega,h.ln⟩,hb⟩
 ·rw[←grpC_set256 ofs vpl _ h.ln];exact rangeAt_setL hr4 256 (by rw[grpC_len _ _ h.ln];omega) _
 ·rw[intC_snoc,List.length_append];exact ownsRow_setCell_below hown (by show w0.heap.size+1+1<w0.heap.size+3;omega) _
def GroupOut (w:World)(R:List Nat×List Int)(e:Ending)(w':World):Prop:=
 ∃vpl,e= .returned (.agg (grpC R.1 vpl).toArray)∧R.1.length=256∧w'.ownsRow (w.heap.size+3) 136 1 vpl R.2.length (intC R.2)∧Below w.heap.size w w'
set_option maxRecDepth 100000 in
set_option maxHeartbeats 1000000 in
theorem pgroup_any (places:List (Nat→Bool))(qg qcap:Nat)(vr vn:Value)(w:World)(hn:places.length≤10)(hp:PlacesIn w qg places)(hg:qg<w.heap.size):
  Calls Try.prog 42 #[.agg #[vr,vn,.slice (some ⟨qg,0,none⟩) places.length qcap]] w fun e w'=>GroupOut w (grpP places) e w':=by
 have HP:=hidZ hp
 clear hp
 obtain⟨vp,EVP⟩:∃v,Value.slice (some ⟨qg,0,none⟩) places.length qcap=v:=⟨_,rfl⟩
 rw[EVP]
 have HT2:=hidZ (there_newA ((w.alloc (.cells #[vr,vn,vp] 84)).alloc (.cells Try.zeroCells89 89)) Try.zeroCells89 89 (w.heap.size+1+1) 257 Try.grpZeroSize (by simp))
 have HG0:Hid (GW w ((((w.alloc (.cells #[vr,vn,vp] 84)).alloc (.cells Try.zeroCells89 89)).alloc (.cells Try.zeroCells89 89)).setCells (w.heap.size+1+1) 0 Try.zeroCells89.toList) (List.replicate 256 0) [] vr vn vp (.slice none 0 0)):=by
  have b1:Below w.heap.size w (((w.alloc (.cells #[vr,vn,vp] 84)).alloc (.cells Try.zeroCells89 89)).alloc (.cells Try.zeroCells89 89)):=(((Below.refl _ _).alloc (Nat.le_refl _) _).alloc (by simp) _).alloc (by simp;omega) _
  have hz:=(below_setCells Try.zeroCells89.toList 0 (((w.alloc (.cells #[vr,vn,vp] 84)).alloc (.cells Try.zeroCells89 89)).alloc (.cells Try.zeroCells89 89)) (w.heap.size+1+1) (Below.refl 0 _) (Nat.zero_le _)).size
  simp at hz
  have b2:Below (w.heap.size+1+1) (((w.alloc (.cells #[vr,vn,vp] 84)).alloc (.cells Try.zeroCells89 89)).alloc (.cells Try.zeroCells89 89)) ((((w.alloc (.cells #[vr,vn,vp] 84)).alloc (.cells Try.zeroCells89 89)).alloc (.cells Try.zeroCells89 89)).setCells (w.heap.size+1+1) 0 Try.zeroCells89.toList):=below_setCells _ 0 _ _ (Below.refl _ _) (Nat.le_refl _)
  have f0:=rangeAt_new w #[vr,vn,vp] 84
  have f1:(((w.alloc (.cells #[vr,vn,vp] 84)).alloc (.cells Try.zeroCells89 89)).alloc (.cells Try.zeroCells89 89)).rangeAt w.heap.size 0 [vr,vn,vp]:=rangeAt_block (rangeAt_block f0 (Below.heap_alloc _ _ _ (by simp))) (Below.heap_alloc _ _ _ (by simp;omega))
  have t1:=there_newA (w.alloc (.cells #[vr,vn,vp] 84)) Try.zeroCells89 89 (w.heap.size+1) 257 Try.grpZeroSize (by simp)
  refine⟨b1.trans (b2.mono (by omega)),rangeAt_block f1 (b2.block _ (by omega)),there_block (World.there_alloc t1 _) (b2.block _ (by omega)), ?_,World.there_setCells HT2.out _ _ _,World.ownsRow_nil _ _ _ _,by omega,List.length_replicate⟩
  rw[←Try.grpZeroL]
  exact World.rangeAt_setCells_same _ _ _ _ (by rw[Array.length_toList,Try.grpZeroSize];exact HT2.out)
 go_enter Try.func42,Try.ntmps42
 go_upto_region 2 with(first
  | (refine wpList_store_mid rfl 89 (.tmp 3) (.tmp 7) rfl (w.heap.size+1+1) 0 Try.zeroCells89 ?_ rfl ?_ ?_ Try.grpZeroOne ?_;rfl;(rw[Try.grpZeroSize];exact HT2.out);(rw[Try.grpZeroSize];exact Try.grpSize)))
 generalize (((w.alloc (.cells #[vr,vn,vp] 84)).alloc (.cells Try.zeroCells89 89)).alloc (.cells Try.zeroCells89 89)).setCells (w.heap.size+1+1) 0 Try.zeroCells89.toList=W0 at*
 clear HT2
 obtain⟨FC,EFC⟩:∃c,grpP places=c:=⟨_,rfl⟩
 have HFC:Hid (grpL (alwP places) 256 0 [] []=FC):=EFC
 replace EFC:=hidZ EFC
 replace EVP:=hidZ EVP
 go_wp2_with fail
 go_loopg [8] 256 (fun gk iv wr=>∃(b:Nat) (ofs:List Nat) (P:List Int) (vpl:Value),iv= .int .i64 (b:Int)∧b+gk=256∧ofs.length=b∧P.length≤b∧FC=grpL (alwP places) gk b ofs P∧GW w wr (ofs++List.replicate gk 0) P vr vn vp vpl)
 case atStart=>exact⟨0,[],[],.slice none 0 0,rfl,rfl,rfl,Nat.le_refl _,HFC.out.symm,HG0.out⟩
 case round=>
  obtain⟨b,ofs,P,vpl,rfl,hbg,hol,hPl,heq,hgw⟩:=hrel
  have HQ:=hidZ heq
  have HG:=hidZ hgw
  have HOL:=hidZ hol
  clear heq hgw hol HG0 HFC
  by_cases hlt:b<256
  ·obtain⟨d,rfl⟩:∃d,gk=d+1:=⟨gk - 1,by omega⟩
   have hd1:decide ((b:Int)<256)=true:=by simp;omega
   have hal:=pallow_any places qg qcap b vr vn wr hn hlt (HP.out.below HG.out.bl hg) (by have:=HG.out.bl.size;omega)
   rw[EVP.out]at hal
   have HQ2:Hid (FC=grpL (alwP places) d (b+1) (ofs++ [findP P (alwP places b)]) (if findP P (alwP places b)=P.length then P++ [alwP places b]else P)):=HQ.out
   generalize alwP places b=x at*
   go_wp2_with (first | (refine wpList_load_mid rfl 84 (.tmp 1) rfl w.heap.size 0 rfl [vr,vn,vp] _ HG.out.fl Try.underlying84 rfl Try.fileSize ?_) | fail)
   refine hal.mono ?_
   rintro e w1 ⟨rfl,hb1⟩
   have HG1:=hidZ (HG.out.below hb1)
   clear hb1 hal HG
   have c256:=HG1.out.cell (grpC_256 _ _ HG1.out.ln)
   go_wp2_with fail
   refine(pfind_any P vpl x w1 (by omega) (row1_of HG1.out.rp)).mono ?_
   rintro e w2 ⟨rfl,rfl⟩
   have hfl:=findP_le P x
   obtain⟨fp,hfp⟩:∃f,findP P x=f:=⟨_,rfl⟩
   rw[hfp]at HQ2 hfl ⊢
   replace hfp:=hidZ hfp
   obtain⟨va,vcap,hvp⟩:=rowSlice HG1.out.rp
   subst hvp
   have hml:b<(ofs++List.replicate (d+1) 0).length:=by rw[HG1.out.ln];exact hlt
   have HE:Hid ((ofs++List.replicate (d+1) 0).set b fp=(ofs++ [fp])++List.replicate d 0):=by unfold Hid;rw[←HOL.out];exact set_next ofs d fp
   have hbI:(0:Int)≤(b:Int)∧(b:Int)<256:=by omega
   by_cases hfe:fp=P.length
   ·rw[if_pos hfe]at HQ2
    have hd2:((fp:Int)==(P.length:Int))=true:=by rw[hfe];simp
    have hne:some (w.heap.size+1+1)≠(Value.slice va P.length vcap).ownBlock:=fun e=>by have:=(HG1.out.rp.lt _ e.symm).1;omega
    have f256:=HG1.out.fz (k:=256) (by omega)
    have hzz:=HG1.out.hz
    clear hfe
    go_wp2_with (first | (at_builtin;refine wpList_app1 w2 rfl (.tmp 24) (.tmp 26) 87 rfl (w.heap.size+3) 136 (.int .i64 0) 1 8 Try.underlying87 Try.infoSet rfl (by decide) (by decide) (.slice va P.length vcap) P.length (intC P) [.int .i64 x] _ rfl HG1.out.rp _ rfl rfl rfl (by simp[Value.oneCell']) (by omega) (by omega) ?_;intro g4 cap4 w4 hown4 hgrow4 hat4 hlt4;have HM:=hidZ (HG1.out.more (x:=x) hown4 hgrow4);have m3:=(HM.out.2.cell (p:=⟨w.heap.size+1+1,256,none⟩) (show w.heap.size+1+1<w.heap.size+3 by omega)).trans c256;have n3:=(HM.out.2.frozen (p:=⟨w.heap.size+1+1,256,none⟩) (show w.heap.size+1+1<w.heap.size+3 by omega)).trans f256;have e5:=HM.out.1.cell (grpC_k _ _ b hml);have e6:=HM.out.1.fz (k:=b) (by omega);clear c256 f256) | fail)
    have HGS:=hidZ (HM.out.1.set (k:=b) (u:= .int .i64 (fp:Int)) (by omega) (grpC_setk _ _ b fp hml) (by rw[List.length_set];exact HM.out.1.ln))
    rw[HE.out]at HGS
    go_roundg d
    case measure=>omega
    case rel=>exact⟨b+1,ofs++ [fp],P++ [x],_,by go_num,by omega,by simp[HOL.out],by simp;omega,HQ2.out,HGS.out⟩
   ·rw[if_neg hfe]at HQ2
    have hd2:((fp:Int)==(P.length:Int))=false:=by rw[beq_eq_false_iff_ne];omega
    have e5:=HG1.out.cell (grpC_k _ _ b hml)
    have e6:=HG1.out.fz (k:=b) (by omega)
    have HGS:=hidZ (HG1.out.set (k:=b) (u:= .int .i64 (fp:Int)) (by omega) (grpC_setk _ _ b fp hml) (by rw[List.length_set];exact HG1.out.ln))
    rw[HE.out]at HGS
    clear hfe
    generalize (ofs++List.replicate (d+1) 0)[b]=old at*
    go_wp2
    go_roundg d
    case measure=>omega
    case rel=>exact⟨b+1,ofs++ [fp],P,_,by go_num,by omega,by simp[HOL.out],by omega,HQ2.out,HGS.out⟩
  ·have e:gk=0:=by omega
   subst e
   have hd1:decide ((b:Int)<256)=false:=by simp;omega
   have HE:Hid (FC=(ofs,P)):=HQ.out
   have HGF:=HG
   rw[List.replicate_zero,List.append_nil]at HGF
   obtain⟨va,vcap,hvp⟩:=rowSlice HGF.out.rp
   subst hvp
   have HLEN:=hidZ (grpC_len ofs (.slice va P.length vcap) HGF.out.ln)
   have HONE:Hid (∀v∈grpC ofs (.slice va P.length vcap),v.oneCell'=true):=fun v hv=>by
    unfold grpC natC at hv
    rcases List.mem_append.1 hv with h1 | h1
    ·rw[List.mem_map]at h1;obtain⟨y,_,rfl⟩:=h1;rfl
    ·rw[List.mem_singleton]at h1;rw[h1];rfl
   obtain⟨IL,EIL⟩:∃l,grpC ofs (.slice va P.length vcap)=l:=⟨_,rfl⟩
   have HIM:Hid (wr.rangeAt (w.heap.size+1+1) 0 IL):=by rw[←EIL];exact HGF.out.rg
   rw[EIL]at HONE HLEN
   replace EIL:=hidZ EIL
   have HSZ:Hid (IL.toArray.size=257):=by unfold Hid;simpa using HLEN.out
   have HT0:Hid (wr.there (w.heap.size+1) 0 IL.length):=by unfold Hid;rw[HLEN.out];exact HGF.out.t1
   clear HG
   go_wp2_with (first
    | (refine wpList_load_mid rfl 89 (.tmp 3) rfl (w.heap.size+1+1) 0 rfl IL _ HIM.out Try.underlying89 rfl ?_ ?_;(rw[HLEN.out];exact Try.grpSize))
    | (refine wpList_store_mid rfl 89 (.tmp 2) (.tmp 34) rfl (w.heap.size+1) 0 IL.toArray rfl rfl ?_ ?_ (all_oneCell_toArray HONE.out) ?_;(rw[HSZ.out];exact HGF.out.t1);(rw[HSZ.out];exact Try.grpSize)))
   refine ret_cell1 Try.results42 (w.heap.size+1) 0 IL _ rfl ?_ Try.underlying89 rfl (by rw[HLEN.out];exact Try.grpSize) rfl ?_
   ·exact World.rangeAt_setCells_same _ _ _ _ HT0.out
   ·refine⟨.slice va P.length vcap, ?_, ?_, ?_, ?_⟩
    ·rw[EFC.out,HE.out,EIL.out]
    ·rw[EFC.out,HE.out];exact HGF.out.ln
    ·rw[EFC.out,HE.out];exact ownsRow_setCells_below HGF.out.rp (by omega) _ 0
    ·exact below_setCells _ 0 _ _ HGF.out.bl (Nat.le_succ _)
end Go.Proofs.Ytgjgjgihceijnaa

