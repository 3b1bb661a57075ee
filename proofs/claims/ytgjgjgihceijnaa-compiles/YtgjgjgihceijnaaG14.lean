/- Texts put together: PlLink1. -/
import Derived.Test.YtgjgjgihceijnaaG13
namespace Go.Proofs.Ytgjgjgihceijnaa
open Go.RowKit Go.Stn
theorem Try.nodeSize:(Try.prog.info? 191).map (·.size)=some 3:=by kernel_rfl
theorem Try.infoPart:(Try.prog.info? 193).map (fun i=>(i.zero,i.size,i.bytes))=some (some (.agg #[.int .i64 0,.int .i64 0,.bool false]),3,24):=by kernel_rfl
theorem made3_get (a b c:Value)(n j i:Nat)(hj:j<n)(hi:i<3):(madeCells #[a,b,c] (n*3)).toList[j*3+i]? = [a,b,c][i]? :=by
 unfold madeCells
 rw[Array.toList_map,List.getElem?_map,Array.toList_range,List.getElem?_range (by omega),Option.map_some]
 have e:(j*3+i) % (#[a,b,c]:Array Value).size=i:=by show(j*3+i) % 3=i;omega
 rw[e]
 have:i=0∨i=1∨i=2:=by omega
 rcases this with rfl | rfl | rfl<;> rfl
theorem parts_new {w:World}{base pb n:Nat}(h:w.ownsRow base 193 3 (.slice (some ⟨pb,0,none⟩) n n) n (madeCells #[.int .i64 0,.int .i64 0,.bool false] (n*3)).toList):PartsIn w pb n (fun _=>part0):=fun j hj=>by
 have hc:∀i v,i<3→(partC part0)[i]? =some v→w.cell? ⟨pb,j*3+i,none⟩=some v:=fun i v hi hv=>by
  have:=h.cells rfl (j*3+i) v (by rw[made3_get _ _ _ n j i hj hi];exact hv)
  rw[addr_add]at this;exact this
 refine⟨fun i v hv=>hc i v (List.getElem?_eq_some_iff.1 hv).1 hv,fun i hi=>⟨?_,row_frozen h _⟩⟩
 have:i=0∨i=1∨i=2:=by omega
 rcases this with rfl | rfl | rfl
 ·rw[hc 0 _ (by omega) rfl];rfl
 ·rw[hc 1 _ (by omega) rfl];rfl
 ·rw[hc 2 _ (by omega) rfl];rfl
theorem LW.keep {w0 w w':World}{n B:Nat}{ps:Nat→PartT}{next:Nat→Int}{vr vn vp:Value}(h:LW w0 w n ps next vr vn vp)(hB:Below B w w')(h4:w0.heap.size+4≤B):LW w0 w' n ps next vr vn vp:=by
 have hz:=h.hz
 exact⟨h.bl.trans (hB.mono (by omega)),rangeAt_block h.fl (hB.block _ (by omega)),there_block h.t1 (hB.block _ (by omega)),h.nt.below hB (by omega),h.pt.block (hB.block _ (by omega)),by have:=hB.size;omega⟩
theorem net_range {w:World}{nb:Nat}{vf vl:Value}{next:Nat→Int}(h:NetAt w nb vf vl next):w.rangeAt nb 0 (netA vf vl next).toList:=fun j v hv=>by
 rw[Nat.zero_add]
 have hj:j<12:=(List.getElem?_eq_some_iff.1 hv).1
 have:j=0∨j=1∨j=2∨j=3∨j=4∨j=5∨j=6∨j=7∨j=8∨j=9∨j=10∨j=11:=by omega
 rcases this with rfl | rfl | rfl | rfl | rfl | rfl | rfl | rfl | rfl | rfl | rfl | rfl
 ·cases hv;exact h.c0
 ·cases hv;exact h.c1
 all_goals (cases hv)
 ·exact h.nx 0 (by omega)
 ·exact h.nx 1 (by omega)
 ·exact h.nx 2 (by omega)
 ·exact h.nx 3 (by omega)
 ·exact h.nx 4 (by omega)
 ·exact h.nx 5 (by omega)
 ·exact h.nx 6 (by omega)
 ·exact h.nx 7 (by omega)
 ·exact h.nx 8 (by omega)
 ·exact h.nx 9 (by omega)
def LinkOut (w:World)(nodes:List (Int×Int×Int))(rules:List ((Nat→Bool)×Int×Int))(e:Ending)(w':World):Prop:=
 ∃vf vl,e= .returned (.agg (netA vf vl (linkL nodes 0 (fun _=>part0) (fun _=>0)).2))∧Below w.heap.size w w'∧
  w'.ownsRow (w.heap.size+4) 136 1 vf rules.length (intC (rules.map fun x=>((linkL nodes 0 (fun _=>part0) (fun _=>0)).1 x.2.2.toNat).1))∧
  w'.ownsRow (w.heap.size+4) 136 1 vl rules.length (intC (rules.map fun x=>((linkL nodes 0 (fun _=>part0) (fun _=>0)).1 x.2.2.toNat).2.1))
set_option maxRecDepth 100000 in
set_option maxHeartbeats 1000000 in
theorem plink_any (nodes:List (Int×Int×Int))(rules:List ((Nat→Bool)×Int×Int))(ng ncap rg rcap:Nat)(vp:Value)(w:World)(hn:nodes.length≤1000)(hok:nodesOk nodes)(hN:NodesIn w ng nodes)(hg:ng<w.heap.size)
  (hrn:rules.length≤1000) (hR:RulesIn w rg rules) (hrg:rg<w.heap.size) (hro:∀x∈rules,0≤x.2.2∧x.2.2<nodes.length):
  Calls Try.prog 61 #[.agg #[.slice (some ⟨rg,0,none⟩) rules.length rcap,.slice (some ⟨ng,0,none⟩) nodes.length ncap,vp]] w fun e w'=>LinkOut w nodes rules e w':=by
 obtain⟨m,hmm⟩:∃m,rules.length=m:=⟨_,rfl⟩
 rw[hmm]at hrn ⊢
 replace hmm:=hidZ hmm
 have HRU:=hidZ hR
 have HRO:=hidZ hro
 clear hR hro
 obtain⟨vr,EVR⟩:∃v,Value.slice (some ⟨rg,0,none⟩) m rcap=v:=⟨_,rfl⟩
 rw[EVR]
 replace EVR:=hidZ EVR
 have HN:=hidZ hN
 have HOK:=hidZ hok
 clear hN hok
 obtain⟨i0,hi0,hz0,hz1,hz2⟩:=info_parts Try.infoPart
 have HI:Hid (Try.prog.info? 193=some i0∧i0.zero=some (.agg #[.int .i64 0,.int .i64 0,.bool false])∧i0.size=3∧i0.bytes=24):=⟨hi0,hz0,hz1,hz2⟩
 clear hi0 hz0 hz1 hz2
 go_enter Try.func61,Try.ntmps61
 go_upto_region 2 with fail
 obtain⟨n,hnn⟩:∃n,nodes.length=n:=⟨_,rfl⟩
 rw[hnn]at hn ⊢
 replace hnn:=hidZ hnn
 obtain⟨W0,hW0⟩:∃W,((w.alloc (.cells #[vr,.slice (some ⟨ng,0,none⟩) n ncap,vp] 84)).alloc (.cells (netA (.slice none 0 0) (.slice none 0 0) (fun _=>0)) 141)).alloc (.cells (netA (.slice none 0 0) (.slice none 0 0) (fun _=>0)) 141)=W:=⟨_,rfl⟩
 have hz0:W0.heap.size=w.heap.size+1+1+1:=by rw[←hW0];simp
 have HB0:Hid (Below w.heap.size w W0):=by unfold Hid;rw[←hW0];exact(((Below.refl _ _).alloc (Nat.le_refl _) _).alloc (by simp) _).alloc (by simp;omega) _
 have HF0:Hid (W0.rangeAt w.heap.size 0 [vr,.slice (some ⟨ng,0,none⟩) n ncap,vp]):=by
  unfold Hid;rw[←hW0]
  exact rangeAt_block (rangeAt_block (rangeAt_new w #[vr,.slice (some ⟨ng,0,none⟩) n ncap,vp] 84) (Below.heap_alloc _ _ _ (by simp))) (Below.heap_alloc _ _ _ (by simp;omega))
 have HT0:Hid (W0.there (w.heap.size+1) 0 12):=by
  unfold Hid;rw[←hW0]
  exact World.there_alloc (there_newA (w.alloc (.cells #[vr,.slice (some ⟨ng,0,none⟩) n ncap,vp] 84)) (netA (.slice none 0 0) (.slice none 0 0) (fun _=>0)) 141 (w.heap.size+1) 12 rfl (by simp)) _
 have HN0:Hid (NetAt W0 (w.heap.size+1+1) (.slice none 0 0) (.slice none 0 0) (fun _=>0)):=by
  unfold Hid;rw[←hW0];exact NetAt.box _ _ _ _ _ _ (by simp)
 have c1:W0.cell? ⟨w.heap.size,1,none⟩=some (.slice (some ⟨ng,0,none⟩) n ncap):=HF0.out 1 _ rfl
 unfold netA at hW0
 rw[hW0]
 clear hW0
 go_upto_block 0 with(first | (at_make;refine wpList_make_full W0 rfl _ _ 189 rfl W0.heap.size 193 i0 (.agg #[.int .i64 0,.int .i64 0,.bool false]) 3 Try.underlying189 HI.out.1 HI.out.2.1 HI.out.2.2.1 .i64 .i64 _ _ n rfl rfl rfl rfl (by rw[HI.out.2.2.2];omega) (by unfold maxLen;omega) (Nat.le_refl _) ?_;intro w1 hown hg1;have HB1:Hid (Below W0.heap.size W0 w1):=(⟨hg1.os,hg1.tape,hg1.output,hg1.size,fun k hk=>hg1.block k hk (by simp)⟩:Below W0.heap.size W0 w1);have c1':=(HB1.out.cell (p:=⟨w.heap.size,1,none⟩) (show w.heap.size<W0.heap.size by omega)).trans c1;clear c1))
 have HL1:Hid (LW w w1 n (fun _=>part0) (fun _=>0) vr (.slice (some ⟨ng,0,none⟩) n ncap) vp):=by
  refine⟨HB0.out.trans (HB1.out.mono (by omega)),rangeAt_block HF0.out (HB1.out.block _ (by omega)),there_block HT0.out (HB1.out.block _ (by omega)),HN0.out.below HB1.out (by omega), ?_, ?_⟩
  ·first | exact parts_new hown | (rw[←hz0];exact parts_new hown)
  ·first | (have:=(hown.lt W0.heap.size rfl).2;omega) | (have:=(hown.lt (w.heap.size+1+1+1) rfl).2;omega)
 try rw[hz0]
 clear hown hg1 HB1 HB0 HF0 HT0 HN0 c1' hz0
 obtain⟨FC,EFC⟩:∃c,linkL nodes 0 (fun _=>part0) (fun _=>0)=c:=⟨_,rfl⟩
 replace EFC:=hidZ EFC
 go_cut [20] from 12 to 47 (fun _ wc=>LW w wc n FC.1 FC.2 vr (.slice (some ⟨ng,0,none⟩) n ncap) vp)
 case first=>
  go_wp2_with fail
  go_loopg [20] n (fun gk iv wr=>∃(k:Nat) (ps:Nat→PartT) (next:Nat→Int),iv= .int .i64 (k:Int)∧k+gk=n∧FC=linkL (nodes.drop k) k ps next∧LW w wr n ps next vr (.slice (some ⟨ng,0,none⟩) n ncap) vp)
  case atStart=>exact⟨0,_,_,rfl,by omega,EFC.out.symm,HL1.out⟩
  case round=>
   obtain⟨k,ps,next,rfl,hkn,heq,hlw⟩:=hrel
   have HQ:=hidZ heq
   have HL:=hidZ hlw
   clear heq hlw HL1
   by_cases hlt:k<n
   ·obtain⟨d,rfl⟩:∃d,gk=d+1:=⟨gk - 1,by omega⟩
    have hkr:k<nodes.length:=by rw[hnn.out];exact hlt
    have hx:nodes[k]? =some (nodes[k]):=List.getElem?_eq_getElem hkr
    have HRG:=hidZ ((HN.out.below HL.out.bl hg) k _ hx)
    have HQ2:=hidZ (HQ.out.trans (linkL_drop hx ps next))
    have hxo:=HOK.out k _ hx
    generalize nodes[k]=x at*
    obtain⟨kd,yl,yr⟩:=x
    simp only at hxo HRG
    obtain⟨hka,hkb,hk2,hk3⟩:=hxo
    have hk1:0≤kd∧kd≤5:=⟨hka,hkb⟩
    have HBA:Hid (Below wr.heap.size wr (((wr.alloc (.cells #[.int .i64 kd,.int .i64 yl,.int .i64 yr] 191)).alloc (.cells #[.int .i64 0,.int .i64 0,.bool false] 193)).alloc (.cells #[.int .i64 0,.int .i64 0,.bool false] 193))):=(((Below.refl _ _).alloc (Nat.le_refl _) _).alloc (by simp) _).alloc (by simp;omega) _
    have HT1:Hid (Three (((wr.alloc (.cells #[.int .i64 kd,.int .i64 yl,.int .i64 yr] 191)).alloc (.cells #[.int .i64 0,.int .i64 0,.bool false] 193)).alloc (.cells #[.int .i64 0,.int .i64 0,.bool false] 193)) wr.heap.size (.int .i64 kd) (.int .i64 yl) (.int .i64 yr)):=((Three.new wr wr.heap.size _ _ _ _ rfl).alloc (by simp) _).alloc (by simp;omega) _
    have HT2:Hid (Three (((wr.alloc (.cells #[.int .i64 kd,.int .i64 yl,.int .i64 yr] 191)).alloc (.cells #[.int .i64 0,.int .i64 0,.bool false] 193)).alloc (.cells #[.int .i64 0,.int .i64 0,.bool false] 193)) (wr.heap.size+1) (.int .i64 0) (.int .i64 0) (.bool false)):=(Three.new _ (wr.heap.size+1) _ _ _ _ (by simp)).alloc (by simp) _
    have HT3:Hid (Three (((wr.alloc (.cells #[.int .i64 kd,.int .i64 yl,.int .i64 yr] 191)).alloc (.cells #[.int .i64 0,.int .i64 0,.bool false] 193)).alloc (.cells #[.int .i64 0,.int .i64 0,.bool false] 193)) (wr.heap.size+1+1) (.int .i64 0) (.int .i64 0) (.bool false)):=Three.new _ (wr.heap.size+1+1) _ _ _ _ (by simp)
    have hd1:decide ((k:Int)<(n:Int))=true:=by simp;omega
    have hkI:(0:Int)≤(k:Int)∧(k:Int)<(n:Int):=by omega
    clear hx hkr
    go_upto_region 8 with(first
     | (refine wpList_load_mid rfl 191 (.tmp 23) rfl ng (k*3) rfl [.int .i64 kd,.int .i64 yl,.int .i64 yr] _ HRG.out Try.underlying191 rfl Try.nodeSize ?_))
    generalize ((wr.alloc (.cells #[.int .i64 kd,.int .i64 yl,.int .i64 yr] 191)).alloc (.cells #[.int .i64 0,.int .i64 0,.bool false] 193)).alloc (.cells #[.int .i64 0,.int .i64 0,.bool false] 193)=A at*
    have HLW:=hidZ (HL.out.below HBA.out)
    have HLWz:=hidZ HL.out.hz
    clear HRG HL
    have HK3:=hidZ hk3
    have c0:=HT1.out.c0
    have c1:=HT1.out.c1
    have c2:=HT1.out.c2
    have hz4:w.heap.size+4≤wr.heap.size:=by have:=HLWz.out;omega
    clear hk3
    by_cases hkd:kd=0
    ·have hd2:((kd:Int) !=0)=false:=by rw[hkd];rfl
     have HND:Hid (nodeP ps (kd,yl,yr) next=wholeP kd yl part0 part0 next):=by unfold Hid nodeP;rw[if_pos hkd]
     obtain⟨PL,hPL⟩:∃p,part0=p:=⟨_,rfl⟩
     obtain⟨PR,hPR⟩:∃p,part0=p:=⟨_,rfl⟩
     have HT2':Hid (Three A (wr.heap.size+1) (.int .i64 PL.1) (.int .i64 PL.2.1) (.bool PL.2.2)):=by rw[←hPL];exact HT2
     have HT3':Hid (Three A (wr.heap.size+1+1) (.int .i64 PR.1) (.int .i64 PR.2.1) (.bool PR.2.2)):=by rw[←hPR];exact HT3
     have HND':Hid (nodeP ps (kd,yl,yr) next=wholeP kd yl PL PR next):=by rw[←hPL,←hPR];exact HND
     clear HT2 HT3 HND hPL hPR hkd
     have HT2:=HT2'
     have HT3:=HT3'
     have HND:=HND'
     clear HT2' HT3' HND'
     go_wp2_with (first
      | (refine wpList_load_mid rfl 191 (.tmp 6) rfl wr.heap.size 0 rfl [.int .i64 kd,.int .i64 yl,.int .i64 yr] _ HT1.out.range Try.underlying191 rfl Try.nodeSize ?_)
      | (refine wpList_load_mid rfl 193 (.tmp 7) rfl (wr.heap.size+1) 0 rfl (partC PL) _ HT2.out.range Try.underlying193 rfl Try.partSize ?_)
      | (refine wpList_load_mid rfl 193 (.tmp 8) rfl (wr.heap.size+1+1) 0 rfl (partC PR) _ HT3.out.range Try.underlying193 rfl Try.partSize ?_)
      | fail)
     refine(pwhole_any kd yl yr next PL PR (w.heap.size+1+1) _ _ A hk1 hk2 (by have:=HLW.out.hz;omega) HLW.out.nt).mono ?_
     rintro e w7 ⟨hg7,hn7,rfl⟩
     have HL7:=hidZ (HLW.out.net hg7 hn7)
     clear hg7 hn7 HLW HT1 HT2 HT3
     rw[←HND.out]at HL7 ⊢
     obtain⟨NP,hNP⟩:∃q,nodeP ps (kd,yl,yr) next=q:=⟨_,rfl⟩
     rw[hNP]at HL7 HQ2 ⊢
     obtain⟨pp,nx2⟩:=NP
     have HTK:=hidZ (HL7.out.pt k hlt).2
     have HL8:=hidZ (HL7.out.part hlt pp)
     replace hNP:=hidZ hNP
     clear HND
     go_wp2_with (first
      | (refine wpList_store_mid rfl 193 (.tmp 46) (.tmp 45) rfl (w.heap.size+1+1+1) (k*3) (partC pp).toArray rfl rfl ?_ ?_ ?_ ?_;exact HTK.out;exact Try.partSize;(simp[partC,Value.oneCell']))
      | fail)
     go_roundg d
     case measure=>omega
     case rel=>exact⟨k+1,_,nx2,by go_num,by omega,HQ2.out,HL8.out⟩
    ·have hd2:((kd:Int) !=0)=true:=by rw[bne_iff_ne];exact hkd
     have HND:Hid (nodeP ps (kd,yl,yr) next=wholeP kd yl (ps yl.toNat) (ps yr.toNat) next):=by unfold Hid nodeP;rw[if_neg hkd]
     obtain⟨hy1,hy2,hy3,hy4⟩:=HK3.out hkd
     have HPL:=hidZ (HLW.out.pt yl.toNat (by omega)).1
     have HPR:=hidZ (HLW.out.pt yr.toNat (by omega)).1
     have hyl:((yl.toNat:Nat):Int)=yl:=by omega
     have hyr:((yr.toNat:Nat):Int)=yr:=by omega
     generalize ps yl.toNat=PL at*
     generalize ps yr.toNat=PR at*
     generalize yl.toNat=nl at*
     generalize yr.toNat=nr at*
     subst hyl
     subst hyr
     clear hkd HK3
     have hlI:(0:Int)≤(nl:Int)∧(nl:Int)<(n:Int):=by omega
     have hrI:(0:Int)≤(nr:Int)∧(nr:Int)<(n:Int):=by omega
     have HA1B:Hid (Below (w.heap.size+4) A (A.setCells (wr.heap.size+1) 0 (partC PL))):=below_setCells _ _ _ _ (Below.refl _ _) (by omega)
     have HPR1:Hid ((A.setCells (wr.heap.size+1) 0 (partC PL)).rangeAt (w.heap.size+1+1+1) (nr*3) (partC PR)):=rangeAt_block HPR.out (HA1B.out.block _ (by omega))
     have HTA1:Hid (Three (A.setCells (wr.heap.size+1) 0 (partC PL)) wr.heap.size (.int .i64 kd) (.int .i64 (nl:Int)) (.int .i64 (nr:Int))):=HT1.out.block (setCells_block A _ _ _ _ (by omega))
     have HTA2:Hid (Three (A.setCells (wr.heap.size+1) 0 (partC PL)) (wr.heap.size+1) (.int .i64 PL.1) (.int .i64 PL.2.1) (.bool PL.2.2)):=HT2.out.stored _ _ _
     have HTA3:Hid (Three (A.setCells (wr.heap.size+1) 0 (partC PL)) (wr.heap.size+1+1) (.int .i64 0) (.int .i64 0) (.bool false)):=HT3.out.block (setCells_block A _ _ _ _ (by omega))
     have HLWA:=hidZ (HLW.out.keep HA1B.out (Nat.le_refl _))
     go_upto_region 10 with(first
      | (refine wpList_load_mid rfl 193 (.tmp 33) rfl (w.heap.size+1+1+1) (nl*3) rfl (partC PL) _ HPL.out Try.underlying193 rfl Try.partSize ?_)
      | (refine wpList_store_mid rfl 193 (.tmp 7) (.tmp 34) rfl (wr.heap.size+1) 0 (partC PL).toArray rfl rfl ?_ ?_ ?_ ?_;exact HT2.out.there;exact Try.partSize;(simp[partC,Value.oneCell'])))
     generalize A.setCells (wr.heap.size+1) 0 (partC PL)=A1 at*
     clear HT1 HT2 HT3 HLW HPL HPR c0 c1 c2 HA1B
     have d2:=HTA1.out.c2
     have HA2B:Hid (Below (w.heap.size+4) A1 (A1.setCells (wr.heap.size+1+1) 0 (partC PR))):=below_setCells _ _ _ _ (Below.refl _ _) (by omega)
     have HTB1:Hid (Three (A1.setCells (wr.heap.size+1+1) 0 (partC PR)) wr.heap.size (.int .i64 kd) (.int .i64 (nl:Int)) (.int .i64 (nr:Int))):=HTA1.out.block (setCells_block A1 _ _ _ _ (by omega))
     have HTB2:Hid (Three (A1.setCells (wr.heap.size+1+1) 0 (partC PR)) (wr.heap.size+1) (.int .i64 PL.1) (.int .i64 PL.2.1) (.bool PL.2.2)):=HTA2.out.block (setCells_block A1 _ _ _ _ (by omega))
     have HTB3:Hid (Three (A1.setCells (wr.heap.size+1+1) 0 (partC PR)) (wr.heap.size+1+1) (.int .i64 PR.1) (.int .i64 PR.2.1) (.bool PR.2.2)):=HTA3.out.stored _ _ _
     have HLWB:=hidZ (HLWA.out.keep HA2B.out (Nat.le_refl _))
     go_upto_region 11 with(first
      | (refine wpList_load_mid rfl 193 (.tmp 38) rfl (w.heap.size+1+1+1) (nr*3) rfl (partC PR) _ HPR1.out Try.underlying193 rfl Try.partSize ?_)
      | (refine wpList_store_mid rfl 193 (.tmp 8) (.tmp 39) rfl (wr.heap.size+1+1) 0 (partC PR).toArray rfl rfl ?_ ?_ ?_ ?_;exact HTA3.out.there;exact Try.partSize;(simp[partC,Value.oneCell'])))
     generalize A1.setCells (wr.heap.size+1+1) 0 (partC PR)=A2 at*
     clear HTA1 HTA2 HTA3 HLWA d2 HPR1 HA2B
     go_wp2_with (first
      | (refine wpList_load_mid rfl 191 (.tmp 6) rfl wr.heap.size 0 rfl [.int .i64 kd,.int .i64 (nl:Int),.int .i64 (nr:Int)] _ HTB1.out.range Try.underlying191 rfl Try.nodeSize ?_)
      | (refine wpList_load_mid rfl 193 (.tmp 7) rfl (wr.heap.size+1) 0 rfl (partC PL) _ HTB2.out.range Try.underlying193 rfl Try.partSize ?_)
      | (refine wpList_load_mid rfl 193 (.tmp 8) rfl (wr.heap.size+1+1) 0 rfl (partC PR) _ HTB3.out.range Try.underlying193 rfl Try.partSize ?_)
      | fail)
     refine(pwhole_any kd (nl:Int) (nr:Int) next PL PR (w.heap.size+1+1) _ _ A2 hk1 hk2 (by have:=HLWB.out.hz;omega) HLWB.out.nt).mono ?_
     rintro e w7 ⟨hg7,hn7,rfl⟩
     have HL7:=hidZ (HLWB.out.net hg7 hn7)
     clear hg7 hn7 HLWB HTB1 HTB2 HTB3
     rw[←HND.out]at HL7 ⊢
     obtain⟨NP,hNP⟩:∃q,nodeP ps (kd,(nl:Int),(nr:Int)) next=q:=⟨_,rfl⟩
     rw[hNP]at HL7 HQ2 ⊢
     obtain⟨pp,nx2⟩:=NP
     have HTK:=hidZ (HL7.out.pt k hlt).2
     have HL8:=hidZ (HL7.out.part hlt pp)
     replace hNP:=hidZ hNP
     clear HND
     go_wp2_with (first
      | (refine wpList_store_mid rfl 193 (.tmp 46) (.tmp 45) rfl (w.heap.size+1+1+1) (k*3) (partC pp).toArray rfl rfl ?_ ?_ ?_ ?_;exact HTK.out;exact Try.partSize;(simp[partC,Value.oneCell']))
      | fail)
     go_roundg d
     case measure=>omega
     case rel=>exact⟨k+1,_,nx2,by go_num,by omega,HQ2.out,HL8.out⟩
   ·have e:gk=0:=by omega
    subst e
    have HE:Hid (FC=(ps,next)):=by unfold Hid;rw[HQ.out,show nodes.drop k= [] by rw[List.drop_eq_nil_iff,hnn.out];omega];rfl
    have hd1:decide ((k:Int)<(n:Int))=false:=by simp;omega
    go_wp2
    go_meet
    case rel=>rw[HE.out];exact HL.out
 case rest=>
  have HX1:=hidZ hcut.more
  clear hcut HL1
  obtain⟨PS,NX⟩:=FC
  simp only at*
  have c0:wc.cell? ⟨w.heap.size,0,none⟩=some (.slice (some ⟨rg,0,none⟩) m rcap):=by rw[EVR.out];exact HX1.out.fl 0 _ rfl
  go_wp2_with fail
  clear c0
  go_loopg [51] m (fun gk iv wr=>∃(k:Nat) (fi la:List Int) (vf vl:Value),iv= .int .i64 (k:Int)∧k+gk=m∧fi=(rules.take k).map (fun x=>(PS x.2.2.toNat).1)∧la=(rules.take k).map (fun x=>(PS x.2.2.toNat).2.1)∧LX w wr n PS NX fi la vf vl vr (.slice (some ⟨ng,0,none⟩) n ncap) vp)
  case atStart=>exact⟨0,[],[],_,_,rfl,by omega,rfl,rfl,HX1.out⟩
  case round=>
   obtain⟨k,fi,la,vf,vl,rfl,hkm,hfi,hla,hlx⟩:=hrel
   have HL:=hidZ hlx
   have HFI:=hidZ hfi
   have HLA:=hidZ hla
   clear hlx hfi hla HX1
   by_cases hlt:k<m
   ·obtain⟨d,rfl⟩:∃d,gk=d+1:=⟨gk - 1,by omega⟩
    have hkr:k<rules.length:=by rw[hmm.out];exact hlt
    have hx:rules[k]? =some (rules[k]):=List.getElem?_eq_getElem hkr
    have HRG:=hidZ ((HRU.out.below HL.out.bl hrg) k _ hx)
    have hxr:=HRO.out _ (List.getElem_mem hkr)
    rw[hnn.out]at hxr
    have HFI2:Hid ((rules.take (k+1)).map (fun x=>(PS x.2.2.toNat).1)=fi++ [(PS (rules[k]).2.2.toNat).1]):=by unfold Hid;rw[List.take_add_one,hx,List.map_append,←HFI.out];rfl
    have HLA2:Hid ((rules.take (k+1)).map (fun x=>(PS x.2.2.toNat).2.1)=la++ [(PS (rules[k]).2.2.toNat).2.1]):=by unfold Hid;rw[List.take_add_one,hx,List.map_append,←HLA.out];rfl
    have hfl:fi.length=k:=by rw[HFI.out,List.length_map,List.length_take];omega
    have hll:la.length=k:=by rw[HLA.out,List.length_map,List.length_take];omega
    generalize rules[k]=x at*
    obtain⟨f,be,ro⟩:=x
    simp only at hxr HFI2 HLA2
    obtain⟨nr,hnr⟩:∃nr:Nat,ro=(nr:Int):=⟨ro.toNat,by omega⟩
    subst hnr
    have hnr:nr<n:=by omega
    rw[Int.toNat_natCast]at HFI2 HLA2
    have HTN:=hidZ (there_newL wr [.bool false,.bool false,.bool false,.bool false,.int .i64 0,.int .i64 0] 151 6 rfl)
    have HNEW:Hid (RuleAt ((wr.alloc (.cells #[.bool false,.bool false,.bool false,.bool false,.int .i64 0,.int .i64 0] 151)).setCells wr.heap.size 0 (ruleC (f,be,(nr:Int)))) wr.heap.size (f,be,(nr:Int))):=
     RuleAt.mk' (World.rangeAt_setCells_same _ _ _ _ HTN.out)
    have HBN:Hid (Below wr.heap.size wr ((wr.alloc (.cells #[.bool false,.bool false,.bool false,.bool false,.int .i64 0,.int .i64 0] 151)).setCells wr.heap.size 0 (ruleC (f,be,(nr:Int))))):=below_setCells _ 0 _ wr.heap.size ((Below.refl _ _).alloc (Nat.le_refl _) _) (Nat.le_refl _)
    have hd1:decide ((k:Int)<(m:Int))=true:=by simp;omega
    have hkI:(0:Int)≤(k:Int)∧(k:Int)<(m:Int):=by omega
    clear hx hkr
    go_upto_region 16 with(first
     | (refine wpList_load_mid rfl 151 (.tmp 53) rfl rg (k*6) rfl (ruleC (f,be,(nr:Int))) _ HRG.out Try.underlying151 rfl Try.ruleSize ?_)
     | (refine wpList_store_mid rfl 151 (.tmp 10) (.tmp 54) rfl wr.heap.size 0 (ruleC (f,be,(nr:Int))).toArray rfl rfl ?_ ?_ ?_ ?_;exact HTN.out;exact Try.ruleSize;(simp[ruleC,Value.oneCell'])))
    generalize (wr.alloc (.cells #[.bool false,.bool false,.bool false,.bool false,.int .i64 0,.int .i64 0] 151)).setCells wr.heap.size 0 (ruleC (f,be,(nr:Int)))=A1 at*
    have HL1:=hidZ (HL.out.below HBN.out)
    have c5:=HNEW.out.c5
    simp only at c5
    have HPP:=hidZ (HL1.out.pt nr hnr).1
    generalize PS nr=PP at*
    obtain⟨p1,p2,p3⟩:=PP
    simp only at HFI2 HLA2
    have HPP':Hid (A1.rangeAt (w.heap.size+1+1+1) (nr*3) [.int .i64 p1,.int .i64 p2,.bool p3]):=HPP
    have HL2:=hidZ (HL1.out.below ((Below.refl _ _).alloc (Nat.le_refl _) (.cells #[.int .i64 p1,.int .i64 p2,.bool p3] 193)))
    have HTH:=hidZ (Three.new A1 A1.heap.size 193 (.int .i64 p1) (.int .i64 p2) (.bool p3) rfl)
    have hrI:(0:Int)≤(nr:Int)∧(nr:Int)<(n:Int):=by omega
    have HVF:Hid (∀q,vf.ownBlock=some q→q<A1.heap.size):=fun q hq=>(HL1.out.rf.lt q hq).2
    have HVL:Hid (∀q,vl.ownBlock=some q→q<A1.heap.size):=fun q hq=>(HL1.out.rl.lt q hq).2
    have HTZ:Hid (A1.heap.size<(A1.alloc (.cells #[.int .i64 p1,.int .i64 p2,.bool p3] 193)).heap.size):=by unfold Hid;simp
    have HTW:Hid (w.heap.size+4≤A1.heap.size):=HL1.out.hz
    clear HNEW HBN HTN HRG HPP HL
    go_upto_region 17 with(first
     | (refine wpList_load_mid rfl 193 (.tmp 58) rfl (w.heap.size+1+1+1) (nr*3) rfl [.int .i64 p1,.int .i64 p2,.bool p3] _ HPP'.out Try.underlying193 rfl Try.partSize ?_))
    generalize A1.alloc (.cells #[.int .i64 p1,.int .i64 p2,.bool p3] 193)=A2 at*
    generalize A1.heap.size=tb at*
    have hfk:fi.length≤1000:=by omega
    have hlk:la.length≤1000:=by omega
    replace hfl:=hidZ hfl
    replace hll:=hidZ hll
    clear HL1 HPP' c5
    obtain⟨fa,fcap,hvf⟩:=rowSlice HL2.out.rf
    subst hvf
    obtain⟨lb,lcap,hvl⟩:=rowSlice HL2.out.rl
    subst hvl
    have e0:=HL2.out.nt.c0
    have z0:=HL2.out.nt.fz 0
    have th0:=HTH.out.c0
    have hzz:=HL2.out.hz
    go_upto_region 18 with(first | (at_builtin;refine wpList_app1 A2 rfl (.tmp 61) (.tmp 64) 87 rfl (w.heap.size+4) 136 (.int .i64 0) 1 8 Try.underlying87 Try.infoSet rfl (by decide) (by decide) (.slice fa fi.length fcap) fi.length (intC fi) [.int .i64 p1] _ rfl HL2.out.rf _ rfl rfl rfl (by simp[Value.oneCell']) (by omega) hzz ?_;intro g4 cap4 w4 hown4 hgrow4 hat4 hlt4;have HM:=hidZ (HL2.out.moreF (x:=p1) hown4 hgrow4 hat4);have m3:=(HM.out.2.cell (p:=⟨w.heap.size+1+1,0,none⟩) (show w.heap.size+1+1<w.heap.size+4 by omega)).trans e0;have n3:=(HM.out.2.frozen (p:=⟨w.heap.size+1+1,0,none⟩) (show w.heap.size+1+1<w.heap.size+4 by omega)).trans z0;have HTB:=hidZ (HTH.out.block ((hgrow4.block tb (by have:=HTZ.out;simp;omega) (fun e=>by have:=HVF.out tb e.symm;omega)).trans (Below.heap_alloc _ _ _ HTZ.out)));clear e0 z0 th0))
    have HL3:=hidZ HM.out.1
    have HTB2:Hid (Three (w4.setCell ⟨w.heap.size+1+1,0,none⟩ (.slice (some ⟨g4,0,none⟩) (fi.length+1) cap4)) tb (.int .i64 p1) (.int .i64 p2) (.bool p3)):=HTB.out.block (Below.heap_setCell _ _ _ _ (by have:=HTW.out;simp only;omega))
    have HTZ2:Hid (tb<(w4.setCell ⟨w.heap.size+1+1,0,none⟩ (.slice (some ⟨g4,0,none⟩) (fi.length+1) cap4)).heap.size):=by have:=hgrow4.size;have:=HTZ.out;unfold Hid;simp[World.setCell]at*;omega
    generalize w4.setCell ⟨w.heap.size+1+1,0,none⟩ (.slice (some ⟨g4,0,none⟩) (fi.length+1) cap4)=w5 at*
    clear HM HTB hown4 hgrow4 hat4 hlt4 m3 n3 HL2 HTH HTZ HVF hzz
    have e1:=HL3.out.nt.c1
    have z1:=HL3.out.nt.fz 1
    have th1:=HTB2.out.c1
    have hzz:=HL3.out.hz
    go_wp2_with (first | (at_builtin;refine wpList_app1 w5 rfl (.tmp 68) (.tmp 71) 87 rfl (w.heap.size+4) 136 (.int .i64 0) 1 8 Try.underlying87 Try.infoSet rfl (by decide) (by decide) (.slice lb la.length lcap) la.length (intC la) [.int .i64 p2] _ rfl HL3.out.rl _ rfl rfl rfl (by simp[Value.oneCell']) (by omega) hzz ?_;intro g6 cap6 w6 hown6 hgrow6 hat6 hlt6;have HM:=hidZ (HL3.out.moreL (x:=p2) hown6 hgrow6 hat6);have m3:=(HM.out.2.cell (p:=⟨w.heap.size+1+1,1,none⟩) (show w.heap.size+1+1<w.heap.size+4 by omega)).trans e1;have n3:=(HM.out.2.frozen (p:=⟨w.heap.size+1+1,1,none⟩) (show w.heap.size+1+1<w.heap.size+4 by omega)).trans z1;clear e1 z1 th1) | fail)
    go_roundg d
    case measure=>omega
    case rel=>exact⟨k+1,_,_,_,_,by go_num,by omega,HFI2.out.symm,HLA2.out.symm,HM.out.1⟩
   ·have e:k=m:=by omega
    have hfe:(rules.take k)=rules:=List.take_of_length_le (by rw[hmm.out];omega)
    rw[hfe]at HFI HLA
    replace hfe:=hidZ hfe
    have hd1:decide ((k:Int)<(m:Int))=false:=by simp;omega
    clear e
    obtain⟨fa,fcap,hvf⟩:=rowSlice HL.out.rf
    subst hvf
    obtain⟨lb,lcap,hvl⟩:=rowSlice HL.out.rl
    subst hvl
    have hfl:fi.length=rules.length:=by rw[HFI.out,List.length_map]
    have hll:la.length=rules.length:=by rw[HLA.out,List.length_map]
    replace hfl:=hidZ hfl
    replace hll:=hidZ hll
    have HRN:Hid (wr.rangeAt (w.heap.size+1+1) 0 (netA (.slice fa fi.length fcap) (.slice lb la.length lcap) NX).toList):=net_range HL.out.nt
    have HTT:=hidZ HL.out.t1
    obtain⟨NA,hNA⟩:∃a,netA (.slice fa fi.length fcap) (.slice lb la.length lcap) NX=a:=⟨_,rfl⟩
    have HNS:Hid (NA.size=12∧NA.all (·.oneCell')=true):=by rw[←hNA];exact⟨rfl,by simp[netA,Value.oneCell']⟩
    rw[hNA]at HRN
    replace hNA:=hidZ hNA
    go_wp2_with (first
     | (refine wpList_load_mid rfl 141 (.tmp 3) rfl (w.heap.size+1+1) 0 rfl NA.toList _ HRN.out Try.underlying141 rfl ?_ ?_;(rw[Array.length_toList,HNS.out.1];exact Try.netSize))
     | (refine wpList_store_mid rfl 141 (.tmp 2) (.tmp 75) rfl (w.heap.size+1) 0 NA rfl rfl ?_ ?_ HNS.out.2 ?_;(rw[HNS.out.1];exact HTT.out);(rw[HNS.out.1];exact Try.netSize)))
    refine ret_cell1 Try.results61 (w.heap.size+1) 0 NA.toList _ rfl ?_ Try.underlying141 rfl (by rw[Array.length_toList,HNS.out.1];exact Try.netSize) rfl ?_
    ·exact World.rangeAt_setCells_same _ _ _ _ (by rw[Array.length_toList,HNS.out.1];exact HTT.out)
    ·refine⟨.slice fa fi.length fcap,.slice lb la.length lcap, ?_,below_setCells _ 0 _ _ HL.out.bl (Nat.le_succ _), ?_, ?_⟩
     ·rw[EFC.out,hNA.out]
     ·rw[EFC.out,←HFI.out,←hfl.out];exact ownsRow_setCells_below HL.out.rf (by omega) _ 0
     ·rw[EFC.out,←HLA.out,←hll.out];exact ownsRow_setCells_below HL.out.rl (by omega) _ 0
end Go.Proofs.Ytgjgjgihceijnaa

