import Derived.Test.YtgjgjgihceijnaaGreatG18
open Go.Value renaming oneCell'->aL
open Nat renaming le_refl->aO
open List renaming length_map->aR,getElem?_eq_some_iff->bK,getElem?_eq_getElem->bM,take_add_one->bO,length_take->bS,map_append->bT
open Array renaming length_toList->aT
open Go.World renaming rangeAt_setCells_same->bC
open Go.RowKit.Below renaming refl->bD,heap_alloc->bN
set_option maxRecDepth 100000
set_option maxHeartbeats 8000000
namespace Go.Proofs.YtgjgjgihceijnaaGreat
open Go.RowKit Go.Stn
theorem Tryz.nodeSize:(Tryz.prog.info? 162).map (·.size)=some 3:=by kernel_rfl
theorem Tryz.infoPart:(Tryz.prog.info? 164).map (fun i=>(i.zero,i.size,i.bytes))=some (some (.agg #[.int .i64 0,.int .i64 0,.bool false]),3,24):=by kernel_rfl
theorem Lb (a b c:Value)(n j i:Nat)(hj:j<n)(hi:i<3):(madeCells #[a,b,c] (n*3)).toList[j*3+i]? = [a,b,c][i]? :=by
 unfold madeCells;rw[Array.toList_map,List.getElem?_map,Array.toList_range,List.getElem?_range (by omega),Option.map_some];have e:(j*3+i) % (#[a,b,c]:Array Value).size=i:=by show(j*3+i) % 3=i;omega
 rw[e];have:i=0\/i=1\/i=2:=by omega
 rcases this with rfl | rfl | rfl<;> rfl
theorem Q1 {w:World}{base pb n:Nat}(h:w.ownsRow base 164 3 (.slice (some ⟨pb,0,none⟩) n n) n (madeCells #[.int .i64 0,.int .i64 0,.bool false] (n*3)).toList):oW w pb n (fun _=>kM):=fun j hj=>by
 have hc:∀i v,i<3->(gH kM)[i]? =some v->w.cell? ⟨pb,j*3+i,none⟩=some v:=fun i v hi hv=>by
  have:=h.cells rfl (j*3+i) v (by rw[Lb _ _ _ n j i hj hi];exact hv);rw[pV]at this;exact this
 refine⟨fun i v hv=>hc i v (bK.1 hv).1 hv,fun i hi=>⟨?_,lF h _⟩⟩;have:i=0\/i=1\/i=2:=by omega
 rcases this with rfl | rfl | rfl
 ·rw[hc 0 _ (by omega) rfl];rfl
 ·rw[hc 1 _ (by omega) rfl];rfl
 ·rw[hc 2 _ (by omega) rfl];rfl
theorem LW.keep {w0 w w':World}{n B:Nat}{ps:Nat->kN}{next:Nat->Int}{vr vn vp:Value}(h:LW w0 w n ps next vr vn vp)(hB:Below B w w')(h4:w0.heap.size+4<=B):LW w0 w' n ps next vr vn vp:=by
 have hz:=h.hz;exact⟨h.bl.trans (hB.mono (by omega)),aC h.fl (hB.block _ (by omega)),aQ h.t1 (hB.block _ (by omega)),h.nt.below hB (by omega),h.pt.block (hB.block _ (by omega)),by have:=hB.size;omega⟩
theorem Lu {w:World}{nb:Nat}{vf vl:Value}{next:Nat->Int}(h:dH w nb vf vl next):w.rangeAt nb 0 (fY vf vl next).toList:=fun j v hv=>by
 rw[Nat.zero_add];have hj:j<12:=(bK.1 hv).1;have:j=0\/j=1\/j=2\/j=3\/j=4\/j=5\/j=6\/j=7\/j=8\/j=9\/j=10\/j=11:=by omega
 rcases this with rfl | rfl | rfl | rfl | rfl | rfl | rfl | rfl | rfl | rfl | rfl | rfl
 ·cases hv;exact h.c0
 ·cases hv;exact h.c1
 all_goals (cases hv)
 ·exact h.nx 0 (by omega)
 ·exact h.nx 1 (by omega)
 ·exact h.nx 2 (by omega)
 ·exact h.nx 3 (by omega)
 ·exact h.nx 4 (by omega)
 ·exact h.nx 5 (by omega)
 ·exact h.nx 6 (by omega)
 ·exact h.nx 7 (by omega)
 ·exact h.nx 8 (by omega)
 ·exact h.nx 9 (by omega)
def Vd (w:World)(nodes:List (Int×Int×Int))(rules:List ((Nat->Bool)×Int×Int))(e:Ending)(w':World):Prop:=
 ∃vf vl,e= .returned (.agg (fY vf vl (cQ nodes 0 (fun _=>kM) (fun _=>0)).2))/\Below w.heap.size w w'/\
  w'.ownsRow (w.heap.size+4) 103 1 vf rules.length (jP (rules.map fun x=>((cQ nodes 0 (fun _=>kM) (fun _=>0)).1 x.2.2.toNat).1))/\
  w'.ownsRow (w.heap.size+4) 103 1 vl rules.length (jP (rules.map fun x=>((cQ nodes 0 (fun _=>kM) (fun _=>0)).1 x.2.2.toNat).2.1))
theorem Lf (nodes:List (Int×Int×Int))(rules:List ((Nat->Bool)×Int×Int))(ng ncap rg rcap:Nat)(vp:Value)(w:World)(hn:nodes.length<=1000)(hok:Ai nodes)(hN:uF w ng nodes)(hg:ng<w.heap.size)
  (hrn:rules.length<=1000) (hR:nH w rg rules) (hrg:rg<w.heap.size) (hro:∀x∈rules,0<=x.2.2/\x.2.2<nodes.length):
  Calls Tryz.prog 36 #[.agg #[.slice (some ⟨rg,0,none⟩) rules.length rcap,.slice (some ⟨ng,0,none⟩) nodes.length ncap,vp]] w fun e w'=>Vd w nodes rules e w':=by
 obtain⟨m,hmm⟩:∃m,rules.length=m:=⟨_,rfl⟩
 rw[hmm]at hrn ⊢;replace hmm:=aA hmm;have HRU:=aA hR;have HRO:=aA hro;clear hR hro;obtain⟨vr,EVR⟩:∃v,Value.slice (some ⟨rg,0,none⟩) m rcap=v:=⟨_,rfl⟩
 rw[EVR];replace EVR:=aA EVR;have HN:=aA hN;have HOK:=aA hok;clear hN hok;obtain⟨i0,hi0,hz0,hz1,hz2⟩:=info_parts Tryz.infoPart;have HI:Hid (Tryz.prog.info? 164=some i0/\i0.zero=some (.agg #[.int .i64 0,.int .i64 0,.bool false])/\i0.size=3/\i0.bytes=24):=⟨hi0,hz0,hz1,hz2⟩
 clear hi0 hz0 hz1 hz2;go_enter Tryz.func36,Tryz.ntmps36;go_upto_region 2 with fail;obtain⟨n,hnn⟩:∃n,nodes.length=n:=⟨_,rfl⟩
 rw[hnn]at hn ⊢;replace hnn:=aA hnn;obtain⟨W0,hW0⟩:∃W,((w.alloc (.cells #[vr,.slice (some ⟨ng,0,none⟩) n ncap,vp] 44)).alloc (.cells (fY (.slice none 0 0) (.slice none 0 0) (fun _=>0)) 108)).alloc (.cells (fY (.slice none 0 0) (.slice none 0 0) (fun _=>0)) 108)=W:=⟨_,rfl⟩
 have hz0:W0.heap.size=w.heap.size+1+1+1:=by rw[←hW0];simp
 have HB0:Hid (Below w.heap.size w W0):=by unfold Hid;rw[←hW0];exact(((bD _ _).alloc (aO _) _).alloc (by simp) _).alloc (by simp;omega) _
 have HF0:Hid (W0.rangeAt w.heap.size 0 [vr,.slice (some ⟨ng,0,none⟩) n ncap,vp]):=by
  unfold Hid;rw[←hW0];exact aC (aC (gI w #[vr,.slice (some ⟨ng,0,none⟩) n ncap,vp] 44) (bN _ _ _ (by simp))) (bN _ _ _ (by simp;omega))
 have HT0:Hid (W0.there (w.heap.size+1) 0 12):=by
  unfold Hid;rw[←hW0];exact World.there_alloc (bI (w.alloc (.cells #[vr,.slice (some ⟨ng,0,none⟩) n ncap,vp] 44)) (fY (.slice none 0 0) (.slice none 0 0) (fun _=>0)) 108 (w.heap.size+1) 12 rfl (by simp)) _
 have HN0:Hid (dH W0 (w.heap.size+1+1) (.slice none 0 0) (.slice none 0 0) (fun _=>0)):=by
  unfold Hid;rw[←hW0];exact dH.box _ _ _ _ _ _ (by simp)
 have c1:W0.cell? ⟨w.heap.size,1,none⟩=some (.slice (some ⟨ng,0,none⟩) n ncap):=HF0.out 1 _ rfl;unfold fY at hW0;rw[hW0];clear hW0;go_upto_block 0 with(first | (at_make;refine wpList_make_full W0 rfl _ _ 160 rfl W0.heap.size 164 i0 (.agg #[.int .i64 0,.int .i64 0,.bool false]) 3 Tryz.underlying160 HI.out.1 HI.out.2.1 HI.out.2.2.1 .i64 .i64 _ _ n rfl rfl rfl rfl (by rw[HI.out.2.2.2];omega) (by unfold maxLen;omega) (aO _) ?_;intro w1 hown hg1;have HB1:Hid (Below W0.heap.size W0 w1):=(⟨hg1.os,hg1.tape,hg1.output,hg1.size,fun k hk=>hg1.block k hk (by simp)⟩:Below W0.heap.size W0 w1);have c1':=(HB1.out.cell (p:=⟨w.heap.size,1,none⟩) (show w.heap.size<W0.heap.size by omega)).trans c1;clear c1))
 have HL1:Hid (LW w w1 n (fun _=>kM) (fun _=>0) vr (.slice (some ⟨ng,0,none⟩) n ncap) vp):=by
  refine⟨HB0.out.trans (HB1.out.mono (by omega)),aC HF0.out (HB1.out.block _ (by omega)),aQ HT0.out (HB1.out.block _ (by omega)),HN0.out.below HB1.out (by omega), ?_, ?_⟩
  ·first | exact Q1 hown | (rw[←hz0];exact Q1 hown)
  ·first | (have:=(hown.lt W0.heap.size rfl).2;omega) | (have:=(hown.lt (w.heap.size+1+1+1) rfl).2;omega)
 try rw[hz0]
 clear hown hg1 HB1 HB0 HF0 HT0 HN0 c1' hz0;obtain⟨FC,EFC⟩:∃c,cQ nodes 0 (fun _=>kM) (fun _=>0)=c:=⟨_,rfl⟩
 replace EFC:=aA EFC
 go_cut [20] from 12 to 47 (fun _ wc=>LW w wc n FC.1 FC.2 vr (.slice (some ⟨ng,0,none⟩) n ncap) vp)
 case first=>
  go_wp2_with fail
  go_loopg [20] n (fun gk iv wr=>∃(k:Nat) (ps:Nat->kN) (next:Nat->Int),iv= .int .i64 (k:Int)/\k+gk=n/\FC=cQ (nodes.drop k) k ps next/\LW w wr n ps next vr (.slice (some ⟨ng,0,none⟩) n ncap) vp)
  case atStart=>exact⟨0,_,_,rfl,by omega,EFC.out.symm,HL1.out⟩
  case round=>
   obtain⟨k,ps,next,rfl,hkn,heq,hlw⟩:=hrel;have HQ:=aA heq;have HL:=aA hlw;clear heq hlw HL1;by_cases hlt:k<n
   ·obtain⟨d,rfl⟩:∃d,gk=d+1:=⟨gk - 1,by omega⟩
    have hkr:k<nodes.length:=by rw[hnn.out];exact hlt
    have hx:nodes[k]? =some (nodes[k]):=bM hkr;have HRG:=aA ((HN.out.below HL.out.bl hg) k _ hx);have HQ2:=aA (HQ.out.trans (Hu hx ps next));have hxo:=HOK.out k _ hx;generalize nodes[k]=x at*;obtain⟨kd,yl,yr⟩:=x;simp only at hxo HRG;obtain⟨hka,hkb,hk2,hk3⟩:=hxo;have hk1:0<=kd/\kd<=5:=⟨hka,hkb⟩
    have HBA:Hid (Below wr.heap.size wr (((wr.alloc (.cells #[.int .i64 kd,.int .i64 yl,.int .i64 yr] 162)).alloc (.cells #[.int .i64 0,.int .i64 0,.bool false] 164)).alloc (.cells #[.int .i64 0,.int .i64 0,.bool false] 164))):=(((bD _ _).alloc (aO _) _).alloc (by simp) _).alloc (by simp;omega) _;have HT1:Hid (cZ (((wr.alloc (.cells #[.int .i64 kd,.int .i64 yl,.int .i64 yr] 162)).alloc (.cells #[.int .i64 0,.int .i64 0,.bool false] 164)).alloc (.cells #[.int .i64 0,.int .i64 0,.bool false] 164)) wr.heap.size (.int .i64 kd) (.int .i64 yl) (.int .i64 yr)):=((cZ.new wr wr.heap.size _ _ _ _ rfl).alloc (by simp) _).alloc (by simp;omega) _;have HT2:Hid (cZ (((wr.alloc (.cells #[.int .i64 kd,.int .i64 yl,.int .i64 yr] 162)).alloc (.cells #[.int .i64 0,.int .i64 0,.bool false] 164)).alloc (.cells #[.int .i64 0,.int .i64 0,.bool false] 164)) (wr.heap.size+1) (.int .i64 0) (.int .i64 0) (.bool false)):=(cZ.new _ (wr.heap.size+1) _ _ _ _ (by simp)).alloc (by simp) _;have HT3:Hid (cZ (((wr.alloc (.cells #[.int .i64 kd,.int .i64 yl,.int .i64 yr] 162)).alloc (.cells #[.int .i64 0,.int .i64 0,.bool false] 164)).alloc (.cells #[.int .i64 0,.int .i64 0,.bool false] 164)) (wr.heap.size+1+1) (.int .i64 0) (.int .i64 0) (.bool false)):=cZ.new _ (wr.heap.size+1+1) _ _ _ _ (by simp);have hd1:decide ((k:Int)<(n:Int))=true:=by simp;omega
    have hkI:(0:Int)<=(k:Int)/\(k:Int)<(n:Int):=by omega
    clear hx hkr;go_upto_region 8 with(first
     | (refine wpList_load_mid rfl 162 (.tmp 23) rfl ng (k*3) rfl [.int .i64 kd,.int .i64 yl,.int .i64 yr] _ HRG.out Tryz.underlying162 rfl Tryz.nodeSize ?_))
    generalize ((wr.alloc (.cells #[.int .i64 kd,.int .i64 yl,.int .i64 yr] 162)).alloc (.cells #[.int .i64 0,.int .i64 0,.bool false] 164)).alloc (.cells #[.int .i64 0,.int .i64 0,.bool false] 164)=A at*;have HLW:=aA (HL.out.below HBA.out);have HLWz:=aA HL.out.hz;clear HRG HL;have HK3:=aA hk3;have c0:=HT1.out.c0;have c1:=HT1.out.c1;have c2:=HT1.out.c2;have hz4:w.heap.size+4<=wr.heap.size:=by have:=HLWz.out;omega
    clear hk3;by_cases hkd:kd=0
    ·have hd2:((kd:Int) !=0)=false:=by rw[hkd];rfl
     have HND:Hid (jA ps (kd,yl,yr) next=iS kd yl kM kM next):=by unfold Hid jA;rw[if_pos hkd]
     obtain⟨PL,hPL⟩:∃p,kM=p:=⟨_,rfl⟩
     obtain⟨PR,hPR⟩:∃p,kM=p:=⟨_,rfl⟩
     have HT2':Hid (cZ A (wr.heap.size+1) (.int .i64 PL.1) (.int .i64 PL.2.1) (.bool PL.2.2)):=by rw[←hPL];exact HT2
     have HT3':Hid (cZ A (wr.heap.size+1+1) (.int .i64 PR.1) (.int .i64 PR.2.1) (.bool PR.2.2)):=by rw[←hPR];exact HT3
     have HND':Hid (jA ps (kd,yl,yr) next=iS kd yl PL PR next):=by rw[←hPL,←hPR];exact HND
     clear HT2 HT3 HND hPL hPR hkd;have HT2:=HT2';have HT3:=HT3';have HND:=HND';clear HT2' HT3' HND';go_wp2_with (first
      | (refine wpList_load_mid rfl 162 (.tmp 6) rfl wr.heap.size 0 rfl [.int .i64 kd,.int .i64 yl,.int .i64 yr] _ HT1.out.range Tryz.underlying162 rfl Tryz.nodeSize ?_)
      | (refine wpList_load_mid rfl 164 (.tmp 7) rfl (wr.heap.size+1) 0 rfl (gH PL) _ HT2.out.range Tryz.underlying164 rfl Tryz.partSize ?_)
      | (refine wpList_load_mid rfl 164 (.tmp 8) rfl (wr.heap.size+1+1) 0 rfl (gH PR) _ HT3.out.range Tryz.underlying164 rfl Tryz.partSize ?_)
      | fail)
     refine(G4 kd yl yr next PL PR (w.heap.size+1+1) _ _ A hk1 hk2 (by have:=HLW.out.hz;omega) HLW.out.nt).mono ?_;rintro e w7 ⟨hg7,hn7,rfl⟩;have HL7:=aA (HLW.out.net hg7 hn7);clear hg7 hn7 HLW HT1 HT2 HT3;rw[←HND.out]at HL7 ⊢;obtain⟨NP,hNP⟩:∃q,jA ps (kd,yl,yr) next=q:=⟨_,rfl⟩
     rw[hNP]at HL7 HQ2 ⊢;obtain⟨pp,nx2⟩:=NP;have HTK:=aA (HL7.out.pt k hlt).2;have HL8:=aA (HL7.out.part hlt pp);replace hNP:=aA hNP;clear HND;go_wp2_with (first
      | (refine wpList_store_mid rfl 164 (.tmp 46) (.tmp 45) rfl (w.heap.size+1+1+1) (k*3) (gH pp).toArray rfl rfl ?_ ?_ ?_ ?_;exact HTK.out;exact Tryz.partSize;(simp[gH,aL]))
      | fail)
     go_roundg d
     case measure=>omega
     case rel=>exact⟨k+1,_,nx2,by go_num,by omega,HQ2.out,HL8.out⟩
    ·have hd2:((kd:Int) !=0)=true:=by rw[bne_iff_ne];exact hkd
     have HND:Hid (jA ps (kd,yl,yr) next=iS kd yl (ps yl.toNat) (ps yr.toNat) next):=by unfold Hid jA;rw[if_neg hkd]
     obtain⟨hy1,hy2,hy3,hy4⟩:=HK3.out hkd;have HPL:=aA (HLW.out.pt yl.toNat (by omega)).1;have HPR:=aA (HLW.out.pt yr.toNat (by omega)).1;have hyl:((yl.toNat:Nat):Int)=yl:=by omega
     have hyr:((yr.toNat:Nat):Int)=yr:=by omega
     generalize ps yl.toNat=PL at*;generalize ps yr.toNat=PR at*;generalize yl.toNat=nl at*;generalize yr.toNat=nr at*;subst hyl;subst hyr;clear hkd HK3;have hlI:(0:Int)<=(nl:Int)/\(nl:Int)<(n:Int):=by omega
     have hrI:(0:Int)<=(nr:Int)/\(nr:Int)<(n:Int):=by omega
     have HA1B:Hid (Below (w.heap.size+4) A (A.setCells (wr.heap.size+1) 0 (gH PL))):=aD _ _ _ _ (bD _ _) (by omega);have HPR1:Hid ((A.setCells (wr.heap.size+1) 0 (gH PL)).rangeAt (w.heap.size+1+1+1) (nr*3) (gH PR)):=aC HPR.out (HA1B.out.block _ (by omega));have HTA1:Hid (cZ (A.setCells (wr.heap.size+1) 0 (gH PL)) wr.heap.size (.int .i64 kd) (.int .i64 (nl:Int)) (.int .i64 (nr:Int))):=HT1.out.block (fJ A _ _ _ _ (by omega));have HTA2:Hid (cZ (A.setCells (wr.heap.size+1) 0 (gH PL)) (wr.heap.size+1) (.int .i64 PL.1) (.int .i64 PL.2.1) (.bool PL.2.2)):=HT2.out.stored _ _ _;have HTA3:Hid (cZ (A.setCells (wr.heap.size+1) 0 (gH PL)) (wr.heap.size+1+1) (.int .i64 0) (.int .i64 0) (.bool false)):=HT3.out.block (fJ A _ _ _ _ (by omega));have HLWA:=aA (HLW.out.keep HA1B.out (aO _));go_upto_region 10 with(first
      | (refine wpList_load_mid rfl 164 (.tmp 33) rfl (w.heap.size+1+1+1) (nl*3) rfl (gH PL) _ HPL.out Tryz.underlying164 rfl Tryz.partSize ?_)
      | (refine wpList_store_mid rfl 164 (.tmp 7) (.tmp 34) rfl (wr.heap.size+1) 0 (gH PL).toArray rfl rfl ?_ ?_ ?_ ?_;exact HT2.out.there;exact Tryz.partSize;(simp[gH,aL])))
     generalize A.setCells (wr.heap.size+1) 0 (gH PL)=A1 at*;clear HT1 HT2 HT3 HLW HPL HPR c0 c1 c2 HA1B;have d2:=HTA1.out.c2;have HA2B:Hid (Below (w.heap.size+4) A1 (A1.setCells (wr.heap.size+1+1) 0 (gH PR))):=aD _ _ _ _ (bD _ _) (by omega);have HTB1:Hid (cZ (A1.setCells (wr.heap.size+1+1) 0 (gH PR)) wr.heap.size (.int .i64 kd) (.int .i64 (nl:Int)) (.int .i64 (nr:Int))):=HTA1.out.block (fJ A1 _ _ _ _ (by omega));have HTB2:Hid (cZ (A1.setCells (wr.heap.size+1+1) 0 (gH PR)) (wr.heap.size+1) (.int .i64 PL.1) (.int .i64 PL.2.1) (.bool PL.2.2)):=HTA2.out.block (fJ A1 _ _ _ _ (by omega));have HTB3:Hid (cZ (A1.setCells (wr.heap.size+1+1) 0 (gH PR)) (wr.heap.size+1+1) (.int .i64 PR.1) (.int .i64 PR.2.1) (.bool PR.2.2)):=HTA3.out.stored _ _ _;have HLWB:=aA (HLWA.out.keep HA2B.out (aO _));go_upto_region 11 with(first
      | (refine wpList_load_mid rfl 164 (.tmp 38) rfl (w.heap.size+1+1+1) (nr*3) rfl (gH PR) _ HPR1.out Tryz.underlying164 rfl Tryz.partSize ?_)
      | (refine wpList_store_mid rfl 164 (.tmp 8) (.tmp 39) rfl (wr.heap.size+1+1) 0 (gH PR).toArray rfl rfl ?_ ?_ ?_ ?_;exact HTA3.out.there;exact Tryz.partSize;(simp[gH,aL])))
     generalize A1.setCells (wr.heap.size+1+1) 0 (gH PR)=A2 at*;clear HTA1 HTA2 HTA3 HLWA d2 HPR1 HA2B;go_wp2_with (first
      | (refine wpList_load_mid rfl 162 (.tmp 6) rfl wr.heap.size 0 rfl [.int .i64 kd,.int .i64 (nl:Int),.int .i64 (nr:Int)] _ HTB1.out.range Tryz.underlying162 rfl Tryz.nodeSize ?_)
      | (refine wpList_load_mid rfl 164 (.tmp 7) rfl (wr.heap.size+1) 0 rfl (gH PL) _ HTB2.out.range Tryz.underlying164 rfl Tryz.partSize ?_)
      | (refine wpList_load_mid rfl 164 (.tmp 8) rfl (wr.heap.size+1+1) 0 rfl (gH PR) _ HTB3.out.range Tryz.underlying164 rfl Tryz.partSize ?_)
      | fail)
     refine(G4 kd (nl:Int) (nr:Int) next PL PR (w.heap.size+1+1) _ _ A2 hk1 hk2 (by have:=HLWB.out.hz;omega) HLWB.out.nt).mono ?_;rintro e w7 ⟨hg7,hn7,rfl⟩;have HL7:=aA (HLWB.out.net hg7 hn7);clear hg7 hn7 HLWB HTB1 HTB2 HTB3;rw[←HND.out]at HL7 ⊢;obtain⟨NP,hNP⟩:∃q,jA ps (kd,(nl:Int),(nr:Int)) next=q:=⟨_,rfl⟩
     rw[hNP]at HL7 HQ2 ⊢;obtain⟨pp,nx2⟩:=NP;have HTK:=aA (HL7.out.pt k hlt).2;have HL8:=aA (HL7.out.part hlt pp);replace hNP:=aA hNP;clear HND;go_wp2_with (first
      | (refine wpList_store_mid rfl 164 (.tmp 46) (.tmp 45) rfl (w.heap.size+1+1+1) (k*3) (gH pp).toArray rfl rfl ?_ ?_ ?_ ?_;exact HTK.out;exact Tryz.partSize;(simp[gH,aL]))
      | fail)
     go_roundg d
     case measure=>omega
     case rel=>exact⟨k+1,_,nx2,by go_num,by omega,HQ2.out,HL8.out⟩
   ·have e:gk=0:=by omega
    subst e;have HE:Hid (FC=(ps,next)):=by unfold Hid;rw[HQ.out,show nodes.drop k= [] by rw[List.drop_eq_nil_iff,hnn.out];omega];rfl
    have hd1:decide ((k:Int)<(n:Int))=false:=by simp;omega
    go_wp2;go_meet
    case rel=>rw[HE.out];exact HL.out
 case rest=>
  have HX1:=aA hcut.more;clear hcut HL1;obtain⟨PS,NX⟩:=FC;simp only at*;have c0:wc.cell? ⟨w.heap.size,0,none⟩=some (.slice (some ⟨rg,0,none⟩) m rcap):=by rw[EVR.out];exact HX1.out.fl 0 _ rfl
  go_wp2_with fail;clear c0
  go_loopg [51] m (fun gk iv wr=>∃(k:Nat) (fi la:List Int) (vf vl:Value),iv= .int .i64 (k:Int)/\k+gk=m/\fi=(rules.take k).map (fun x=>(PS x.2.2.toNat).1)/\la=(rules.take k).map (fun x=>(PS x.2.2.toNat).2.1)/\LX w wr n PS NX fi la vf vl vr (.slice (some ⟨ng,0,none⟩) n ncap) vp)
  case atStart=>exact⟨0,[],[],_,_,rfl,by omega,rfl,rfl,HX1.out⟩
  case round=>
   obtain⟨k,fi,la,vf,vl,rfl,hkm,hfi,hla,hlx⟩:=hrel;have HL:=aA hlx;have HFI:=aA hfi;have HLA:=aA hla;clear hlx hfi hla HX1;by_cases hlt:k<m
   ·obtain⟨d,rfl⟩:∃d,gk=d+1:=⟨gk - 1,by omega⟩
    have hkr:k<rules.length:=by rw[hmm.out];exact hlt
    have hx:rules[k]? =some (rules[k]):=bM hkr;have HRG:=aA ((HRU.out.below HL.out.bl hrg) k _ hx);have hxr:=HRO.out _ (List.getElem_mem hkr);rw[hnn.out]at hxr;have HFI2:Hid ((rules.take (k+1)).map (fun x=>(PS x.2.2.toNat).1)=fi++ [(PS (rules[k]).2.2.toNat).1]):=by unfold Hid;rw[bO,hx,bT,←HFI.out];rfl
    have HLA2:Hid ((rules.take (k+1)).map (fun x=>(PS x.2.2.toNat).2.1)=la++ [(PS (rules[k]).2.2.toNat).2.1]):=by unfold Hid;rw[bO,hx,bT,←HLA.out];rfl
    have hfl:fi.length=k:=by rw[HFI.out,aR,bS];omega
    have hll:la.length=k:=by rw[HLA.out,aR,bS];omega
    generalize rules[k]=x at*;obtain⟨f,be,ro⟩:=x;simp only at hxr HFI2 HLA2;obtain⟨nr,hnr⟩:∃nr:Nat,ro=(nr:Int):=⟨ro.toNat,by omega⟩
    subst hnr;have hnr:nr<n:=by omega
    rw[Int.toNat_natCast]at HFI2 HLA2;have HTN:=aA (jC wr [.bool false,.bool false,.bool false,.bool false,.int .i64 0,.int .i64 0] 119 6 rfl);have HNEW:Hid (qZ ((wr.alloc (.cells #[.bool false,.bool false,.bool false,.bool false,.int .i64 0,.int .i64 0] 119)).setCells wr.heap.size 0 (gU (f,be,(nr:Int)))) wr.heap.size (f,be,(nr:Int))):=
     qZ.mk' (bC _ _ _ _ HTN.out)
    have HBN:Hid (Below wr.heap.size wr ((wr.alloc (.cells #[.bool false,.bool false,.bool false,.bool false,.int .i64 0,.int .i64 0] 119)).setCells wr.heap.size 0 (gU (f,be,(nr:Int))))):=aD _ 0 _ wr.heap.size ((bD _ _).alloc (aO _) _) (aO _);have hd1:decide ((k:Int)<(m:Int))=true:=by simp;omega
    have hkI:(0:Int)<=(k:Int)/\(k:Int)<(m:Int):=by omega
    clear hx hkr;go_upto_region 16 with(first
     | (refine wpList_load_mid rfl 119 (.tmp 53) rfl rg (k*6) rfl (gU (f,be,(nr:Int))) _ HRG.out Tryz.underlying119 rfl Tryz.ruleSize ?_)
     | (refine wpList_store_mid rfl 119 (.tmp 10) (.tmp 54) rfl wr.heap.size 0 (gU (f,be,(nr:Int))).toArray rfl rfl ?_ ?_ ?_ ?_;exact HTN.out;exact Tryz.ruleSize;(simp[gU,aL])))
    generalize (wr.alloc (.cells #[.bool false,.bool false,.bool false,.bool false,.int .i64 0,.int .i64 0] 119)).setCells wr.heap.size 0 (gU (f,be,(nr:Int)))=A1 at*;have HL1:=aA (HL.out.below HBN.out);have c5:=HNEW.out.c5;simp only at c5;have HPP:=aA (HL1.out.pt nr hnr).1;generalize PS nr=PP at*;obtain⟨p1,p2,p3⟩:=PP;simp only at HFI2 HLA2;have HPP':Hid (A1.rangeAt (w.heap.size+1+1+1) (nr*3) [.int .i64 p1,.int .i64 p2,.bool p3]):=HPP;have HL2:=aA (HL1.out.below ((bD _ _).alloc (aO _) (.cells #[.int .i64 p1,.int .i64 p2,.bool p3] 164)));have HTH:=aA (cZ.new A1 A1.heap.size 164 (.int .i64 p1) (.int .i64 p2) (.bool p3) rfl);have hrI:(0:Int)<=(nr:Int)/\(nr:Int)<(n:Int):=by omega
    have HVF:Hid (∀q,vf.ownBlock=some q->q<A1.heap.size):=fun q hq=>(HL1.out.rf.lt q hq).2
    have HVL:Hid (∀q,vl.ownBlock=some q->q<A1.heap.size):=fun q hq=>(HL1.out.rl.lt q hq).2
    have HTZ:Hid (A1.heap.size<(A1.alloc (.cells #[.int .i64 p1,.int .i64 p2,.bool p3] 164)).heap.size):=by unfold Hid;simp
    have HTW:Hid (w.heap.size+4<=A1.heap.size):=HL1.out.hz;clear HNEW HBN HTN HRG HPP HL;go_upto_region 17 with(first
     | (refine wpList_load_mid rfl 164 (.tmp 58) rfl (w.heap.size+1+1+1) (nr*3) rfl [.int .i64 p1,.int .i64 p2,.bool p3] _ HPP'.out Tryz.underlying164 rfl Tryz.partSize ?_))
    generalize A1.alloc (.cells #[.int .i64 p1,.int .i64 p2,.bool p3] 164)=A2 at*;generalize A1.heap.size=tb at*;have hfk:fi.length<=1000:=by omega
    have hlk:la.length<=1000:=by omega
    replace hfl:=aA hfl;replace hll:=aA hll;clear HL1 HPP' c5;obtain⟨fa,fcap,hvf⟩:=aK HL2.out.rf;subst hvf;obtain⟨lb,lcap,hvl⟩:=aK HL2.out.rl;subst hvl;have e0:=HL2.out.nt.c0;have z0:=HL2.out.nt.fz 0;have th0:=HTH.out.c0;have hzz:=HL2.out.hz;go_upto_region 18 with(first | (at_builtin;refine aF A2 rfl (.tmp 61) (.tmp 64) 48 rfl (w.heap.size+4) 103 (.int .i64 0) 1 8 Tryz.underlying48 Tryz.infoSet rfl (by decide) (by decide) (.slice fa fi.length fcap) fi.length (jP fi) [.int .i64 p1] _ rfl HL2.out.rf _ rfl rfl rfl (by simp[aL]) (by omega) hzz ?_;intro g4 cap4 w4 hown4 hgrow4 hat4 hlt4;have HM:=aA (HL2.out.moreF (x:=p1) hown4 hgrow4 hat4);have m3:=(HM.out.2.cell (p:=⟨w.heap.size+1+1,0,none⟩) (show w.heap.size+1+1<w.heap.size+4 by omega)).trans e0;have n3:=(HM.out.2.frozen (p:=⟨w.heap.size+1+1,0,none⟩) (show w.heap.size+1+1<w.heap.size+4 by omega)).trans z0;have HTB:=aA (HTH.out.block ((hgrow4.block tb (by have:=HTZ.out;simp;omega) (fun e=>by have:=HVF.out tb e.symm;omega)).trans (bN _ _ _ HTZ.out)));clear e0 z0 th0))
    have HL3:=aA HM.out.1;have HTB2:Hid (cZ (w4.setCell ⟨w.heap.size+1+1,0,none⟩ (.slice (some ⟨g4,0,none⟩) (fi.length+1) cap4)) tb (.int .i64 p1) (.int .i64 p2) (.bool p3)):=HTB.out.block (Below.heap_setCell _ _ _ _ (by have:=HTW.out;simp only;omega));have HTZ2:Hid (tb<(w4.setCell ⟨w.heap.size+1+1,0,none⟩ (.slice (some ⟨g4,0,none⟩) (fi.length+1) cap4)).heap.size):=by have:=hgrow4.size;have:=HTZ.out;unfold Hid;simp[World.setCell]at*;omega
    generalize w4.setCell ⟨w.heap.size+1+1,0,none⟩ (.slice (some ⟨g4,0,none⟩) (fi.length+1) cap4)=w5 at*;clear HM HTB hown4 hgrow4 hat4 hlt4 m3 n3 HL2 HTH HTZ HVF hzz;have e1:=HL3.out.nt.c1;have z1:=HL3.out.nt.fz 1;have th1:=HTB2.out.c1;have hzz:=HL3.out.hz;go_wp2_with (first | (at_builtin;refine aF w5 rfl (.tmp 68) (.tmp 71) 48 rfl (w.heap.size+4) 103 (.int .i64 0) 1 8 Tryz.underlying48 Tryz.infoSet rfl (by decide) (by decide) (.slice lb la.length lcap) la.length (jP la) [.int .i64 p2] _ rfl HL3.out.rl _ rfl rfl rfl (by simp[aL]) (by omega) hzz ?_;intro g6 cap6 w6 hown6 hgrow6 hat6 hlt6;have HM:=aA (HL3.out.moreL (x:=p2) hown6 hgrow6 hat6);have m3:=(HM.out.2.cell (p:=⟨w.heap.size+1+1,1,none⟩) (show w.heap.size+1+1<w.heap.size+4 by omega)).trans e1;have n3:=(HM.out.2.frozen (p:=⟨w.heap.size+1+1,1,none⟩) (show w.heap.size+1+1<w.heap.size+4 by omega)).trans z1;clear e1 z1 th1) | fail);go_roundg d
    case measure=>omega
    case rel=>exact⟨k+1,_,_,_,_,by go_num,by omega,HFI2.out.symm,HLA2.out.symm,HM.out.1⟩
   ·have e:k=m:=by omega
    have hfe:(rules.take k)=rules:=List.take_of_length_le (by rw[hmm.out];omega);rw[hfe]at HFI HLA;replace hfe:=aA hfe;have hd1:decide ((k:Int)<(m:Int))=false:=by simp;omega
    clear e;obtain⟨fa,fcap,hvf⟩:=aK HL.out.rf;subst hvf;obtain⟨lb,lcap,hvl⟩:=aK HL.out.rl;subst hvl;have hfl:fi.length=rules.length:=by rw[HFI.out,aR]
    have hll:la.length=rules.length:=by rw[HLA.out,aR]
    replace hfl:=aA hfl;replace hll:=aA hll;have HRN:Hid (wr.rangeAt (w.heap.size+1+1) 0 (fY (.slice fa fi.length fcap) (.slice lb la.length lcap) NX).toList):=Lu HL.out.nt;have HTT:=aA HL.out.t1;obtain⟨NA,hNA⟩:∃a,fY (.slice fa fi.length fcap) (.slice lb la.length lcap) NX=a:=⟨_,rfl⟩
    have HNS:Hid (NA.size=12/\NA.all (·.oneCell')=true):=by rw[←hNA];exact⟨rfl,by simp[fY,aL]⟩
    rw[hNA]at HRN;replace hNA:=aA hNA;go_wp2_with (first
     | (refine wpList_load_mid rfl 108 (.tmp 3) rfl (w.heap.size+1+1) 0 rfl NA.toList _ HRN.out Tryz.underlying108 rfl ?_ ?_;(rw[aT,HNS.out.1];exact Tryz.netSize))
     | (refine wpList_store_mid rfl 108 (.tmp 2) (.tmp 75) rfl (w.heap.size+1) 0 NA rfl rfl ?_ ?_ HNS.out.2 ?_;(rw[HNS.out.1];exact HTT.out);(rw[HNS.out.1];exact Tryz.netSize)))
    refine eP Tryz.results36 (w.heap.size+1) 0 NA.toList _ rfl ?_ Tryz.underlying108 rfl (by rw[aT,HNS.out.1];exact Tryz.netSize) rfl ?_
    ·exact bC _ _ _ _ (by rw[aT,HNS.out.1];exact HTT.out)
    ·refine⟨.slice fa fi.length fcap,.slice lb la.length lcap, ?_,aD _ 0 _ _ HL.out.bl (Nat.le_succ _), ?_, ?_⟩
     ·rw[EFC.out,hNA.out]
     ·rw[EFC.out,←HFI.out,←hfl.out];exact eG HL.out.rf (by omega) _ 0
     ·rw[EFC.out,←HLA.out,←hll.out];exact eG HL.out.rl (by omega) _ 0
end Go.Proofs.YtgjgjgihceijnaaGreat
