import Derived.Test.YtgjgjgihceijnaaGreatG24
import Derived.Test.YtgjgjgihceijnaaGreatG06
open UInt8 renaming ofNat->aL
open List renaming getD_eq_getElem?_getD->aO,getElem?_eq_getElem->aR,append_assoc->aT,append_nil->bD,getElem?_map->bM,getElem?_eq_some_iff->bO,getElem_mem->bT,mem_map->cO
open Go.Value renaming oneCell'->bC,ownBlock->bN
open Nat renaming zero_add->bK,le_refl->bS,mul_comm->cN
open Go.World renaming cell?_alloc_at->cL
open Go.RowKit.Below renaming refl->cR
set_option maxRecDepth 100000
set_option maxHeartbeats 8000000
namespace Go.Proofs.YtgjgjgihceijnaaGreat
open Go.RowKit Go.Stn
theorem Tryz.ofSize:(Tryz.prog.info? 47).map (·.size)=some 256:=by kernel_rfl
theorem Hl (rules:List ((Nat->Bool)×Int×Int))(rg rcap cg n K cap pg pcap:Nat)(vn vp:Value)(GA OA:Array Value)(ofs:Nat->Nat)(yb:Nat->Nat)(zb:Nat->Nat->Nat)(ns:Nat->Nat)(tk:Nat->Nat->Nat)(nx:Nat->Nat->Nat->Int)(w:World)
  (hrn:rules.length<=255) (hR:nH w rg rules) (hrg:rg<w.heap.size) (hbe:∀x∈rules,0<=x.2.1/\x.2.1<=255)
  (hn:n<=255) (hns:∀c,c<n->ns c<=255) (hK0:0<K) (hK:K<=256) (hC:CM w w.heap.size cg n K yb zb ns tk nx) (htk:∀c s,c<n->s<ns c->tk c s<=255) (hnx:∀c s k,c<n->s<ns c->k<K->nx c s k= -1\/(0<=nx c s k/\nx c s k<=255))
  (hOs:OA.size=256) (hOc:∀b,b<256->OA[b]? =some (.int .i64 (ofs b:Int))) (hOk:∀b,b<256->ofs b<K)
  (hG:GA.toList=OA.toList++ [.slice (some ⟨pg,0,none⟩) K pcap]):
  Calls Tryz.prog 19 #[.agg #[.slice (some ⟨rg,0,none⟩) rules.length rcap,vn,vp],.agg GA,.slice (some ⟨cg,0,none⟩) n cap] w fun e w'=>e= .returned (.string ⟨(wrL rules n K ofs ns tk nx).toArray⟩)/\Below w.heap.size w w':=by
 obtain⟨W0,hW0⟩:∃W,(w.alloc (.cells #[.slice (some ⟨rg,0,none⟩) rules.length rcap,vn,vp] 44)).alloc (.cells GA 50)=W:=⟨_,rfl⟩
 have hz0:W0.heap.size=w.heap.size+1+1:=by rw[←hW0];simp
 have HB0:Hid (Below w.heap.size w W0):=by unfold Hid;rw[←hW0];exact((cR _ _).alloc (bS _) _).alloc (by simp) _
 have HF0:Hid (W0.rangeAt w.heap.size 0 [.slice (some ⟨rg,0,none⟩) rules.length rcap,vn,vp]):=by
  unfold Hid;rw[←hW0];exact aC (gI w #[.slice (some ⟨rg,0,none⟩) rules.length rcap,vn,vp] 44) (Below.heap_alloc _ _ _ (by simp))
 have HG0:Hid (W0.rangeAt (w.heap.size+1) 0 GA.toList):=by
  unfold Hid;rw[←hW0];have:=gI (w.alloc (.cells #[.slice (some ⟨rg,0,none⟩) rules.length rcap,vn,vp] 44)) GA 50;have e:(w.alloc (.cells #[.slice (some ⟨rg,0,none⟩) rules.length rcap,vn,vp] 44)).heap.size=w.heap.size+1:=by simp
  rw[e]at this;exact this
 have HO0:Hid (W0.rangeAt (w.heap.size+1) 0 OA.toList):=fun i v hv=>HG0.out i v (by rw[hG,List.getElem?_append_left (bO.1 hv).1];exact hv)
 have cP:W0.cell? ⟨w.heap.size+1,256,none⟩=some (.slice (some ⟨pg,0,none⟩) K pcap):=by
  have:=HG0.out 256 (.slice (some ⟨pg,0,none⟩) K pcap) (by rw[hG,List.getElem?_append_right (by simp[hOs])];simp[hOs])
  rwa [bK]at this
 have hcl:=Ow cg n K cap yb zb ns tk nx W0 (by omega) (fun c hc=>by have:=hns c hc;omega) (by omega) ((hC.below HB0.out (bS _)).raise (by omega));obtain⟨f1,f2,f3,f4,f5⟩:=vK (fQ ns nx n) K;have hf5:=f5 hK0;have HL:Hid (wrL rules n K ofs ns tk nx=mI rules++flr rules.length (fun k=>[aL (mR rules k)])
  ++ [aL n,aL ((gB K (fQ ns nx n)).2.length - 1)]++flr 256 (fun b=>[aL ((gB K (fQ ns nx n)).1.getD (ofs b) 0)])
  ++flr n (fun c=>[aL (ns c)]++flr (ns c) (stB tk nx (gB K (fQ ns nx n)).2 c))):=rfl
 generalize wrL rules n K ofs ns tk nx=R at*;generalize (gB K (fQ ns nx n)).1=co at*;generalize (gB K (fQ ns nx n)).2=fi at*;have HC0:=aA (hC.below HB0.out (bS _));have HR0:=aA (hR.below HB0.out hrg);have HBE:=aA hbe;have HNS:=aA hns;have HTK:=aA htk;have HNX:=aA hnx;have HOC:=aA hOc;have HOK:=aA hOk;have HOS:=aA hOs;have HF1:=aA f1;have HF3:=aA f3;have HF4:=aA f4;clear hC hR hbe hns htk hnx hOc hOk hOs f1 f3 f4 f5 hG HG0;replace hW0:=aA hW0;have cF:=HF0.out 0 _ rfl;rw[bK]at cF;obtain⟨m,hm⟩:∃m,rules.length=m:=⟨_,rfl⟩
 rw[hm]at hrn hW0 cF HL ⊢;replace hm:=aA hm;clear HF0;go_enter Tryz.func19,Tryz.ntmps19;go_upto_region 1 with(first
  | (refine wpList_boxTo rfl 50 (.tmp 1) rfl _ rfl (w.heap.size+1) (by simp) GA rfl ?_))
 rw[hW0.out];go_wp2_with fail;refine hcl.mono ?_;rintro e w1 ⟨g1,c1,g2,c2,rfl,hn1,hn2,hg1,hg2,hl1,hl2,hb1⟩;obtain⟨FL,hFL⟩:∃q,fi.length=q:=⟨_,rfl⟩
 rw[HF1.out]at hn1 ⊢;rw[hFL]at hn2 f2 hf5 HF4 HL ⊢;replace hFL:=aA hFL;have HN1:=aA hn1;have HN2:=aA hn2;have cF1:=(hb1.cell (p:=⟨w.heap.size,0,none⟩) (by show w.heap.size<W0.heap.size;omega)).trans cF;have HO1:=aA (jK HO0.out hb1 (by omega));have HC1:=aA (HC0.out.below hb1 (by omega));have HR1:=aA (HR0.out.below hb1 (by omega));have HB1:=aA (HB0.out.trans (hb1.mono (by omega)));have hz1:=hb1.size;clear hn1 hn2 hb1 cF cP HO0 HC0 HR0 HB0 hcl hW0;go_upto_region 3 with fail;have HA3:Hid (WI w1 (w1.alloc (.cells #[.int .u8 83,.int .u8 84,.int .u8 1,.int .u8 (m:Int)] 5)) w1.heap.size 4 (mI rules)):=by
  unfold Hid mI;rw[hm.out];exact WI.new w1 (by omega)
 have hA4:(mI rules).length=4:=rfl;have cF3:=(HA3.out.bl.cell (p:=⟨w.heap.size,0,none⟩) (by show w.heap.size<w1.heap.size;omega)).trans cF1;generalize w1.alloc (.cells #[.int .u8 83,.int .u8 84,.int .u8 1,.int .u8 (m:Int)] 5)=w3 at*;generalize mI rules=A0 at*;replace hA4:=aA hA4;go_wp2_with fail
 go_loopg [9,37] m (fun gk iv kv wr=>∃(k g cap:Nat) (acc:List UInt8),iv= .slice (some ⟨g,0,none⟩) acc.length cap/\kv= .int .i64 (k:Int)/\k+gk=m/\acc.length=4+k/\acc=A0++flr k (fun k=>[aL (mR rules k)])/\WI w1 wr g cap acc)
 case atStart=>exact⟨0,w1.heap.size,4,A0,by rw[hA4.out],rfl,by omega,hA4.out,(bD _).symm,HA3.out⟩
 case round=>
  obtain⟨k,g,icap,acc,rfl,rfl,hkm,hal,hac,hwi⟩:=hrel;have HAL:=aA hal;have HAC:=aA hac;have HWI:=aA hwi;have hzw:=hwi.bl.size;clear hal hac hwi HA3;by_cases hlt:k<m
  ·obtain⟨d,rfl⟩:∃d,gk=d+1:=⟨gk - 1,by omega⟩
   have hkr:k<rules.length:=by rw[hm.out];exact hlt
   have hx:rules[k]? =some (rules[k]):=aR hkr;have HRG:=aA ((HR1.out.below HWI.out.bl (by omega)) k _ hx);have hxb:=HBE.out _ (bT hkr);have HBK:Hid (mR rules k=rules[k].2.1.toNat):=by unfold Hid mR;rw[aO,bM,hx];rfl
   generalize rules[k]=x at*;obtain⟨f,be,ro⟩:=x;simp only at hxb;obtain⟨bn,rfl⟩:∃bn:Nat,be=(bn:Int):=⟨be.toNat,by omega⟩
   have HBK':Hid (mR rules k=bn):=HBK.out.trans (by simp);clear HBK;have HNEW:Hid (qZ ((wr.alloc (.cells #[.bool false,.bool false,.bool false,.bool false,.int .i64 0,.int .i64 0] 119)).setCells wr.heap.size 0 (gU (f,(bn:Int),ro))) wr.heap.size (f,(bn:Int),ro)):=
    qZ.mk' (World.rangeAt_setCells_same _ _ _ _ (jC wr [.bool false,.bool false,.bool false,.bool false,.int .i64 0,.int .i64 0] 119 6 rfl))
   have HW5:Hid (WI w1 ((wr.alloc (.cells #[.bool false,.bool false,.bool false,.bool false,.int .i64 0,.int .i64 0] 119)).setCells wr.heap.size 0 (gU (f,(bn:Int),ro))) g icap acc):=HWI.out.below (aD _ 0 _ wr.heap.size ((cR _ _).alloc (bS _) _) (bS _));have HTN:=aA (jC wr [.bool false,.bool false,.bool false,.bool false,.int .i64 0,.int .i64 0] 119 6 rfl);have hd1:decide ((k:Int)<(m:Int))=true:=by simp;omega
   have hkI:(0:Int)<=(k:Int)/\(k:Int)<(m:Int):=by omega
   clear hx hkr;go_upto_region 6 with(first
    | (refine wpList_load_mid rfl 119 (.tmp 39) rfl rg (k*6) rfl (gU (f,(bn:Int),ro)) _ HRG.out Tryz.underlying119 rfl Tryz.ruleSize ?_)
    | (refine wpList_store_mid rfl 119 (.tmp 11) (.tmp 40) rfl wr.heap.size 0 (gU (f,(bn:Int),ro)).toArray rfl rfl ?_ ?_ ?_ ?_;exact HTN.out;exact Tryz.ruleSize;(simp[gU,bC])))
   generalize (wr.alloc (.cells #[.bool false,.bool false,.bool false,.bool false,.int .i64 0,.int .i64 0] 119)).setCells wr.heap.size 0 (gU (f,(bn:Int),ro))=w5 at*;have c4:=HNEW.out.c4;simp only at c4;have hz5:=HW5.out.bl.size;have hbn:bn<256:=by omega
   clear HNEW HTN HRG HWI;go_wp2_with (first | (at_builtin;refine aF w5 rfl (.tmp 41) (.tmp 45) 116 rfl w1.heap.size 5 (.int .u8 0) 1 1 Tryz.underlying116 Tryz.infoByte rfl (by decide) (by decide) (.slice (some ⟨g,0,none⟩) acc.length icap) acc.length (iH acc) [.int .u8 (bn:Int)] _ rfl HW5.out.rw _ rfl rfl rfl (by simp[bC]) (by have:=HAL.out;omega) (by omega) ?_;intro g4 cap4 w4 hown4 hgrow4 hat4 hlt4;have HW6:=aA (HW5.out.app hbn hown4 hgrow4);clear hown4 hgrow4 hat4));go_roundg d
   case measure=>omega
   case rel=>exact⟨k+1,g4,cap4,acc++ [aL bn],by simp,by go_num,by omega,by rw[List.length_append,HAL.out];rfl,by rw[iC,←aT,←HAC.out,HBK'.out],HW6.out⟩
  ·have e:gk=0:=by omega
   subst e;have e:k=m:=by omega
   subst e;have hd1:decide ((k:Int)<(k:Int))=false:=by simp
   obtain⟨L,rfl⟩:∃L,FL=L+1:=⟨FL - 1,by omega⟩
   have hw2:((L+1:Nat):Int) - 1=(L:Int):=by omega
   have HL2:Hid (R=acc++ [aL n,aL L]++flr 256 (fun b=>[aL (co.getD (ofs b) 0)])++flr n (fun c=>[aL (ns c)]++flr (ns c) (stB tk nx fi c))):=by
    unfold Hid;rw[HL.out,HAC.out];rfl
   clear HAC HL;go_upto_region 9 with(first | (at_builtin;refine A8 wr rfl (.tmp 48) (.tmp 56) 116 rfl w1.heap.size 5 (.int .u8 0) 1 1 Tryz.underlying116 Tryz.infoByte rfl (by decide) (by decide) (.slice (some ⟨g,0,none⟩) acc.length icap) acc.length (iH acc) [.int .u8 (n:Int),.int .u8 (L:Int)] _ rfl HWI.out.rw _ rfl rfl rfl (by simp[bC]) (by have:=HAL.out;omega) (by omega) ?_;intro g4 cap4 w4 hown4 hgrow4 hat4 hlt4;have HW6:=aA (HWI.out.app2 (show n<256 by omega) (show L<256 by omega) hown4 hgrow4);clear hown4 hgrow4 hat4))
   have HO9:=aA (jK HO1.out HW6.out.bl (by omega));have HAT:Hid (OA.toList.toArray=OA):=by unfold Hid;simp
   have HA6:Hid ((acc++ [aL n,aL L]).length=acc.length+2):=by unfold Hid;simp
   have hA6:(acc++ [aL n,aL L]).length<=300:=by rw[HA6.out,HAL.out];omega
   rw[←HA6.out];generalize acc++ [aL n,aL L]=A1 at*;clear HWI HAL HA6;go_wp2_with (first | (refine wpList_load_mid rfl 47 (.tmp 58) rfl (w.heap.size+1) 0 rfl OA.toList _ HO9.out Tryz.underlying47 rfl ?_ ?_;(rw[Array.length_toList,HOS.out];exact Tryz.ofSize);rw[HAT.out]))
   go_loopg [9,60] 256 (fun gk iv kv wr=>∃(b g cap:Nat) (acc:List UInt8),iv= .slice (some ⟨g,0,none⟩) acc.length cap/\kv= .int .i64 (b:Int)/\b+gk=256/\acc.length<=300+b/\acc=A1++flr b (fun b=>[aL (co.getD (ofs b) 0)])/\WI w1 wr g cap acc)
   case atStart=>exact⟨0,g4,cap4,A1,rfl,rfl,by omega,hA6,(bD _).symm,HW6.out⟩
   case round=>
    obtain⟨b,g,icap,acc,rfl,rfl,hkm2,hal,hac,hwi⟩:=hrel;have HAC:=aA hac;have HWI:=aA hwi;have hzw:=hwi.bl.size;clear hac hwi HW6 HO9;by_cases hlt2:b<256
    ·obtain⟨d,rfl⟩:∃d,gk=d+1:=⟨gk - 1,by omega⟩
     have HOB:=aA (HOC.out b hlt2);have hok:=HOK.out b hlt2;have c9:=(HN1.out.below HWI.out.bl hg1) (ofs b) hok;have HV:Hid (bW co (ofs b)=((co.getD (ofs b) 0:Nat):Int)):=rfl;rw[HV.out]at c9;have hv:co.getD (ofs b) 0<256:=by
      have:=uG HF4.out (show ofs b<co.length by rw[HF1.out];exact hok);omega
     have hokI:(0:Int)<=(ofs b:Int)/\(ofs b:Int)<(K:Int):=by omega
     have HFB:Hid ((fun b=>[aL (co.getD (ofs b) 0)]) b= [aL (co.getD (ofs b) 0)]):=rfl;have HST:Hid (A1++flr (b+1) (fun b=>[aL (co.getD (ofs b) 0)])=acc++ [aL (co.getD (ofs b) 0)]):=by
      unfold Hid;rw[iC,←aT,←HAC.out]
     have hd2:decide ((b:Int)<256)=true:=by simp;omega
     generalize co.getD (ofs b) 0=v at*;generalize ofs b=ob at*;go_wp2_with (first | (refine Tryz.wpIndexA rfl (.tmp 59) (.tmp 60) rfl OA (.int .i64 (ob:Int)) b hlt2 HOB.out rfl rfl ?_) | (at_builtin;refine aF wr rfl (.tmp 63) (.tmp 69) 116 rfl w1.heap.size 5 (.int .u8 0) 1 1 Tryz.underlying116 Tryz.infoByte rfl (by decide) (by decide) (.slice (some ⟨g,0,none⟩) acc.length icap) acc.length (iH acc) [.int .u8 (v:Int)] _ rfl HWI.out.rw _ rfl rfl rfl (by simp[bC]) (by omega) (by omega) ?_;intro g5 cap5 w5 hown5 hgrow5 hat5 hlt5;have HW7:=aA (HWI.out.app hv hown5 hgrow5);clear hown5 hgrow5 hat5));go_roundg d
     case measure=>omega
     case rel=>exact⟨b+1,g5,cap5,acc++ [aL v],by simp,by go_num,by omega,by simp;omega,HST.out.symm,HW7.out⟩
    ·have e:gk=0:=by omega
     subst e;have e:b=256:=by omega
     subst e;have HL3:Hid (R=acc++flr n (fun c=>[aL (ns c)]++flr (ns c) (stB tk nx fi c))):=by unfold Hid;rw[HAC.out];exact HL2.out
     clear HL2 HAC;go_wp2_with fail;obtain⟨CB,hCB⟩:∃f:Nat->List UInt8,(fun c=>[aL (ns c)]++flr (ns c) (stB tk nx fi c))=f:=⟨_,rfl⟩
     have HCB:Hid (∀c,CB c= [aL (ns c)]++flr (ns c) (stB tk nx fi c)):=fun c=>by rw[←hCB]
     rw[hCB]at HL3;clear hCB;generalize acc=A2 at*
     go_loopg [9,74] n (fun gk iv kv wr=>∃(c g cap:Nat) (acc:List UInt8),iv= .slice (some ⟨g,0,none⟩) acc.length cap/\kv= .int .i64 (c:Int)/\c+gk=n/\acc.length<=1000+c*100000/\acc=A2++flr c CB/\WI w1 wr g cap acc)
     case atStart=>exact⟨0,g,icap,A2,rfl,rfl,by omega,by omega,(bD _).symm,HWI.out⟩
     case round=>
      obtain⟨c,g,icap,acc,rfl,rfl,hkm3,hal,hac,hwi⟩:=hrel;have HAC:=aA hac;have HWJ:=aA hwi;have hzw:=hwi.bl.size;clear hac hwi HWI;by_cases hlt3:c<n
      ·obtain⟨d,rfl⟩:∃d,gk=d+1:=⟨gk - 1,by omega⟩
       have c9:=(HC1.out.below HWJ.out.bl (by omega)).cc c hlt3;have hNb:=HNS.out c hlt3;have hCBc:=HCB.out c;have HTKc:Hid (∀s,s<ns c->tk c s<=255):=fun s hs=>HTK.out c s hlt3 hs
       obtain⟨N,hN⟩:∃N,ns c=N:=⟨_,rfl⟩
       rw[hN]at c9 hNb hCBc;replace hN:=aA hN;have HST:Hid (∀X,acc++ [aL N]++flr N (stB tk nx fi c)=X->X=A2++flr (c+1) CB):=fun X hX=>by
        rw[←hX,iC,←aT,←HAC.out,hCBc,aT]
       have hd3:decide ((c:Int)<(n:Int))=true:=by simp;omega
       have hcI:(0:Int)<=(c:Int)/\(c:Int)<(n:Int):=by omega
       clear hCBc HAC;go_upto_region 18 with(first | (at_builtin;refine aF wr rfl (.tmp 78) (.tmp 82) 116 rfl w1.heap.size 5 (.int .u8 0) 1 1 Tryz.underlying116 Tryz.infoByte rfl (by decide) (by decide) (.slice (some ⟨g,0,none⟩) acc.length icap) acc.length (iH acc) [.int .u8 (N:Int)] _ rfl HWJ.out.rw _ rfl rfl rfl (by simp[bC]) (by omega) (by omega) ?_;intro g5 cap5 w5 hown5 hgrow5 hat5 hlt5;have HW7:=aA (HWJ.out.app (show N<256 by omega) hown5 hgrow5);clear hown5 hgrow5 hat5))
       have HA3':Hid ((acc++ [aL N]).length=acc.length+1):=by unfold Hid;simp
       have hA3:(acc++ [aL N]).length<=1001+c*100000:=by rw[HA3'.out];omega
       rw[←HA3'.out];generalize acc++ [aL N]=A3 at*;clear HWJ HA3' c9;go_wp2_with fail
       go_loopg [9,86] N (fun gk iv kv wr=>∃(s g cap:Nat) (acc:List UInt8),iv= .slice (some ⟨g,0,none⟩) acc.length cap/\kv= .int .i64 (s:Int)/\s+gk=N/\acc.length<=1001+c*100000+s*300/\acc=A3++flr s (stB tk nx fi c)/\WI w1 wr g cap acc)
       case atStart=>exact⟨0,g5,cap5,A3,rfl,rfl,by omega,by omega,(bD _).symm,HW7.out⟩
       case round=>
        obtain⟨s,g,icap,acc,rfl,rfl,hkm4,hal4,hac,hwi⟩:=hrel;have HAC:=aA hac;have HWJ:=aA hwi;have hzw:=hwi.bl.size;have hgl:=(hwi.rw.lt g rfl).2;clear hac hwi HW7;by_cases hlt4:s<N
        ·obtain⟨ds,rfl⟩:∃d,gk=d+1:=⟨gk - 1,by omega⟩
         have hs':s<ns c:=by rw[hN.out];exact hlt4
         have HCj:=aA (HC1.out.below HWJ.out.bl (by omega));have HRG:Hid (wr.rangeAt (yb c) (s*2) [.int .i64 (tk c s),.slice (some ⟨zb c s,0,none⟩) K K]):=fun i v hv=>by
          have hi:i<2:=(bO.1 hv).1;have:i=0\/i=1:=by omega
          rcases this with rfl | rfl
          ·cases hv;exact HCj.out.tc c s hlt3 hs'
          ·cases hv;exact HCj.out.nc c s hlt3 hs'
         have HLC:Hid (∀k,k<K->w1.cell? ⟨zb c s,k,none⟩=some (.int .i64 (nx c s k))):=fun k hk=>HC1.out.lc c s k hlt3 hs' hk
         have HZB:Hid (zb c s<w1.heap.size):=by have:=HC1.out.b2 c s hlt3 hs';unfold Hid;omega
         have htkb:=HTKc.out s hs';have HNXs:Hid (∀k,k<K->nx c s k= -1\/(0<=nx c s k/\nx c s k<=255)):=fun k hk=>HNX.out c s k hlt3 hs' hk
         have HWA:=aA (HWJ.out.alloc (.cells #[.int .i64 (tk c s),.slice (some ⟨zb c s,0,none⟩) K K] 121));have d0:(wr.alloc (.cells #[.int .i64 (tk c s),.slice (some ⟨zb c s,0,none⟩) K K] 121)).cell? ⟨wr.heap.size,0,none⟩=some (.int .i64 (tk c s)):=(cL _ _ _ 0 rfl).trans rfl;have d1:(wr.alloc (.cells #[.int .i64 (tk c s),.slice (some ⟨zb c s,0,none⟩) K K] 121)).cell? ⟨wr.heap.size,1,none⟩=some (.slice (some ⟨zb c s,0,none⟩) K K):=(cL _ _ _ 1 rfl).trans rfl;have hzA:(wr.alloc (.cells #[.int .i64 (tk c s),.slice (some ⟨zb c s,0,none⟩) K K] 121)).heap.size=wr.heap.size+1:=by simp
         have HSB:Hid (stB tk nx fi c s= [aL (tk c s)]++flr fi.length (fun i=>[aL (ldB (nx c s (fi.getD i 0)))])):=rfl;rw[hFL.out]at HSB;have HST2:Hid (∀X,acc++ [aL (tk c s)]++flr (L+1) (fun i=>[aL (ldB (nx c s (fi.getD i 0)))])=X->X=A3++flr (s+1) (stB tk nx fi c)):=fun X hX=>by
          rw[←hX,iC s,←aT,←HAC.out,HSB.out,aT]
         have hd4:decide ((s:Int)<(N:Int))=true:=by simp;omega
         have hsI:(0:Int)<=(s:Int)/\(s:Int)<(N:Int):=by omega
         clear HSB HAC HCj;generalize nx c s=nxs at*;generalize tk c s=tks at*;generalize zb c s=zbs at*;go_upto_region 21 with(first | (refine wpList_load_mid rfl 121 (.tmp 88) rfl (yb c) (s*2) rfl [.int .i64 (tks:Int),.slice (some ⟨zbs,0,none⟩) K K] _ HRG.out Tryz.underlying121 rfl Tryz.stateSize ?_))
         generalize wr.alloc (.cells #[.int .i64 (tks:Int),.slice (some ⟨zbs,0,none⟩) K K] 121)=WA at*;obtain⟨sb,hsb⟩:∃b,wr.heap.size=b:=⟨_,rfl⟩
         rw[hsb]at d0 d1 hzA hgl ⊢;replace hsb:=aA hsb;have HZA:=aA hzA;clear HRG HWJ hzw hzA;go_upto_region 22 with(first | (at_builtin;refine aF WA rfl (.tmp 90) (.tmp 94) 116 rfl w1.heap.size 5 (.int .u8 0) 1 1 Tryz.underlying116 Tryz.infoByte rfl (by decide) (by decide) (.slice (some ⟨g,0,none⟩) acc.length icap) acc.length (iH acc) [.int .u8 (tks:Int)] _ rfl HWA.out.rw _ rfl rfl rfl (by simp[bC]) (by omega) (by have:=HWA.out.bl.size;omega) ?_;intro g6 cap6 w6 hown6 hgrow6 hat6 hlt6;have HW8:=aA (HWA.out.app (show tks<256 by omega) hown6 hgrow6);have HD6:=aA (((bG hgrow6 (show sb<WA.heap.size by have:=HZA.out;omega) (fun e=>absurd (show sb=g by simpa[bN]using e) (by omega))).1 1).trans d1);have HG6:Hid (g6≠sb):=(by unfold Hid;have:=HZA.out;rcases hat6 with h | h;(have:g=g6:=by simpa[bN]using h);omega;omega);have HZ6:Hid (sb<w6.heap.size):=(by unfold Hid;have q1:=hgrow6.size;have q2:=HZA.out;simp at q1;omega);clear hown6 hgrow6 hat6))
         have HA4':Hid ((acc++ [aL tks]).length=acc.length+1):=by unfold Hid;simp
         have hA4:(acc++ [aL tks]).length<=1002+c*100000+s*300:=by rw[HA4'.out];omega
         rw[←HA4'.out];generalize acc++ [aL tks]=A4 at*;clear HWA HA4' d0 d1 HZA;go_wp2_with fail
         go_loopg [9,98] (L+1) (fun gk iv kv wr=>∃(i g cap:Nat) (acc:List UInt8),iv= .slice (some ⟨g,0,none⟩) acc.length cap/\kv= .int .i64 (i:Int)/\i+gk=L+1/\acc.length<=1002+c*100000+s*300+i/\acc=A4++flr i (fun i=>[aL (ldB (nxs (fi.getD i 0)))])/\WI w1 wr g cap acc/\wr.cell? ⟨sb,1,none⟩=some (.slice (some ⟨zbs,0,none⟩) K K)/\g≠sb/\sb<wr.heap.size)
         case atStart=>exact⟨0,g6,cap6,A4,rfl,rfl,by omega,hA4,(bD _).symm,HW8.out,HD6.out,HG6.out,HZ6.out⟩
         case round=>
          obtain⟨i,g,icap,acc,rfl,rfl,hkm5,hal5,hac,hwi,d1,hgs,hsz⟩:=hrel;have HAC:=aA hac;have HWJ:=aA hwi;have hzw:=hwi.bl.size;clear hac hwi HW8 HD6 HG6 HZ6;by_cases hlt5:i<L+1
          ·obtain⟨di,rfl⟩:∃d,gk=d+1:=⟨gk - 1,by omega⟩
           have c8:=(HN2.out.below HWJ.out.bl hg2) i hlt5;have HV:Hid (bW fi i=((fi.getD i 0:Nat):Int)):=rfl;rw[HV.out]at c8;have hv:fi.getD i 0<K:=uG HF3.out (by rw[hFL.out];exact hlt5);have HST3:Hid (A4++flr (i+1) (fun i=>[aL (ldB (nxs (fi.getD i 0)))])=acc++ [aL (ldB (nxs (fi.getD i 0)))]):=by
            unfold Hid;rw[iC i,←aT,←HAC.out]
           generalize fi.getD i 0=v at*;have c7:=(HWJ.out.bl.cell (p:=⟨zbs,v,none⟩) HZB.out).trans (HLC.out v hv);have hx:=HNXs.out v hv;have hlb:ldB (nxs v)<256:=by unfold ldB;split<;> omega
           generalize nxs v=xv at*;have hcl:=Mn xv wr hx;replace hx:=aA hx;have hvI:(0:Int)<=(v:Int)/\(v:Int)<(K:Int):=by omega
           have hd5:decide ((i:Int)<((L+1:Nat):Int))=true:=by simp;omega
           have hiI:(0:Int)<=(i:Int)/\(i:Int)<((L+1:Nat):Int):=by omega
           generalize ldB xv=lb at*;clear HV;go_wp2_with fail;refine hcl.mono ?_;rintro e w7 ⟨rfl,hw7⟩;rw[hw7];clear hw7 w7;go_wp2_with (first | (at_builtin;refine aF wr rfl (.tmp 108) (.tmp 110) 116 rfl w1.heap.size 5 (.int .u8 0) 1 1 Tryz.underlying116 Tryz.infoByte rfl (by decide) (by decide) (.slice (some ⟨g,0,none⟩) acc.length icap) acc.length (iH acc) [.int .u8 (lb:Int)] _ rfl HWJ.out.rw _ rfl rfl rfl (by simp[bC]) (by omega) (by omega) ?_;intro g8 cap8 w8 hown8 hgrow8 hat8 hlt8;have HW9:=aA (HWJ.out.app hlb hown8 hgrow8);have HD8:=aA (((bG hgrow8 hsz (fun e=>absurd (show sb=g by simpa[bN]using e) (by omega))).1 1).trans d1);have HG8:Hid (g8≠sb):=(by unfold Hid;rcases hat8 with h | h;(have:g=g8:=by simpa[bN]using h);omega;omega);have HZ8:Hid (sb<w8.heap.size):=(by unfold Hid;have:=hgrow8.size;simp at this;omega);clear hown8 hgrow8 hat8));go_roundg di
           case measure=>omega
           case rel=>exact⟨i+1,g8,cap8,acc++ [aL lb],by simp,by go_num,by omega,by simp;omega,HST3.out.symm,HW9.out,HD8.out,HG8.out,HZ8.out⟩
          ·have e:gk=0:=by omega
           subst e;have e:i=L+1:=by omega
           subst e;have hd5:decide (((L+1:Nat):Int)<((L+1:Nat):Int))=false:=by simp
           have HE:=aA (HST2.out acc HAC.out.symm);go_wp2_with fail;go_roundg ds
           case measure=>omega
           case rel=>exact⟨s+1,g,icap,acc,rfl,by go_num,by omega,by omega,HE.out,HWJ.out⟩
        ·have e:gk=0:=by omega
         subst e;have e:s=N:=by omega
         subst e;have hd4:decide ((s:Int)<(s:Int))=false:=by simp
         have HE:=aA (HST.out acc HAC.out.symm);go_wp2_with fail;go_roundg d
         case measure=>omega
         case rel=>exact⟨c+1,g,icap,acc,rfl,by go_num,by omega,by omega,HE.out,HWJ.out⟩
      ·have e:gk=0:=by omega
       subst e;have e:c=n:=by omega
       subst e;have hd3:decide ((c:Int)<(c:Int))=false:=by simp
       have HE:Hid (R=acc):=by unfold Hid;rw[HL3.out,HAC.out]
       go_wp2_with (first | (refine Tryz.wpText rfl (.tmp 115) rfl HWJ.out rfl ?_));go_ret;exact⟨by rw[HE.out];rfl,HB1.out.trans (jV HWJ.out.bl (by omega))⟩
end Go.Proofs.YtgjgjgihceijnaaGreat
namespace Go.Stn
open Go.RowKit
def nsF (ls:List (List (Nat×List Int)))(c:Nat):Nat:=(ls.getD c []).length
def tkF (ls:List (List (Nat×List Int)))(c s:Nat):Nat:=((ls.getD c []).getD s (0,[])).1
def nxF (ls:List (List (Nat×List Int)))(c s k:Nat):Int:=((ls.getD c []).getD s (0,[])).2.getD k 0
end Go.Stn
namespace Go.Proofs.YtgjgjgihceijnaaGreat
open Go.RowKit Go.Stn
theorem Wr {w:World}{K cg:Nat}{ls:List (List (Nat×List Int))}(h:Cl w K cg ls)(hcg:cg<w.heap.size)(hl:∀l∈ls,∀z∈l,z.2.length=K):
  ∃yb zb,CM w w.heap.size cg ls.length K yb zb (nsF ls) (tkF ls) (nxF ls):=by
 obtain⟨ys,rfl,hr,hin⟩:=h;have hy:∀c,c<ys.length->∃y,ys[c]? =some y/\y∈ys/\(ys.map (fun y=>y.2.map (·.1))).getD c []=y.2.map (·.1):=fun c hc=>
  ⟨ys[c],aR hc,bT hc,by rw[aO,bM,aR hc];rfl⟩
 have hz:∀(y:jG) s,s<y.2.length->∃z,y.2[s]? =some z/\z∈y.2/\(y.2.map (·.1)).getD s (0,[])=z.1:=fun y s hs=>
  ⟨y.2[s],aR hs,bT hs,by rw[aO,bM,aR hs];rfl⟩
 refine⟨fun c=>(ys.getD c (0,[])).1,fun c s=>((ys.getD c (0,[])).2.getD s ((0,[]),0)).2, ?_⟩;have gy:∀c y,ys[c]? =some y->ys.getD c (0,[])=y:=fun c y e=>by rw[aO,e];rfl
 have gz:∀(y:jG) s z,y.2[s]? =some z->y.2.getD s ((0,[]),0)=z:=fun y s z e=>by rw[aO,e];rfl
 have hns:∀c y,ys[c]? =some y->nsF (ys.map (fun y=>y.2.map (·.1))) c=y.2.length:=fun c y e=>by
  unfold nsF;rw[aO,bM,e];simp
 rw[List.length_map];refine⟨fun c hc=> ?_,fun c s hc hs=> ?_,fun c s hc hs=> ?_,fun c s k hc hs hk=> ?_,hcg,fun c hc=> ?_,fun c s hc hs=> ?_⟩
 ·obtain⟨y,e,hm,_⟩:=hy c hc;have:=hr c _ (U6 ys c y e);rw[bK]at this;rw[this,hns c y e,gy c y e]
 ·obtain⟨y,e,hm,hd⟩:=hy c hc;rw[hns c y e]at hs;obtain⟨z,e2,hm2,hd2⟩:=hz y s hs;have:=(hin y hm).rg (s*2) _ (cN 2 s ▸ (D1 K y.2 s z e2).1);rw[bK]at this;simp only[gy c y e];rw[this];unfold tkF;rw[hd,hd2]
 ·obtain⟨y,e,hm,hd⟩:=hy c hc;rw[hns c y e]at hs;obtain⟨z,e2,hm2,hd2⟩:=hz y s hs;have:=(hin y hm).rg (s*2+1) _ (cN 2 s ▸ (D1 K y.2 s z e2).2);rw[bK]at this;simp only[gy c y e,gz y s z e2];rw[this]
 ·obtain⟨y,e,hm,hd⟩:=hy c hc;rw[hns c y e]at hs;obtain⟨z,e2,hm2,hd2⟩:=hz y s hs;have hzl:z.1.2.length=K:=hl _ (cO.2 ⟨y,hm,rfl⟩) _ (cO.2 ⟨z,hm2,rfl⟩);have hk':k<z.1.2.length:=by omega
  have:=((hin y hm).rows z hm2).2 k _ (tI z.1.2 k _ (aR hk'));rw[bK]at this;simp only[gy c y e,gz y s z e2];rw[this];unfold nxF;rw[hd,hd2,aO,aR hk'];rfl
 ·obtain⟨y,e,hm,hd⟩:=hy c hc;simp only[gy c y e];exact(hin y hm).lt
 ·obtain⟨y,e,hm,hd⟩:=hy c hc;rw[hns c y e]at hs;obtain⟨z,e2,hm2,hd2⟩:=hz y s hs;simp only[gy c y e,gz y s z e2];exact((hin y hm).rows z hm2).1
end Go.Proofs.YtgjgjgihceijnaaGreat
