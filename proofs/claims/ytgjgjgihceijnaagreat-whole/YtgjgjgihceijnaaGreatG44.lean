import Derived.Test.YtgjgjgihceijnaaGreatG43
open Nat renaming le_refl->aR
open List renaming getElem?_eq_getElem->bC
open Go.Value renaming oneCell'->a9
open Go.World renaming setCell->bK
set_option maxRecDepth 100000
set_option maxHeartbeats 8000000
namespace Go.Proofs.YtgjgjgihceijnaaGreat
open Go.RowKit Go.Stn
theorem Tryz.infoLefts:(Tryz.prog.info? 145).map (fun i=>(i.zero,i.size,i.bytes))=some (some (.slice none 0 0),1,24):=by kernel_rfl
def X6 (N:List RN)(tops:List Nat)(l0:List LfT)(B gb:Nat)(w':World)(Ls:List (List LfT))(Of:List Int)(To:Nat->Nat->Int):Prop:=
 GI N tops l0 Ls Of To Ls.length 0/\∃(O:Nat->Nat) (vL vO vT:Value) (rows:List (Nat->Int)) (cL cO cT:List (List Value)),GM gb B w' O vL vO vT Ls Of rows cL cO cT/\nF rows To Ls.length
theorem Ht {fb gN cap gR cR cond:Nat}{L:List NV}{R:List RV}{ks:List Nat}(hf:eC (nvN L) (R.map RV.n) ks)(hcond:cond<4){w:World}(h:FR fb w L gN cap)(hr:FRu fb w R gR cR){v:Value}{lw:List Nat}(hv:IL w v lw)(hlw:lw.length=256)(hlo:uX (nvN L) lw):
  Calls Tryz.prog 46 #[.pointer (some ⟨fb,0,none⟩),.int .i64 (cond:Int),v] w fun e w'=>∃(gb:Nat) (Ls:List (List LfT)) (Of:List Int) (To:Nat->Nat->Int),e= .returned (.pointer (some ⟨gb,0,none⟩))/\Below w.heap.size w w'/\X6 (nvN L) (R.map RV.n) (gG cond 0 R) w.heap.size gb w' Ls Of To:=by
 have hR:R.length<=8:=by have:=hf.r8;rw[List.length_map]at this;exact this
 obtain⟨a,vc,rfl,_,hv⟩:=hv;obtain⟨gl,ol,rfl,hgl,hcl⟩:=hv.resolve_left (fun e=>by rw[e]at hlw;simp at hlw);have HCL:=aA hcl;have HFP:=aA hf;have HF:=aA h;have HLW:=aA hlw;have HLO:=aA hlo;have HBG:=aA (J2 (fb:=fb) (gR:=gR) (cR:=cR) hcond (R:=R) (by omega) hr);have HUB:Hid (∀x,x∈gG cond 0 R->UB (nvN L) (R.map RV.n) x):=Y5;have HL0:Hid ((gG cond 0 R).length<=1000):=by have:=xT cond R 0;unfold Hid;omega
 obtain⟨i0,hi0,hz0,hz1,hz2⟩:=info_parts Tryz.infoIntR;have HI:Hid (Tryz.prog.info? 3=some i0/\i0.zero=some (.int .i64 0)/\i0.size=1/\i0.bytes=8):=⟨hi0,hz0,hz1,hz2⟩
 rw[hlw];clear hi0 hz0 hz1 hz2 hf h hr hlw hlo hcl hv;generalize R.map RV.n=tops at*;generalize gG cond 0 R=l0 at*;go_enter Tryz.func46,Tryz.ntmps46;go_upto_region 2 with fail;refine HBG.out.mono ?_;rintro e w1 ⟨v0,rfl,hb1,hlf1⟩;have HB1:=aA hb1;have hz1:=hb1.size;have hst:=GM.start hz1 hlf1;obtain⟨va,vcap,rfl,_⟩:=hlf1;have HG0:=aA hst.1;have HB2:=aA hst.2;clear hb1 hst HBG;go_wp2_with fail;generalize ((w1.alloc (.cells #[.slice va l0.length vcap] 145)).alloc (.cells #[.int .i64 (-1)] 3)).alloc (.cells #[.slice (some ⟨w1.heap.size,0,none⟩) 1 1,.slice (some ⟨w1.heap.size+1,0,none⟩) 1 1,.slice none 0 0] 133)=W2 at*;have HBB:Hid (Below w.heap.size w W2):=dO HB1.out HB2.out;generalize w1.heap.size+1+1=gb at*;clear HB1 HB2 hz1
 go_loopw [9] (fun z wr=>∃(p:Nat) (Ls:List (List LfT)) (Of:List Int) (To:Nat->Nat->Int) (O:Nat->Nat) (vL vO vT:Value) (rows:List (Nat->Int)) (cL cO cT:List (List Value)),z= .int .i64 (p:Int)/\p<=Ls.length/\GI (nvN L) tops l0 Ls Of To p 0/\GM gb w.heap.size wr O vL vO vT Ls Of rows cL cO cT/\nF rows To p/\Below w.heap.size w wr) (fun z _=>1026 - (intOf z).toNat)
 case atStart=>exact⟨0,[l0],[-1],fun _ _=>0,_,_,_,_,[],_,_,_,rfl,by simp,GI.start _ _ _ _,HG0.out,⟨rfl,fun i f hf=>by simp at hf⟩,HBB.out⟩
 case round=>
  obtain⟨p,Ls,Of,To,O,vL,vO,vT,rows,cL,cO,cT,rfl,hp,hgi,hgm,hrw,hbl⟩:=hrel;have hfew:=hgi.few HFP.out;have hpos:0<Ls.length:=(List.getElem?_eq_some_iff.1 hgi.z).1;have HGI:=aA hgi;have HGM:=aA hgm;have HRW:=aA hrw;have HBL:=aA hbl;have hzw:=hbl.size;have hgb:=hgm.wt.2.1;have c0:=hgm.c0;obtain⟨aL,qL,eL⟩:=aK hgm.rL.1;rw[eL]at c0;obtain⟨nL,enL⟩:∃nL,Ls.length=nL:=⟨_,rfl⟩
  rw[enL]at c0 hfew hpos hp;have HNL:=aA enL;clear hgi hgm hrw hbl enL eL;by_cases hlt:p<nL
  ·have hd1:decide ((p:Int)<(nL:Int))=true:=by simp;omega
   go_upto_region 7 with(first | (at_make;refine wpList_make_full wr rfl _ _ 59 rfl wr.heap.size 3 i0 (.int .i64 0) 1 Tryz.underlying59 HI.out.1 HI.out.2.1 HI.out.2.2.1 .i64 .i64 _ _ 256 rfl rfl rfl rfl (by rw[HI.out.2.2.2];omega) (by unfold maxLen;omega) (aR _) ?_;intro w3 hown3 hg3))
   have hb3:Below wr.heap.size wr w3:=⟨hg3.os,hg3.tape,hg3.output,hg3.size,fun k hk=>hg3.block k hk (by simp)⟩
   have hz3:wr.heap.size<w3.heap.size:=(hown3.lt wr.heap.size rfl).2;have hcr:CR w3 (fun k=>if k=wr.heap.size then 5 else O k) w.heap.size wr.heap.size (To p) 0:=by
    refine⟨⟨if_pos rfl,hz3,hzw⟩,fun j hj=>by omega,fun j hj=>⟨0, ?_⟩,fun i=>lF hown3 i⟩;have h1:=hown3.cells rfl j (.int .i64 0) (by
     rw[tY,List.getElem?_map,List.getElem?_replicate,if_pos hj];rfl)
    rw[iL,Nat.zero_add]at h1;exact h1
   have hgm3:GM gb w.heap.size w3 (fun k=>if k=wr.heap.size then 5 else O k) vL vO vT Ls Of rows cL cO cT:=HGM.out.keep hb3.size (fun k hk _=>⟨hb3.block k hk,if_neg (by omega)⟩) (fun k hk=>by
    have:k≠wr.heap.size:=by omega
    simp only[if_neg this];exact HGM.out.fr k (by omega))
   have HGM3:=aA hgm3;have HCR3:=aA hcr;have HBL3:=aA (dO HBL.out hb3);have HPL:Hid (p<Ls.length):=by unfold Hid;rw[HNL.out];exact hlt
   clear hgm3 hcr hb3 hown3 hg3 HGM HBL c0 hd1;generalize wr.heap.size=rb at*;go_wp2_with fail
   go_loopw [11] (fun z wr2=>∃(b:Nat) (Ls:List (List LfT)) (Of:List Int) (To:Nat->Nat->Int) (O:Nat->Nat) (vL vO vT:Value) (cL cO cT:List (List Value)),z= .int .i64 (b:Int)/\b<=256/\p<Ls.length/\GI (nvN L) tops l0 Ls Of To p b/\GM gb w.heap.size wr2 O vL vO vT Ls Of rows cL cO cT/\CR wr2 O w.heap.size rb (To p) b/\nF rows To p/\Below w.heap.size w wr2) (fun z _=>256 - (intOf z).toNat)
   case atStart=>exact⟨0,Ls,Of,To,_,vL,vO,vT,cL,cO,cT,rfl,by omega,HPL.out,HGI.out,HGM3.out,HCR3.out,HRW.out,HBL3.out⟩
   case round=>
    clear HGI HGM3 HCR3 HBL3 HPL HRW hzw hgb hz3 hfew hpos hp hlt HNL;obtain⟨b,Ls,Of,To,O,vL,vO,vT,cL,cO,cT,rfl,hb,hpl,hgi,hgm,hcr,hrw,hbl⟩:=hrel;have hfew:=hgi.few HFP.out;have HGI:=aA hgi;have HGM:=aA hgm;have HCR:=aA hcr;have HRW:=aA hrw;have HBL:=aA hbl;have hzw:=hbl.size;have hgb:=hgm.wt.2.1;have hrb:=hcr.wt.2.1;have hrB:=hcr.wt.2.2;have hO5:=hcr.wt.1;by_cases hb256:b<256
    ·obtain⟨x,hx⟩:∃x,lw[b]? =some x:=⟨lw[b]'(by rw[HLW.out];exact hb256),bC _⟩
     obtain⟨l,hl⟩:∃l,Ls[p]? =some l:=⟨Ls[p]'hpl,bC _⟩
     have HL:=aA hl;have y0:wr.cell? ⟨gl,ol+b,none⟩=some (.int .i64 (x:Int)):=(hbl.cell (p:=⟨gl,ol+b,none⟩) hgl).trans (HCL.out b x hx);have hxb:=(HLO.out b x hx).1;have hbI:(0:Int)<=(b:Int)/\(b:Int)<(256:Int):=by omega
     have hxI:(0:Int)<=(x:Int)/\(x:Int)<(256:Int):=by omega
     obtain⟨old,hold⟩:=hcr.a b hb256;have fz:=hcr.fz b;by_cases hlow:x<b
     ·have hd2:decide ((x:Int)<(b:Int))=true:=by simp;omega
      have y1:=hcr.c x hlow;have HTI:=aA (HGI.out.twin HFP.out HLO.out hb256 hl hx hlow);have HCN:Hid (CR (wr.setCell ⟨rb,b,none⟩ (.int .i64 (To p x))) O w.heap.size rb (C6 To p b (To p x) p) (b+1)):=HCR.out.put hb256 (kG _ _ _ _) (fun j hj=>fT (fun e=>by omega));have HGN:Hid (GM gb w.heap.size (wr.setCell ⟨rb,b,none⟩ (.int .i64 (To p x))) O vL vO vT Ls Of rows cL cO cT):=HGM.out.set hO5 b _;have HBN:Hid (Below w.heap.size w (wr.setCell ⟨rb,b,none⟩ (.int .i64 (To p x)))):=HBL.out.setCell (p:=⟨rb,b,none⟩) hrB _;clear hgi hgm hcr hrw hbl hl hx;generalize To p x=tx at*;go_wp2;go_roundw
      case rel=>exact⟨b+1,Ls,Of,C6 To p b tx,O,vL,vO,vT,cL,cO,cT,by go_num,by omega,hpl,HGI.out.old hb256 HL.out HTI.out,HGN.out,HCN.out,HRW.out.upd _,HBN.out⟩
      case measure=>simp[intOf];omega
     ·have hd2:decide ((x:Int)<(b:Int))=false:=by simp;omega
      obtain⟨g2,cap2,c,eL,_,hg2,⟨q,hcq,hq⟩,_,hcell⟩:=hgm.rL.at hl;have c0:=hgm.c0;rw[eL]at c0;have y2:wr.cell? ⟨g2,p,none⟩=some q:=by have:=hcell 0 q (by rw[hcq];rfl);rw[Nat.mul_one,Nat.add_zero]at this;exact this
      have HQ:=aA hq;obtain⟨qa,qc,rfl,_⟩:=hq;have hpI:(0:Int)<=(p:Int)/\(p:Int)<(Ls.length:Int):=by omega
      have hlm:=List.mem_of_getElem? hl;have HLU:=aA (HGI.out.ub HUB.out l hlm);have HLB:=aA (HGI.out.bnds HFP.out HUB.out HL0.out);have HLL:=aA (HLB.out l hlm).1;have HEL:=aA eL;clear hgi hgm hcr hrw hbl hl hx hcell hcq hlm hold fz;go_upto_region 13 with fail;refine(P9 HFP.out b hb256 (HF.out.below (B:=w.heap.size) ⟨HBL.out.os,HBL.out.tape,HBL.out.output,HBL.out.size,HBL.out.block⟩ (aR _)) (HQ.out.below (w':=wr) ⟨rfl,rfl,rfl,aR _,fun _ _=>rfl⟩) HLL.out HLU.out).mono ?_;rintro e w4 ⟨vl,rfl,hb4,hlf4⟩;have hb4':Below wr.heap.size wr w4:=⟨hb4.os,hb4.tape,hb4.output,hb4.size,hb4.block⟩
      have HGM4:=aA (HGM.out.below hb4');have HCR4:=aA (HCR.out.keep (w':=w4) (O':=O) hb4'.size ⟨hb4'.block rb hrb,rfl⟩);have HBL4:=aA (dO HBL.out hb4');have hz4:=hb4'.size;have HLF4:Hid (LFp w4 (fun g=>O g=0) vl (dE (nvN L) b l)):=hlf4.mono (fun k hk _=>HGM.out.fr k hk);have HST:=aA (HFP.out.step_all HLU.out (c:=b));have hs10:(dE (nvN L) b l).length<=10:=HFP.out.few (sN _ _ _) HST.out;have HSB:Hid (∀x,x∈dE (nvN L) b l->x.1<1000/\x.2.length<=1000000/\∀m,m∈x.2->m<L.length):=fun x hx=>by
       obtain⟨k1,k2,k3⟩:=HFP.out.bnd (HST.out x hx).ub;have:=HFP.out.r8;exact⟨by omega,by omega,fun m hm=>by rw[←dQ];exact(k1 m hm).1⟩
      obtain⟨la,lc,evl,_⟩:=hlf4;subst evl;have hgb4:gb<w4.heap.size:=by omega
      clear hb4 hb4' HGM HCR HBL c0 y0 y2 HQ;go_upto_region 14 with fail;refine(Un (l:=dE (nvN L) b l) hgb4 HGM4.out.c0 HGM4.out.rL HLF4.out (by omega) (by omega) HLB.out (by omega) (fun x hx=>(HSB.out x hx).2.1)).mono ?_;rintro e w5 ⟨v5,rfl,hb5,hat5⟩;have hb5':Below w4.heap.size w4 w5:=⟨hb5.os,hb5.tape,hb5.output,hb5.size,hb5.block⟩
      have HGM5:=aA (HGM4.out.below hb5');have HCR5:=aA (HCR4.out.keep (w':=w5) (O':=O) hb5'.size ⟨hb5'.block rb (by omega),rfl⟩);have HBL5:=aA (dO HBL4.out hb5');have HLF5:=aA (HLF4.out.below hb5');have hz5:=hb5'.size;have HAT:=aA hat5;obtain⟨old,hold⟩:=HCR5.out.a b hb256;have fz:=HCR5.out.fz b;have HCN:Hid (∀t:Int,CR (w5.setCell ⟨rb,b,none⟩ (.int .i64 t)) O w.heap.size rb (C6 To p b t p) (b+1)):=fun t=>HCR5.out.put hb256 (kG _ _ _ _) (fun j hj=>fT (fun e=>by omega))
      have HGN:Hid (∀t:Int,GM gb w.heap.size (w5.setCell ⟨rb,b,none⟩ (.int .i64 t)) O vL vO vT Ls Of rows cL cO cT):=fun t=>HGM5.out.set hO5 b _
      have HBN:Hid (∀t:Int,Below w.heap.size w (w5.setCell ⟨rb,b,none⟩ (.int .i64 t))):=fun t=>HBL5.out.setCell (p:=⟨rb,b,none⟩) hrB _
      clear hb5 hb5' HGM4 HCR4 HBL4 HLF4 hat5;by_cases hemp:dE (nvN L) b l= []
      ·have HTI:Hid (C8 (nvN L) Ls l b (-1)):= .inl ⟨hemp,rfl⟩;have e0:(dE (nvN L) b l).length=0:=by rw[hemp];rfl
       rw[e0];clear hemp e0 hs10 HSB HST HAT HLF5;go_wp2;go_roundw
       case rel=>exact⟨b+1,Ls,Of,C6 To p b (-1),O,vL,vO,vT,cL,cO,cT,by go_num,by omega,hpl,HGI.out.old hb256 HL.out HTI.out,HGN.out _,HCN.out _,HRW.out.upd _,HBN.out _⟩
       case measure=>simp[intOf];omega
      ·have hnz:0<(dE (nvN L) b l).length:=by
        rcases Nat.eq_zero_or_pos (dE (nvN L) b l).length with e | e
        ·exact absurd (List.length_eq_zero_iff.1 e) hemp
        ·exact e
       have HEMP:=aA hemp;have d0:((((dE (nvN L) b l).length:Nat):Int)==0)=false:=by rw[beq_eq_false_iff_ne];omega
       rcases HAT.out with⟨rfl,hno⟩ | ⟨i,l',rfl,hi0,hl',heq⟩
       ·have HNO:Hid (∀(i:Nat) (l':List LfT),0<i->Ls[i]? =some l'->¬ ∀x,x∈l'↔x∈dE (nvN L) b l):=fun i l' h1 h2 h3=>by
         have:=(F1 (HGI.out.ok i l' h1 h2).2.1 (sN (nvN L) b l)).2 h3;rw[hno i l' h1 h2]at this
         cases this
        have HLF6:=HLF5;have c5:=HGM5.out.c0;have hvl:=HEL.out;subst hvl;clear HEL hno;have HNEW:=aA (HGI.out.new hb256 HL.out hemp HST.out HNO.out);have HRL:Hid ((dE (nvN L) b l).length<=1000000):=by unfold Hid;omega
        have hgb5:gb<w5.heap.size:=by omega
        obtain⟨ns,ens⟩:∃ns,(dE (nvN L) b l).length=ns:=⟨_,rfl⟩
        rw[ens]at hnz d0 hs10 HLF5 ⊢;obtain⟨rr,err⟩:∃rr,eJ (nvN L) (dE (nvN L) b l)=rr:=⟨_,rfl⟩
        have HRR:=aA err;have HENS:=aA ens;clear hemp err ens hold fz HCN HGN HBN;go_upto_region 17 with fail;refine(C3 (fb:=fb) (gN:=gN) (cap:=cap) HFP.out.sh HFP.out.cl (by have:=HFP.out.n3;rw[dQ]at this;omega) (HF.out.below (B:=w.heap.size) ⟨HBL5.out.os,HBL5.out.tape,HBL5.out.output,HBL5.out.size,HBL5.out.block⟩ (aR _)) (HLF5.out.below (w':=w5) ⟨rfl,rfl,rfl,aR _,fun _ _=>rfl⟩) HRL.out HSB.out).mono ?_;rintro e w6 ⟨rfl,hb6⟩;have hb6':Below w5.heap.size w5 w6:=⟨hb6.os,hb6.tape,hb6.output,hb6.size,hb6.block⟩
        have HGM6:=aA (HGM5.out.below hb6');have HCR6:=aA (HCR5.out.keep (w':=w6) (O':=O) hb6'.size ⟨hb6'.block rb (by omega),rfl⟩);have HBL6:=aA (dO HBL5.out hb6');have HLF7:=aA (HLF5.out.below hb6');have hz6:=hb6'.size;have c6:=HGM6.out.c0;have f6:=HGM6.out.fz 0;have hzw6:=HBL6.out.size;have hgb6:gb<w6.heap.size:=by omega
        have HRO:=aA HGM6.out.rL.1;have HTL:=aA HGM6.out.tL;have HGB:=aA HGM6.out.wt.1;have HELF:Hid (C5 w6 (fun g=>O g=0) [.slice la ns lc] (dE (nvN L) b l)):=⟨_,rfl,HLF7.out⟩
        rw[HRR.out];clear hb6 hb6' HGM5 HCR5 HBL5 HLF5 HLF6 HLF7 c5;go_upto_region 18 with(first | (at_builtin;refine aF w6 rfl (.tmp 85) (.tmp 87) 131 rfl w.heap.size 145 (.slice none 0 0) 1 24 Tryz.underlying131 Tryz.infoLefts rfl (by decide) (by decide) (.slice (some ⟨g2,0,none⟩) Ls.length cap2) Ls.length cL.flatten [.slice la ns lc] _ rfl HRO.out _ rfl rfl rfl (by simp[a9]) (by omega) (by omega) ?_;intro g7 cap7 w7 hown7 hgrow7 hat7 hlt7;have m7:=((bG hgrow7 (k:=gb) hgb6 (fun e=>by have:=HTL.out gb e.symm;have:=HGB.out;omega)).1 0).trans c6;have n7:=((bG hgrow7 (k:=gb) hgb6 (fun e=>by have:=HTL.out gb e.symm;have:=HGB.out;omega)).2 0).trans f6;have HO7:=aA hown7;have HG7:=aA hgrow7;have HA7:=aA hat7;clear hown7 hgrow7 hat7))
        obtain⟨hgm8,hkp8,hz8,hbl8⟩:=HGM6.out.pushL rfl HELF.out rfl HO7.out HG7.out HA7.out;have HGM8:=aA hgm8;have hk8:=hkp8 rb (by omega) (by omega) (by omega);have HBL8:=aA (hbl8 w HBL6.out);have hzs:(w7.setCell ⟨gb,0,none⟩ (.slice (some ⟨g7,0,none⟩) (Ls.length+1) cap7)).heap.size=w7.heap.size:=by simp[bK]
        have hz8':w6.heap.size<=(w7.setCell ⟨gb,0,none⟩ (.slice (some ⟨g7,0,none⟩) (Ls.length+1) cap7)).heap.size:=by omega
        have HCR8:Hid (CR (w7.setCell ⟨gb,0,none⟩ (.slice (some ⟨g7,0,none⟩) (Ls.length+1) cap7)) (fun k=>if k=g7 then 2 else O k) w.heap.size rb (To p) b):=HCR6.out.keep hz8' hk8;clear hgm8 hkp8 hz8 hbl8 hk8 hzs m7 n7 hlt7 HO7 HG7 HA7 HELF HRO HTL HGM6 HCR6 HBL6 c6 f6 HGB;generalize hW8:w7.setCell ⟨gb,0,none⟩ (.slice (some ⟨g7,0,none⟩) (Ls.length+1) cap7)=W8 at*;generalize hO8:(fun k=>if k=g7 then 2 else O k)=O8 at*;clear hW8 hO8;have c8:=HGM8.out.c1;have f8:=HGM8.out.fz 1;obtain⟨aO,qO,eO⟩:=aK HGM8.out.rO.1;subst eO;have hgb8:gb<W8.heap.size:=by omega
        have hzw8:=HBL8.out.size;have HRO8:=aA HGM8.out.rO.1;have HTO8:=aA HGM8.out.tO;have HGB8:=aA HGM8.out.wt.1;have hrb8:=HCR8.out.wt.2.1;have hO58:=HCR8.out.wt.1;have hof:Of.length<=2000:=by have:=HGI.out.len;omega
        go_upto_region 19 with(first | (at_builtin;refine aF W8 rfl (.tmp 95) (.tmp 97) 59 rfl w.heap.size 3 (.int .i64 0) 1 8 Tryz.underlying59 Tryz.infoIntR rfl (by decide) (by decide) (.slice aO Of.length qO) Of.length cO.flatten [.int .i64 rr] _ rfl HRO8.out _ rfl rfl rfl (by simp[a9]) (by omega) (by omega) ?_;intro g9 cap9 w9 hown9 hgrow9 hat9 hlt9;have m9:=((bG hgrow9 (k:=gb) hgb8 (fun e=>by have:=HTO8.out gb e.symm;have:=HGB8.out;omega)).1 1).trans c8;have n9:=((bG hgrow9 (k:=gb) hgb8 (fun e=>by have:=HTO8.out gb e.symm;have:=HGB8.out;omega)).2 1).trans f8;have HO9:=aA hown9;have HG9:=aA hgrow9;have HA9:=aA hat9;clear hown9 hgrow9 hat9))
        obtain⟨hgm10,hkp10,hz10,hbl10⟩:=HGM8.out.pushO (x:=rr) rfl (show rX _ _ [.int .i64 rr] rr from rfl) rfl HO9.out HG9.out HA9.out;have HGM10:=aA hgm10;have hk10:=hkp10 rb hrb8 (by omega) (by omega);have HBL10:=aA (hbl10 w HBL8.out);have hzs10:(w9.setCell ⟨gb,1,none⟩ (.slice (some ⟨g9,0,none⟩) (Of.length+1) cap9)).heap.size=w9.heap.size:=by simp[bK]
        have HCR10:Hid (CR (w9.setCell ⟨gb,1,none⟩ (.slice (some ⟨g9,0,none⟩) (Of.length+1) cap9)) (fun k=>if k=g9 then 3 else O8 k) w.heap.size rb (To p) b):=HCR8.out.keep (by omega) hk10;clear hgm10 hkp10 hz10 hbl10 hk10 hzs10 m9 n9 hlt9 HO9 HG9 HA9 HRO8 HTO8 HGM8 HCR8 HBL8 c8 f8 HGB8;generalize hW10:w9.setCell ⟨gb,1,none⟩ (.slice (some ⟨g9,0,none⟩) (Of.length+1) cap9)=W10 at*;generalize hO10:(fun k=>if k=g9 then 3 else O8 k)=O10 at*;clear hW10 hO10;obtain⟨old,hold⟩:=HCR10.out.a b hb256;have fz:=HCR10.out.fz b;have hO510:=HCR10.out.wt.1;have HCN:Hid (CR (W10.setCell ⟨rb,b,none⟩ (.int .i64 (Ls.length:Int))) O10 w.heap.size rb (C6 To p b (Ls.length:Int) p) (b+1)):=HCR10.out.put hb256 (kG _ _ _ _) (fun j hj=>fT (fun e=>by omega));have HGN:=aA (HGM10.out.set hO510 b (.int .i64 (Ls.length:Int)));have HBN:Hid (Below w.heap.size w (W10.setCell ⟨rb,b,none⟩ (.int .i64 (Ls.length:Int)))):=HBL10.out.setCell (p:=⟨rb,b,none⟩) hrB _;have HNW:=HNEW.out;rw[HRR.out]at HNW;have HNW2:=aA HNW;clear HNW;go_wp2;go_roundw
        case rel=>exact⟨b+1,_,_,C6 To p b (Ls.length:Int),O10,_,_,vT,_,_,cT,by go_num,by omega,by rw[List.length_append,List.length_singleton];omega,HNW2.out,HGN.out,HCN.out,HRW.out.upd _,HBN.out⟩
        case measure=>simp[intOf];omega
       ·have HTI:=aA (HGI.out.found hemp hi0 hl' heq);generalize (dE (nvN L) b l).length=ns at*;clear hemp HSB HST HAT HLF5 hl' heq HLB;go_wp2;go_roundw
        case rel=>exact⟨b+1,Ls,Of,C6 To p b (i:Int),O,vL,vO,vT,cL,cO,cT,by go_num,by omega,hpl,HGI.out.old hb256 HL.out HTI.out,HGN.out _,HCN.out _,HRW.out.upd _,HBN.out _⟩
        case measure=>simp[intOf];omega
    ·have eb:b=256:=by omega
     subst eb;have hd2:decide ((256:Int)<(256:Int))=false:=by decide
     obtain⟨hgd,hed⟩:=hgm.done hcr;have HGD:=aA hgd;have HED:=aA hed;have c2:=hgm.c2;have f2:=hgm.fz 2;obtain⟨aT,qT,eT⟩:=aK hgm.rT.1;subst eT;have HRO:=aA hgm.rT.1;have HTT:=aA hgm.tT;have HGB:=aA hgm.wt.1;have hrl:rows.length<=2000:=by have:=hrw.1;omega
     clear hgi hgm hcr hrw hbl hgd hed HGM HCR;go_upto_region 5 with(first | (at_builtin;refine aF wr rfl (.tmp 112) (.tmp 114) 66 rfl w.heap.size 59 (.slice none 0 0) 1 24 Tryz.underlying66 Tryz.infoIntsR rfl (by decide) (by decide) (.slice aT rows.length qT) rows.length cT.flatten [.slice (some ⟨rb,0,none⟩) 256 256] _ rfl HRO.out _ rfl rfl rfl (by simp[a9]) (by omega) (by omega) ?_;intro g9 cap9 w9 hown9 hgrow9 hat9 hlt9;have m9:=((bG hgrow9 (k:=gb) hgb (fun e=>by have:=HTT.out gb e.symm;have:=HGB.out;omega)).1 2).trans c2;have n9:=((bG hgrow9 (k:=gb) hgb (fun e=>by have:=HTT.out gb e.symm;have:=HGB.out;omega)).2 2).trans f2;have HO9:=aA hown9;have HG9:=aA hgrow9;have HA9:=aA hat9;clear hown9 hgrow9 hat9))
     obtain⟨hgm10,_,_,hbl10⟩:=HGD.out.pushT rfl HED.out rfl HO9.out HG9.out HA9.out;have HGM10:=aA hgm10;have HBL10:=aA (hbl10 w HBL.out);have HNX:=aA HGI.out.next;have HRN:=aA HRW.out.snoc;clear hgm10 hbl10 m9 n9 hlt9 HO9 HG9 HA9 HRO HTT HGD HED c2 f2 HGB;generalize w9.setCell ⟨gb,2,none⟩ (.slice (some ⟨g9,0,none⟩) (rows.length+1) cap9)=W10 at*;go_wp2;go_roundw
     case rel=>exact⟨p+1,Ls,Of,To,_,vL,vO,_,_,cL,cO,_,by go_num,by omega,HNX.out,HGM10.out,HRN.out,HBL10.out⟩
     case measure=>simp[intOf];omega
  ·have hpn:p=nL:=by omega
   have hd1:decide ((p:Int)<(nL:Int))=false:=by simp;omega
   have HGF:Hid (GI (nvN L) tops l0 Ls Of To Ls.length 0):=by
    unfold Hid;rw[HNL.out,←hpn];exact HGI.out
   have HRF:Hid (nF rows To Ls.length):=by
    unfold Hid;rw[HNL.out,←hpn];exact HRW.out
   clear hpn;go_wp2;go_ret;exact⟨gb,Ls,Of,To,rfl,HBL.out,HGF.out,O,vL,vO,vT,rows,cL,cO,cT,HGM.out,HRF.out⟩
end Go.Proofs.YtgjgjgihceijnaaGreat
