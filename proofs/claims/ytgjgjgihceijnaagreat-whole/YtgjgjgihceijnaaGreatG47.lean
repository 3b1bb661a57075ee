import Derived.Test.YtgjgjgihceijnaaGreatG46
open List renaming length_append->aL,length_singleton->aO,map_append->a9
open Go.Value renaming oneCell'->aR,ownBlock->bK
open Go.World renaming ownsRow_nil->aT
open Go.RowKit.Below renaming heap_alloc->bC,refl->bM
set_option maxRecDepth 100000
set_option maxHeartbeats 8000000
namespace Go.Proofs.YtgjgjgihceijnaaGreat
open Go.RowKit Go.Stn
def zA (ns:List Nat):List Value:=ns.map (fun(m:Nat)=>Value.int .u8 (m:Int))
structure C2 (w wr:World)(x y:Value)(fin firsts:List Nat):Prop where
 o1:wr.ownsRow w.heap.size 5 1 x fin.length (zA fin)
 o2:wr.ownsRow w.heap.size 3 1 y firsts.length (dP firsts)
 di:∀k,x.ownBlock=some k->y.ownBlock≠some k
 bl:Below w.heap.size w wr
theorem C2.start (w:World):C2 w w (.slice none 0 0) (.slice none 0 0) [] []:=⟨aT _ _ _ 1,aT _ _ _ 1,fun k e=>(by cases e),bM _ _⟩
theorem C2.below {w wr w':World}{x y:Value}{fin firsts:List Nat}(h:C2 w wr x y fin firsts)(hB:Below wr.heap.size wr w'):C2 w w' x y fin firsts:=
 ⟨cV h.o1 (fun k hk=>hB.block k (h.o1.lt k hk).2),cV h.o2 (fun k hk=>hB.block k (h.o2.lt k hk).2),h.di,dO h.bl hB⟩
theorem C2.app1 {w wr w4:World}{x y:Value}{fin firsts:List Nat}(h:C2 w wr x y fin firsts){o:Obj}{g cap n v:Nat}(hn:fin.length=n)(hown:w4.ownsRow w.heap.size 5 1 (.slice (some ⟨g,0,none⟩) (n+1) cap) (n+1) (zA fin++ [.int .u8 (v:Int)]))(hgr:(wr.alloc o).grownBy w4 x.ownBlock)(hat:x.ownBlock=some g\/g=wr.heap.size+1):C2 w w4 (.slice (some ⟨g,0,none⟩) (n+1) cap) y (fin++ [v]) firsts:=by
 subst hn;have hz:=h.bl.size;have hsz:=hgr.size;have ez:(wr.alloc o).heap.size=wr.heap.size+1:=by simp
 have hk:∀k,k<wr.heap.size->x.ownBlock≠some k->w4.heap[k]? =wr.heap[k]? :=fun k hk hne=>(hgr.block k (by omega) (fun e=>hne e.symm)).trans (bC wr o k hk)
 refine⟨by unfold zA at*;rw[aL,aO,a9];exact hown,cV h.o2 (fun k hk2=>hk k (h.o2.lt k hk2).2 (fun e=>h.di k e hk2)),fun k e=> ?_,iA h.bl h.o1 hgr⟩;have e:g=k:=by simpa[bK]using e
 subst e;rcases hat with e1 | e1
 ·exact h.di g e1
 ·intro e2;have:=(h.o2.lt g e2).2;omega
theorem C2.app2 {w wr w4:World}{x y:Value}{fin firsts:List Nat}(h:C2 w wr x y fin firsts){o:Obj}{g cap n v:Nat}(hn:firsts.length=n)(hown:w4.ownsRow w.heap.size 3 1 (.slice (some ⟨g,0,none⟩) (n+1) cap) (n+1) (dP firsts++ [.int .i64 (v:Int)]))(hgr:(wr.alloc o).grownBy w4 y.ownBlock)(hat:y.ownBlock=some g\/g=wr.heap.size+1):C2 w w4 x (.slice (some ⟨g,0,none⟩) (n+1) cap) fin (firsts++ [v]):=by
 subst hn;have hz:=h.bl.size;have hsz:=hgr.size;have ez:(wr.alloc o).heap.size=wr.heap.size+1:=by simp
 have hk:∀k,k<wr.heap.size->y.ownBlock≠some k->w4.heap[k]? =wr.heap[k]? :=fun k hk hne=>(hgr.block k (by omega) (fun e=>hne e.symm)).trans (bC wr o k hk)
 refine⟨cV h.o1 (fun k hk2=>hk k (h.o1.lt k hk2).2 (fun e=>h.di k hk2 e)),by unfold dP at*;rw[aL,aO,a9];exact hown,fun k e e2=> ?_,iA h.bl h.o2 hgr⟩;have e2:g=k:=by simpa[bK]using e2
 subst e2;rcases hat with e1 | e1
 ·exact h.di g e e1
 ·have:=(h.o1.lt g e).2;omega
theorem Y3 {w:World}{g m cap:Nat}{ns:Nat->Nat}{of:Nat->Nat->Int}{tr:Nat->Nat->Nat->Int}(h:TsV w g m ns of tr)(hm:m<=100)(hns:∀c,c<m->ns c<=2000):
  Calls Tryz.prog 50 #[.slice (some ⟨g,0,none⟩) m cap] w fun e w'=>∃x y,e= .returned (.tuple #[x,y])/\C2 w w' x y (gB 256 (fQ ns tr m)).1 (gB 256 (fQ ns tr m)).2:=by
 have HONE:=aA (fun(W:World) (hB:Below w.heap.size w W) (a b:Nat) (ha:a<256) (hb:b<256)=>Ru (cap:=cap) (h.below hB (Nat.le_refl _)) hm hns ha hb);clear h hns;generalize fQ ns tr m=Q at*;obtain⟨FC,EFC⟩:∃F,gB 256 Q=F:=⟨_,rfl⟩
 rw[EFC];have HFC:=aA EFC;clear EFC;go_enter Tryz.func50,Tryz.ntmps50;go_wp2_with fail
 go_loopg [4,5,6] 256 (fun gj x y z wr=>∃(b:Nat) (fin firsts:List Nat),b+gj=256/\z= .int .i64 (b:Int)/\fin.length=b/\firsts.length<=b/\(∀f,f∈firsts->f<256)/\FC=oK Q gj b fin firsts/\C2 w wr x y fin firsts)
 case atStart=>exact⟨0,[],[],by omega,rfl,rfl,by simp,fun f hf=>absurd hf List.not_mem_nil,HFC.out.symm,C2.start w⟩
 case round=>
  obtain⟨b,fin,firsts,hbj,rfl,hfin,hfl,hft,hQ,hc2⟩:=hrel;have HC:=aA hc2;have HQ:=aA hQ;have HFT:=aA hft;have HFIN:=aA hfin;have hzr:=hc2.bl.size;obtain⟨ax,cx,ex⟩:=aK hc2.o1;obtain⟨ay,cy,ey⟩:=aK hc2.o2;subst ex ey;rw[hfin]at HC ⊢;obtain⟨nf,enf⟩:∃nf,firsts.length=nf:=⟨_,rfl⟩
  rw[enf]at HC hfl ⊢;have HNF:=aA enf;clear hc2 hQ hft hfin enf;by_cases hlt:b<256
  ·obtain⟨d,rfl⟩:∃d,gk=d+1:=⟨gk - 1,by omega⟩
   have hd1:decide ((b:Int)<(256:Int))=true:=by simp;omega
   go_upto_block 2 with fail
   go_cut [7] from 9 to 39 (fun fv wc=>fv= .int .i64 ((aX Q firsts b firsts.length:Nat):Int)/\Below wr.heap.size wr wc)
   case first=>
    go_wp2_with fail
    go_loopg [7] nf (fun gj fv wj=>∃(f:Nat),fv= .int .i64 (f:Int)/\f+gj=nf/\Below wr.heap.size wr wj/\Hid (aX Q firsts b firsts.length=aX Q firsts b gj))
    case atStart=>exact⟨0,rfl,by omega,bM _ _,by unfold Hid;rw[HNF.out]⟩
    case round=>
     obtain⟨f,rfl,hfj,hbj2,HFP⟩:=hrel;have HBJ:=aA hbj2;have hzj:=hbj2.size;by_cases hff:f<nf
     ·obtain⟨j,rfl⟩:∃j,gk=j+1:=⟨gk - 1,by omega⟩
      have hx:=List.getElem?_eq_getElem (l:=firsts) (i:=f) (by rw[HNF.out];exact hff);obtain⟨x,ex⟩:∃x,firsts[f]'(by rw[HNF.out];exact hff)=x:=⟨_,rfl⟩
      rw[ex]at hx;have hx256:=HFT.out x (List.mem_of_getElem? hx);obtain⟨g2,cap2,eg⟩:∃g2 cap2,Value.slice ay nf cy= .slice (some ⟨g2,0,none⟩) nf cap2:=by
       rcases bZ HC.out.o2 with e | ⟨g2,cap2,e⟩
       ·injection e with _ e3 _;omega
       ·rw[HNF.out]at e;exact⟨g2,cap2,e⟩
      injection eg with ea _ ec;subst ea ec;have hg2:=(HC.out.o2.lt g2 rfl).2;have y0:wr.cell? ⟨g2,f,none⟩=some (.int .i64 (x:Int)):=by
       have:=HC.out.o2.cells (g:=g2) rfl f _ (kI hx);rw[iL,Nat.zero_add]at this;exact(hbj2.cell (p:=⟨g2,f,none⟩) hg2).trans this
      have hst:= @sY Q firsts b f j (by rw[HNF.out];exact hfj);have hgd:firsts.getD f 0=x:=by rw[List.getD_eq_getElem?_getD,hx];rfl
      rw[hgd]at hst;have HST:=aA hst;have hfI:(0:Int)<=(f:Int)/\(f:Int)<(nf:Int):=by omega
      have hd2:decide ((f:Int)<(nf:Int))=true:=by simp;omega
      have HBW:=aA (dO HC.out.bl hbj2);clear hst hgd hx ex hbj2;go_wp2_with fail;refine(HONE.out _ HBW.out x b hx256 hlt).mono ?_;rintro e w3 ⟨rfl,hb3⟩;have HB3:=aA (dO HBJ.out hb3);clear hb3
      cases hq:Q x b with
      | true=>
       have HE:Hid (aX Q firsts b firsts.length=f):=HFP.out.trans (by rw[HST.out,if_pos hq]);clear hq;go_wp2;go_meet
       case rel=>exact⟨by rw[HE.out],HB3.out⟩
      | false=>
       have HE:Hid (aX Q firsts b firsts.length=aX Q firsts b j):=HFP.out.trans (by rw[HST.out,if_neg (by rw[hq];decide)]);clear hq;go_wp2;go_roundg j
       case measure=>omega
       case rel=>exact⟨f+1,by go_num,by omega,HB3.out,HE⟩
     ·have e:gk=0:=by omega
      subst e;have hd2:decide ((f:Int)<(nf:Int))=false:=by simp;omega
      have HE:Hid (aX Q firsts b firsts.length=f):=HFP.out.trans (by rw[aX,HNF.out];omega);go_wp2;go_meet
      case rel=>exact⟨by rw[HE.out],HBJ.out⟩
   case rest=>
    obtain⟨rfl,hb3⟩:=hcut;have HC3:=aA (HC.out.below hb3);have hzc:w.heap.size<=wc.heap.size:=HC3.out.bl.size;have hst:oK Q (d+1) b fin firsts=if aX Q firsts b firsts.length=firsts.length then oK Q d (b+1) (fin++ [firsts.length]) (firsts++ [b])else oK Q d (b+1) (fin++ [aX Q firsts b firsts.length]) firsts:=rfl;have hfle:=mS Q firsts b firsts.length;rw[HNF.out]at hst hfle;have HO1:=aA HC3.out.o1;have HO2:=aA HC3.out.o2;rw[HFIN.out]at HO1;rw[HNF.out]at HO2 ⊢;clear HC hb3;generalize aX Q firsts b nf=fp at*;have hfp:fp<=255:=by omega
    by_cases hfe:fp=nf
    ·rw[if_pos hfe]at hst;have hd2:((fp:Int)==(nf:Int))=true:=by rw[hfe];simp
     have HE:Hid (FC=oK Q d (b+1) (fin++ [fp]) (firsts++ [b])):=by unfold Hid;rw[hfe];exact HQ.out.trans hst
     have HFN:=aA hfe;clear hst hfe HQ;go_upto_region 13 with(first | (at_builtin;refine aF wc rfl (.tmp 31) (.tmp 33) 59 rfl w.heap.size 3 (.int .i64 0) 1 8 Tryz.underlying59 Tryz.infoIntR rfl (by decide) (by decide) (.slice ay nf cy) nf (dP firsts) [.int .i64 (b:Int)] _ rfl HO2.out _ rfl rfl rfl (by simp[aR]) (by omega) (by omega) ?_;intro g4 cap4 w4 hown4 hgrow4 hat4 hlt4;have HC4:=aA (HC3.out.app2 HNF.out hown4 hgrow4 hat4);clear hown4 hgrow4 hat4 hlt4))
     have HO4:=aA HC4.out.o1;rw[HFIN.out]at HO4;have hz4:=HC4.out.bl.size;go_wp2_with (first | (at_builtin;refine aF w4 rfl (.tmp 35) (.tmp 38) 116 rfl w.heap.size 5 (.int .u8 0) 1 1 Tryz.underlying116 Tryz.infoByte rfl (by decide) (by decide) (.slice ax b cx) b (zA fin) [.int .u8 (fp:Int)] _ rfl HO4.out _ rfl rfl rfl (by simp[aR]) (by omega) (by omega) ?_;intro g6 cap6 w6 hown6 hgrow6 hat6 hlt6;have HC6:=aA (HC4.out.app1 HFIN.out hown6 hgrow6 hat6);clear hown6 hgrow6 hat6 hlt6));go_roundg d
     case measure=>omega
     case rel=>exact⟨b+1,fin++ [fp],firsts++ [b],by omega,by go_num,by rw[aL,HFIN.out];rfl,by rw[aL,HNF.out,aO];omega,fun f hf=>by
      rcases List.mem_append.1 hf with e | e
      ·exact HFT.out f e
      ·rw[List.mem_singleton.1 e];exact hlt,HE.out,HC6.out⟩
    ·rw[if_neg hfe]at hst;have hd2:((fp:Int)==(nf:Int))=false:=by rw[beq_eq_false_iff_ne];omega
     have HE:Hid (FC=oK Q d (b+1) (fin++ [fp]) firsts):=HQ.out.trans hst;clear hst hfe HQ;go_wp2_with (first | (at_builtin;refine aF wc rfl (.tmp 35) (.tmp 38) 116 rfl w.heap.size 5 (.int .u8 0) 1 1 Tryz.underlying116 Tryz.infoByte rfl (by decide) (by decide) (.slice ax b cx) b (zA fin) [.int .u8 (fp:Int)] _ rfl HO1.out _ rfl rfl rfl (by simp[aR]) (by omega) (by omega) ?_;intro g6 cap6 w6 hown6 hgrow6 hat6 hlt6;have HC6:=aA (HC3.out.app1 HFIN.out hown6 hgrow6 hat6);clear hown6 hgrow6 hat6 hlt6));go_roundg d
     case measure=>omega
     case rel=>exact⟨b+1,fin++ [fp],firsts,by omega,by go_num,by rw[aL,HFIN.out];rfl,by rw[HNF.out];omega,HFT.out,HE.out,HC6.out⟩
  ·have eb:b=256:=by omega
   have e:gk=0:=by omega
   subst e;have hd1:decide ((b:Int)<(256:Int))=false:=by simp;omega
   have HE:Hid (FC=(fin,firsts)):=HQ.out;go_wp2;go_ret2;exact⟨_,_,rfl,by rw[HE.out];exact HC.out⟩
end Go.Proofs.YtgjgjgihceijnaaGreat
