/- Texts put together: RsOne, RsClasses. -/
import Derived.Test.YtgjgjgihceijnaaG41
import Derived.Test.YtgjgjgihceijnaaG24
namespace Go.Proofs.Ytgjgjgihceijnaa
open Go.RowKit Go.Stn
def TbV (w:World)(v1 v2:Value)(n:Nat)(of:Nat→Int)(tr:Nat→Nat→Int):Prop:=
 ∃(g1 c1 g2 c2:Nat) (rw:Nat→Nat),v1= .slice (some ⟨g1,0,none⟩) n c1∧v2= .slice (some ⟨g2,0,none⟩) n c2∧(g1<w.heap.size∧g2<w.heap.size∧∀s,s<n→rw s<w.heap.size)∧(∀s,s<n→w.cell? ⟨g1,s,none⟩=some (.int .i64 (of s)))∧(∀s,s<n→w.cell? ⟨g2,s,none⟩=some (.slice (some ⟨rw s,0,none⟩) 256 256))∧∀s b,s<n→b<256→w.cell? ⟨rw s,b,none⟩=some (.int .i64 (tr s b))
theorem TbV.below {w w':World}{v1 v2:Value}{n B:Nat}{of:Nat→Int}{tr:Nat→Nat→Int}(h:TbV w v1 v2 n of tr)(hB:Below B w w')(hb:w.heap.size≤B):TbV w' v1 v2 n of tr:=by
 obtain⟨g1,c1,g2,c2,rw,e1,e2,⟨h1,h2,h3⟩,h4,h5,h6⟩:=h
 have hz:=hB.size
 exact⟨g1,c1,g2,c2,rw,e1,e2,⟨by omega,by omega,fun s hs=>by have:=h3 s hs;omega⟩,fun s hs=>(hB.cell (p:=⟨g1,s,none⟩) (by show g1<B;omega)).trans (h4 s hs),fun s hs=>(hB.cell (p:=⟨g2,s,none⟩) (by show g2<B;omega)).trans (h5 s hs),fun s b hs hb2=>(hB.cell (p:=⟨rw s,b,none⟩) (by have:=h3 s hs;show rw s<B;omega)).trans (h6 s b hs hb2)⟩
structure TsV (w:World)(g m:Nat)(ns:Nat→Nat)(of:Nat→Nat→Int)(tr:Nat→Nat→Nat→Int):Prop where
 t:∀c,c<m→∃v1 v2,w.cell? ⟨g,c*2,none⟩=some v1∧w.cell? ⟨g,c*2+1,none⟩=some v2∧TbV w v1 v2 (ns c) (of c) (tr c)
 b:g<w.heap.size
theorem TsV.below {w w':World}{g m B:Nat}{ns:Nat→Nat}{of:Nat→Nat→Int}{tr:Nat→Nat→Nat→Int}(h:TsV w g m ns of tr)(hB:Below B w w')(hb:w.heap.size≤B):TsV w' g m ns of tr:=by
 have hz:=hB.size
 have h0:=h.b
 refine⟨fun c hc=> ?_,by omega⟩
 obtain⟨v1,v2,k1,k2,k3⟩:=h.t c hc
 exact⟨v1,v2,(hB.cell (p:=⟨g,c*2,none⟩) (by show g<B;omega)).trans k1,(hB.cell (p:=⟨g,c*2+1,none⟩) (by show g<B;omega)).trans k2,k3.below hB hb⟩
set_option maxRecDepth 100000 in
set_option maxHeartbeats 4000000 in
theorem rone_any {w:World}{g m cap:Nat}{ns:Nat→Nat}{of:Nat→Nat→Int}{tr:Nat→Nat→Nat→Int}(h:TsV w g m ns of tr)(hm:m≤100)(hns:∀c,c<m→ns c≤2000){a b:Nat}(ha:a<256)(hb:b<256):
  Calls Try.prog 112 #[.slice (some ⟨g,0,none⟩) m cap,.int .i64 (a:Int),.int .i64 (b:Int)] w fun e w'=>e= .returned (.bool (samB ns tr m a b))∧Below w.heap.size w w':=by
 have HT:=hidZ h
 have HNS:=hidZ hns
 have haI:(0:Int)≤(a:Int)∧(a:Int)<(256:Int):=by omega
 have hbI:(0:Int)≤(b:Int)∧(b:Int)<(256:Int):=by omega
 clear h hns
 go_enter Try.func112,Try.ntmps112
 go_wp2_with fail
 go_loopw [7] (fun z wr=>∃(c q:Nat),c≤m∧z= .int .i64 (c:Int)∧wr=w.drewN q∧Hid (∀c',c'<c→∀s,s<ns c'→tr c' s a=tr c' s b)) (fun z _=>m - (intOf z).toNat)
 case atStart=>exact⟨0,0,by omega,rfl,rfl,hidZ (fun c' hc=>by omega)⟩
 case round=>
  obtain⟨c,q,hc,rfl,rfl,HA⟩:=hrel
  by_cases hlt:c<m
  ·have hcI:(0:Int)≤(c:Int)∧(c:Int)<(m:Int):=by omega
   obtain⟨v1,v2,k1,k2,g1,c1,g2,c2,rw,e1,e2,_,_,k5,k6⟩:=HT.out.t c hlt
   subst e1 e2
   have hn:=HNS.out c hlt
   have HK5:=hidZ k5
   have HK6:=hidZ k6
   obtain⟨nc,enc⟩:∃nc,ns c=nc:=⟨_,rfl⟩
   rw[enc]at k2 hn
   have HNC:=hidZ enc
   clear k1 k5 k6 enc
   go_wp2_with fail
   go_loopw [8] (fun z wr=>∃(s q:Nat),s≤nc∧z= .int .i64 (s:Int)∧wr=w.drewN q∧Hid (∀s',s'<s→tr c s' a=tr c s' b)) (fun z _=>nc - (intOf z).toNat)
   case atStart=>exact⟨0,q,by omega,rfl,rfl,hidZ (fun c' hc=>by omega)⟩
   case round=>
    obtain⟨s,q2,hs,rfl,rfl,HA2⟩:=hrel
    by_cases hsl:s<nc
    ·have hsI:(0:Int)≤(s:Int)∧(s:Int)<(nc:Int):=by omega
     have y0:=HK5.out s (by rw[HNC.out];exact hsl)
     have ya:=HK6.out s a (by rw[HNC.out];exact hsl) ha
     have yb:=HK6.out s b (by rw[HNC.out];exact hsl) hb
     by_cases hq:tr c s a=tr c s b
     ·have HA3:Hid (∀s',s'<s+1→tr c s' a=tr c s' b):=fun s' hs'=>by
       by_cases e:s'=s
       ·rw[e];exact hq
       ·exact HA2.out s' (by omega)
      rw[hq]at ya
      generalize tr c s b=tv at*
      have dv:(tv !=tv)=false:=by simp
      clear hq
      go_upto_region 7 with fail
      go_big_region
      all_goals
       go_wp2
       go_roundw
       case rel=>exact⟨s+1,q2+1,by omega,by go_num,rfl,HA3⟩
       case measure=>simp[intOf];omega
     ·have HR:Hid (samB ns tr m a b=false):=by
       unfold Hid
       cases hv:samB ns tr m a b with
       | false=>rfl
       | true=>exact absurd (samB_iff.1 hv c hlt s (by rw[HNC.out];exact hsl)) hq
      have dv:(tr c s a !=tr c s b)=true:=by rw[bne_iff_ne];exact hq
      clear hq
      generalize tr c s a=tva at*
      generalize tr c s b=tvb at*
      go_upto_region 7 with fail
      go_big_region
      all_goals
       go_wp2
       go_ret
       exact⟨by rw[HR.out];rfl,rfl,rfl,rfl,Nat.le_refl _,fun _ _=>rfl⟩
    ·have ds:decide ((s:Int)<(nc:Int))=false:=by simp;omega
     have HA3:Hid (∀c',c'<c+1→∀s,s<ns c'→tr c' s a=tr c' s b):=fun c' hc' s' hs'=>by
      by_cases e:c'=c
      ·subst e;rw[HNC.out]at hs';exact HA2.out s' (by omega)
      ·exact HA.out c' (by omega) s' hs'
     go_wp2
     go_roundw
     case rel=>exact⟨c+1,q2,by omega,by go_num,rfl,HA3⟩
     case measure=>simp[intOf];omega
  ·have dc:decide ((c:Int)<(m:Int))=false:=by simp;omega
   have HR:Hid (samB ns tr m a b=true):=samB_yes (fun c' hc' s hs=>HA.out c' (by omega) s hs)
   go_wp2
   go_ret
   exact⟨by rw[HR.out];rfl,rfl,rfl,rfl,Nat.le_refl _,fun _ _=>rfl⟩
end Go.Proofs.Ytgjgjgihceijnaa

namespace Go.Proofs.Ytgjgjgihceijnaa
open Go.RowKit Go.Stn
def bytesV (ns:List Nat):List Value:=ns.map (fun(m:Nat)=>Value.int .u8 (m:Int))
structure C2 (w wr:World)(x y:Value)(fin firsts:List Nat):Prop where
 o1:wr.ownsRow w.heap.size 5 1 x fin.length (bytesV fin)
 o2:wr.ownsRow w.heap.size 3 1 y firsts.length (intsV firsts)
 di:∀k,x.ownBlock=some k→y.ownBlock≠some k
 bl:Below w.heap.size w wr
theorem C2.start (w:World):C2 w w (.slice none 0 0) (.slice none 0 0) [] []:=⟨World.ownsRow_nil _ _ _ 1,World.ownsRow_nil _ _ _ 1,fun k e=>(by cases e),Below.refl _ _⟩
theorem C2.below {w wr w':World}{x y:Value}{fin firsts:List Nat}(h:C2 w wr x y fin firsts)(hB:Below wr.heap.size wr w'):C2 w w' x y fin firsts:=
 ⟨row_top h.o1 (fun k hk=>hB.block k (h.o1.lt k hk).2),row_top h.o2 (fun k hk=>hB.block k (h.o2.lt k hk).2),h.di,bel_join h.bl hB⟩
theorem C2.app1 {w wr w4:World}{x y:Value}{fin firsts:List Nat}(h:C2 w wr x y fin firsts){o:Obj}{g cap n v:Nat}(hn:fin.length=n)(hown:w4.ownsRow w.heap.size 5 1 (.slice (some ⟨g,0,none⟩) (n+1) cap) (n+1) (bytesV fin++ [.int .u8 (v:Int)]))(hgr:(wr.alloc o).grownBy w4 x.ownBlock)(hat:x.ownBlock=some g∨g=wr.heap.size+1):C2 w w4 (.slice (some ⟨g,0,none⟩) (n+1) cap) y (fin++ [v]) firsts:=by
 subst hn
 have hz:=h.bl.size
 have hsz:=hgr.size
 have ez:(wr.alloc o).heap.size=wr.heap.size+1:=by simp
 have hk:∀k,k<wr.heap.size→x.ownBlock≠some k→w4.heap[k]? =wr.heap[k]? :=fun k hk hne=>(hgr.block k (by omega) (fun e=>hne e.symm)).trans (Below.heap_alloc wr o k hk)
 refine⟨by unfold bytesV at*;rw[List.length_append,List.length_singleton,List.map_append];exact hown,row_top h.o2 (fun k hk2=>hk k (h.o2.lt k hk2).2 (fun e=>h.di k e hk2)),fun k e=> ?_,below_app h.bl h.o1 hgr⟩
 have e:g=k:=by simpa[Value.ownBlock]using e
 subst e
 rcases hat with e1 | e1
 ·exact h.di g e1
 ·intro e2
  have:=(h.o2.lt g e2).2
  omega
theorem C2.app2 {w wr w4:World}{x y:Value}{fin firsts:List Nat}(h:C2 w wr x y fin firsts){o:Obj}{g cap n v:Nat}(hn:firsts.length=n)(hown:w4.ownsRow w.heap.size 3 1 (.slice (some ⟨g,0,none⟩) (n+1) cap) (n+1) (intsV firsts++ [.int .i64 (v:Int)]))(hgr:(wr.alloc o).grownBy w4 y.ownBlock)(hat:y.ownBlock=some g∨g=wr.heap.size+1):C2 w w4 x (.slice (some ⟨g,0,none⟩) (n+1) cap) fin (firsts++ [v]):=by
 subst hn
 have hz:=h.bl.size
 have hsz:=hgr.size
 have ez:(wr.alloc o).heap.size=wr.heap.size+1:=by simp
 have hk:∀k,k<wr.heap.size→y.ownBlock≠some k→w4.heap[k]? =wr.heap[k]? :=fun k hk hne=>(hgr.block k (by omega) (fun e=>hne e.symm)).trans (Below.heap_alloc wr o k hk)
 refine⟨row_top h.o1 (fun k hk2=>hk k (h.o1.lt k hk2).2 (fun e=>h.di k hk2 e)),by unfold intsV at*;rw[List.length_append,List.length_singleton,List.map_append];exact hown,fun k e e2=> ?_,below_app h.bl h.o2 hgr⟩
 have e2:g=k:=by simpa[Value.ownBlock]using e2
 subst e2
 rcases hat with e1 | e1
 ·exact h.di g e e1
 ·have:=(h.o1.lt g e).2
  omega
set_option maxRecDepth 100000 in
set_option maxHeartbeats 4000000 in
theorem rclasses_any {w:World}{g m cap:Nat}{ns:Nat→Nat}{of:Nat→Nat→Int}{tr:Nat→Nat→Nat→Int}(h:TsV w g m ns of tr)(hm:m≤100)(hns:∀c,c<m→ns c≤2000):
  Calls Try.prog 84 #[.slice (some ⟨g,0,none⟩) m cap] w fun e w'=>∃x y,e= .returned (.tuple #[x,y])∧C2 w w' x y (clsP 256 (samB ns tr m)).1 (clsP 256 (samB ns tr m)).2:=by
 have HONE:=hidZ (fun(W:World) (hB:Below w.heap.size w W) (a b:Nat) (ha:a<256) (hb:b<256)=>rone_any (cap:=cap) (h.below hB (Nat.le_refl _)) hm hns ha hb)
 clear h hns
 generalize samB ns tr m=Q at*
 obtain⟨FC,EFC⟩:∃F,clsP 256 Q=F:=⟨_,rfl⟩
 rw[EFC]
 have HFC:=hidZ EFC
 clear EFC
 go_enter Try.func84,Try.ntmps84
 go_wp2_with fail
 go_loopg [4,5,6] 256 (fun gj x y z wr=>∃(b:Nat) (fin firsts:List Nat),b+gj=256∧z= .int .i64 (b:Int)∧fin.length=b∧firsts.length≤b∧(∀f,f∈firsts→f<256)∧FC=clsL Q gj b fin firsts∧C2 w wr x y fin firsts)
 case atStart=>exact⟨0,[],[],by omega,rfl,rfl,by simp,fun f hf=>absurd hf List.not_mem_nil,HFC.out.symm,C2.start w⟩
 case round=>
  obtain⟨b,fin,firsts,hbj,rfl,hfin,hfl,hft,hQ,hc2⟩:=hrel
  have HC:=hidZ hc2
  have HQ:=hidZ hQ
  have HFT:=hidZ hft
  have HFIN:=hidZ hfin
  have hzr:=hc2.bl.size
  obtain⟨ax,cx,ex⟩:=rowSlice hc2.o1
  obtain⟨ay,cy,ey⟩:=rowSlice hc2.o2
  subst ex ey
  rw[hfin]at HC ⊢
  obtain⟨nf,enf⟩:∃nf,firsts.length=nf:=⟨_,rfl⟩
  rw[enf]at HC hfl ⊢
  have HNF:=hidZ enf
  clear hc2 hQ hft hfin enf
  by_cases hlt:b<256
  ·obtain⟨d,rfl⟩:∃d,gk=d+1:=⟨gk - 1,by omega⟩
   have hd1:decide ((b:Int)<(256:Int))=true:=by simp;omega
   go_upto_block 2 with fail
   go_cut [7] from 9 to 39 (fun fv wc=>fv= .int .i64 ((firstP Q firsts b firsts.length:Nat):Int)∧Below wr.heap.size wr wc)
   case first=>
    go_wp2_with fail
    go_loopg [7] nf (fun gj fv wj=>∃(f:Nat),fv= .int .i64 (f:Int)∧f+gj=nf∧Below wr.heap.size wr wj∧Hid (firstP Q firsts b firsts.length=firstP Q firsts b gj))
    case atStart=>exact⟨0,rfl,by omega,Below.refl _ _,by unfold Hid;rw[HNF.out]⟩
    case round=>
     obtain⟨f,rfl,hfj,hbj2,HFP⟩:=hrel
     have HBJ:=hidZ hbj2
     have hzj:=hbj2.size
     by_cases hff:f<nf
     ·obtain⟨j,rfl⟩:∃j,gk=j+1:=⟨gk - 1,by omega⟩
      have hx:=List.getElem?_eq_getElem (l:=firsts) (i:=f) (by rw[HNF.out];exact hff)
      obtain⟨x,ex⟩:∃x,firsts[f]'(by rw[HNF.out];exact hff)=x:=⟨_,rfl⟩
      rw[ex]at hx
      have hx256:=HFT.out x (List.mem_of_getElem? hx)
      obtain⟨g2,cap2,eg⟩:∃g2 cap2,Value.slice ay nf cy= .slice (some ⟨g2,0,none⟩) nf cap2:=by
       rcases ownsRow_shape HC.out.o2 with e | ⟨g2,cap2,e⟩
       ·injection e with _ e3 _;omega
       ·rw[HNF.out]at e;exact⟨g2,cap2,e⟩
      injection eg with ea _ ec
      subst ea ec
      have hg2:=(HC.out.o2.lt g2 rfl).2
      have y0:wr.cell? ⟨g2,f,none⟩=some (.int .i64 (x:Int)):=by
       have:=HC.out.o2.cells (g:=g2) rfl f _ (intsV_get hx)
       rw[add_at,Nat.zero_add]at this
       exact(hbj2.cell (p:=⟨g2,f,none⟩) hg2).trans this
      have hst:= @firstP_step Q firsts b f j (by rw[HNF.out];exact hfj)
      have hgd:firsts.getD f 0=x:=by rw[List.getD_eq_getElem?_getD,hx];rfl
      rw[hgd]at hst
      have HST:=hidZ hst
      have hfI:(0:Int)≤(f:Int)∧(f:Int)<(nf:Int):=by omega
      have hd2:decide ((f:Int)<(nf:Int))=true:=by simp;omega
      have HBW:=hidZ (bel_join HC.out.bl hbj2)
      clear hst hgd hx ex hbj2
      go_wp2_with fail
      refine(HONE.out _ HBW.out x b hx256 hlt).mono ?_
      rintro e w3 ⟨rfl,hb3⟩
      have HB3:=hidZ (bel_join HBJ.out hb3)
      clear hb3
      cases hq:Q x b with
      | true=>
       have HE:Hid (firstP Q firsts b firsts.length=f):=HFP.out.trans (by rw[HST.out,if_pos hq])
       clear hq
       go_wp2
       go_meet
       case rel=>exact⟨by rw[HE.out],HB3.out⟩
      | false=>
       have HE:Hid (firstP Q firsts b firsts.length=firstP Q firsts b j):=HFP.out.trans (by rw[HST.out,if_neg (by rw[hq];decide)])
       clear hq
       go_wp2
       go_roundg j
       case measure=>omega
       case rel=>exact⟨f+1,by go_num,by omega,HB3.out,HE⟩
     ·have e:gk=0:=by omega
      subst e
      have hd2:decide ((f:Int)<(nf:Int))=false:=by simp;omega
      have HE:Hid (firstP Q firsts b firsts.length=f):=HFP.out.trans (by rw[firstP,HNF.out];omega)
      go_wp2
      go_meet
      case rel=>exact⟨by rw[HE.out],HBJ.out⟩
   case rest=>
    obtain⟨rfl,hb3⟩:=hcut
    have HC3:=hidZ (HC.out.below hb3)
    have hzc:w.heap.size≤wc.heap.size:=HC3.out.bl.size
    have hst:clsL Q (d+1) b fin firsts=if firstP Q firsts b firsts.length=firsts.length then clsL Q d (b+1) (fin++ [firsts.length]) (firsts++ [b])else clsL Q d (b+1) (fin++ [firstP Q firsts b firsts.length]) firsts:=rfl
    have hfle:=firstP_le Q firsts b firsts.length
    rw[HNF.out]at hst hfle
    have HO1:=hidZ HC3.out.o1
    have HO2:=hidZ HC3.out.o2
    rw[HFIN.out]at HO1
    rw[HNF.out]at HO2 ⊢
    clear HC hb3
    generalize firstP Q firsts b nf=fp at*
    have hfp:fp≤255:=by omega
    by_cases hfe:fp=nf
    ·rw[if_pos hfe]at hst
     have hd2:((fp:Int)==(nf:Int))=true:=by rw[hfe];simp
     have HE:Hid (FC=clsL Q d (b+1) (fin++ [fp]) (firsts++ [b])):=by unfold Hid;rw[hfe];exact HQ.out.trans hst
     have HFN:=hidZ hfe
     clear hst hfe HQ
     go_upto_region 13 with(first | (at_builtin;refine wpList_app1 wc rfl (.tmp 31) (.tmp 33) 30 rfl w.heap.size 3 (.int .i64 0) 1 8 Try.underlying30 Try.infoIntR rfl (by decide) (by decide) (.slice ay nf cy) nf (intsV firsts) [.int .i64 (b:Int)] _ rfl HO2.out _ rfl rfl rfl (by simp[Value.oneCell']) (by omega) (by omega) ?_;intro g4 cap4 w4 hown4 hgrow4 hat4 hlt4;have HC4:=hidZ (HC3.out.app2 HNF.out hown4 hgrow4 hat4);clear hown4 hgrow4 hat4 hlt4))
     have HO4:=hidZ HC4.out.o1
     rw[HFIN.out]at HO4
     have hz4:=HC4.out.bl.size
     go_wp2_with (first | (at_builtin;refine wpList_app1 w4 rfl (.tmp 35) (.tmp 38) 78 rfl w.heap.size 5 (.int .u8 0) 1 1 Try.underlying78 Try.infoByte rfl (by decide) (by decide) (.slice ax b cx) b (bytesV fin) [.int .u8 (fp:Int)] _ rfl HO4.out _ rfl rfl rfl (by simp[Value.oneCell']) (by omega) (by omega) ?_;intro g6 cap6 w6 hown6 hgrow6 hat6 hlt6;have HC6:=hidZ (HC4.out.app1 HFIN.out hown6 hgrow6 hat6);clear hown6 hgrow6 hat6 hlt6))
     go_roundg d
     case measure=>omega
     case rel=>exact⟨b+1,fin++ [fp],firsts++ [b],by omega,by go_num,by rw[List.length_append,HFIN.out];rfl,by rw[List.length_append,HNF.out,List.length_singleton];omega,fun f hf=>by
      rcases List.mem_append.1 hf with e | e
      ·exact HFT.out f e
      ·rw[List.mem_singleton.1 e];exact hlt,HE.out,HC6.out⟩
    ·rw[if_neg hfe]at hst
     have hd2:((fp:Int)==(nf:Int))=false:=by rw[beq_eq_false_iff_ne];omega
     have HE:Hid (FC=clsL Q d (b+1) (fin++ [fp]) firsts):=HQ.out.trans hst
     clear hst hfe HQ
     go_wp2_with (first | (at_builtin;refine wpList_app1 wc rfl (.tmp 35) (.tmp 38) 78 rfl w.heap.size 5 (.int .u8 0) 1 1 Try.underlying78 Try.infoByte rfl (by decide) (by decide) (.slice ax b cx) b (bytesV fin) [.int .u8 (fp:Int)] _ rfl HO1.out _ rfl rfl rfl (by simp[Value.oneCell']) (by omega) (by omega) ?_;intro g6 cap6 w6 hown6 hgrow6 hat6 hlt6;have HC6:=hidZ (HC3.out.app1 HFIN.out hown6 hgrow6 hat6);clear hown6 hgrow6 hat6 hlt6))
     go_roundg d
     case measure=>omega
     case rel=>exact⟨b+1,fin++ [fp],firsts,by omega,by go_num,by rw[List.length_append,HFIN.out];rfl,by rw[HNF.out];omega,HFT.out,HE.out,HC6.out⟩
  ·have eb:b=256:=by omega
   have e:gk=0:=by omega
   subst e
   have hd1:decide ((b:Int)<(256:Int))=false:=by simp;omega
   have HE:Hid (FC=(fin,firsts)):=HQ.out
   go_wp2
   go_ret2
   exact⟨_,_,rfl,by rw[HE.out];exact HC.out⟩
end Go.Proofs.Ytgjgjgihceijnaa

