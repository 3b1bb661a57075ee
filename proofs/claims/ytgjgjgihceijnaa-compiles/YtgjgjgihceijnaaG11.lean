/- Texts put together: StSpread, PlConds. -/
import Derived.Test.YtgjgjgihceijnaaG10
import Derived.Test.YtgjgjgihceijnaaG08
namespace Go.Proofs.Ytgjgjgihceijnaa
open Go.RowKit Go.Stn
def RowsAt (w:World)(wb:Nat)(vs vst:Value)(zb:Nat→Nat)(R:List (List Int)):Prop:=
 ∀i,i<R.length→wb<zb i∧zb i<w.heap.size∧vs.ownBlock≠some (zb i)∧vst.ownBlock≠some (zb i)∧w.rangeAt (zb i) 0 (intC (R.getD i []))
theorem RowsAt.step {w w':World}{wb:Nat}{vs vst vs' vst':Value}{zb:Nat→Nat}{R:List (List Int)}(h:RowsAt w wb vs vst zb R)(hf:FW w w' wb vs vst vs' vst'):RowsAt w' wb vs' vst' zb R:=fun i hi=>by
 obtain⟨h1,h2,h3,h4,h5⟩:=h i hi
 exact⟨h1,Nat.lt_of_lt_of_le h2 hf.size,fun e=>h3 (hf.s1 _ h2 e),fun e=>h4 (hf.s2 _ h2 e),rangeAt_block h5 (hf.block _ h2 (by omega) h3 h4)⟩
theorem RowsAt.other {w w':World}{wb:Nat}{vs vst:Value}{zb:Nat→Nat}{R:List (List Int)}{v:Option Nat}(h:RowsAt w wb vs vst zb R)(hg:w.grownBy w' v)(hv:∀k,v=some k→∀i,i<R.length→zb i≠k):RowsAt w' wb vs vst zb R:=fun i hi=>by
 obtain⟨h1,h2,h3,h4,h5⟩:=h i hi
 exact⟨h1,Nat.lt_of_lt_of_le h2 hg.size,h3,h4,rangeAt_block h5 (hg.block _ h2 (fun e=>hv _ e.symm i hi rfl))⟩
theorem WK.other {w w':World}{wb:Nat}{num:Nat→Int}{S:List Int}{E:List (Nat×Value)}{vs vst:Value}{v:Option Nat}(h:WK w wb num S E vs vst)(hg:w.grownBy w' v)(hv:∀k,v=some k→k≠wb∧vs.ownBlock≠some k∧vst.ownBlock≠some k):WK w' wb num S E vs vst:=by
 have hb:w'.heap[wb]? =w.heap[wb]? :=hg.block wb h.hb (fun e=>(hv wb e.symm).1 rfl)
 have cl:∀i,w'.cell? ⟨wb,i,none⟩=w.cell? ⟨wb,i,none⟩:=fun i=>World.cell?_of_block (w:=w) (a:=⟨wb,i,none⟩) hb
 exact⟨(cl 0).trans h.c0,fun x hx=>(cl _).trans (h.nm x hx),(cl _).trans h.c2,fun i=>(World.frozen?_of_block (w:=w) (a:=⟨wb,i,none⟩) hb).trans (h.fz i),
  row_top h.rs (fun k hk=>hg.block k (h.rs.lt k hk).2 (fun e=>(hv k e.symm).2.1 hk)),row_top h.rt (fun k hk=>hg.block k (h.rt.lt k hk).2 (fun e=>(hv k e.symm).2.2 hk)),h.ap,Nat.lt_of_lt_of_le h.hb hg.size⟩
structure SRo (W:World)(n0:Nat)(vf vl:Value)(next:Nat→Int)(lasts G:List Int)(pg pcap:Nat):Prop where
 nt:NetAt W n0 vf vl next
 rg:W.rangeAt n0 0 (netA vf vl next).toList
 gc:W.cell? ⟨n0+1,256,none⟩=some (.slice (some ⟨pg,0,none⟩) G.length pcap)
 rl:Row1 W vl lasts
 gl:∀j a,G[j]? =some a→W.cell? ⟨pg,j,none⟩=some (.int .i64 a)
 hv:∀k,vl.ownBlock=some k→k<n0
 hp:pg<n0
theorem SRo.below {W W':World}{n0:Nat}{vf vl:Value}{next:Nat→Int}{lasts G:List Int}{pg pcap B:Nat}(h:SRo W n0 vf vl next lasts G pg pcap)(hb:Below B W W')(hB:n0+1+1≤B):SRo W' n0 vf vl next lasts G pg pcap:=by
 have hp:=h.hp
 exact⟨⟨(hb.cell (p:=⟨n0,0,none⟩) (show n0<B by omega)).trans h.nt.c0,(hb.cell (p:=⟨n0,1,none⟩) (show n0<B by omega)).trans h.nt.c1,fun k hk=>(hb.cell (p:=⟨n0,2+k,none⟩) (show n0<B by omega)).trans (h.nt.nx k hk),fun i=>(hb.frozen (p:=⟨n0,i,none⟩) (show n0<B by omega)).trans (h.nt.fz i)⟩,
  rangeAt_block h.rg (hb.block n0 (by omega)),(hb.cell (p:=⟨n0+1,256,none⟩) (show n0+1<B by omega)).trans h.gc,h.rl.below hb (fun k hk=>by have:=h.hv k hk;omega),fun j a hj=>(hb.cell (p:=⟨pg,j,none⟩) (show pg<B by omega)).trans (h.gl j a hj),h.hv,hp⟩
theorem row_frozen {w:World}{base e size g n cap:Nat}{xs:List Value}(h:w.ownsRow base e size (.slice (some ⟨g,0,none⟩) n cap) n xs)(i:Nat):w.frozen? ⟨g,i,none⟩=false:=by
 rcases h.2 with⟨hn,_⟩ | ⟨g',cap',cur,he,hbg,hg,_⟩
 ·cases hn
 ·cases he
  unfold World.frozen?
  simp only[hg]
  simp
theorem numOk0:numOk (fun _=>0) [0]:=fun x _=>by
 by_cases h:(x:Int)∈ [(0:Int)]∧x≠0
 ·have:=h.1;simp at this;omega
 ·rw[if_neg h]
theorem setsOk0:setsOk [0]:=⟨rfl,by simp,fun x hx=>by simp at hx;omega⟩
def SpreadOut (w:World)(K:Nat)(lasts:List Int)(P:List Int×List (List Int))(e:Ending)(w':World):Prop:=
 ∃(tg cap:Nat) (zb:Nat→Nat),e= .returned (.slice (some ⟨tg,0,none⟩) P.1.length cap)∧Below w.heap.size w w'∧
  SIn w' w'.heap.size tg P.1.length K zb (fun s=>tokP lasts (P.1.getD s 0)) (fun s k=>(P.2.getD s []).getD k 0)
set_option maxRecDepth 100000 in
set_option maxHeartbeats 1000000 in
theorem sspread_any (vf vl:Value)(next:Nat→Int)(lasts G:List Int)(GA:Array Value)(pg pcap:Nat)(begin:Int)(w:World)(hl:lasts.length≤1000000)(hr:Row1 w vl lasts)(hv:∀k,vl.ownBlock=some k→k<w.heap.size)
  (hGc:GA[256]? =some (.slice (some ⟨pg,0,none⟩) G.length pcap)) (hGl:G.length≤300) (hG:∀j a,G[j]? =some a→w.cell? ⟨pg,j,none⟩=some (.int .i64 a)) (hpg:pg<w.heap.size):
  Calls Try.prog 64 #[.agg (netA vf vl next),.agg GA,.int .i64 begin] w fun e w'=>SpreadOut w G.length lasts (spreadP next begin G) e w':=by
 obtain⟨i0,hi0,hz0,hz1,hz2⟩:=info_parts Try.infoInt
 have HI:Hid (Try.prog.info? 3=some i0∧i0.zero=some (.int .i64 0)∧i0.size=1∧i0.bytes=8):=⟨hi0,hz0,hz1,hz2⟩
 clear hi0 hz0 hz1 hz2
 obtain⟨W2,hW2⟩:∃W2,(w.alloc (.cells (netA vf vl next) 141)).alloc (.cells GA 89)=W2:=⟨_,rfl⟩
 have hz2:W2.heap.size=w.heap.size+1+1:=by rw[←hW2];simp
 have hB2:Below w.heap.size w W2:=by rw[←hW2];exact((Below.refl _ _).alloc (Nat.le_refl _) _).alloc (by simp) _
 have hN2:NetAt W2 w.heap.size vf vl next:=by
  have h1:=NetAt.box w vf vl next 141 w.heap.size rfl
  have hb:Below (w.heap.size+1) (w.alloc (.cells (netA vf vl next) 141)) W2:=by rw[←hW2];exact(Below.refl _ _).alloc (by simp) _
  exact⟨(hb.cell (p:=⟨w.heap.size,0,none⟩) (Nat.lt_succ_self _)).trans h1.c0,(hb.cell (p:=⟨w.heap.size,1,none⟩) (Nat.lt_succ_self _)).trans h1.c1,fun k hk=>(hb.cell (p:=⟨w.heap.size,2+k,none⟩) (Nat.lt_succ_self _)).trans (h1.nx k hk),fun i=>(hb.frozen (p:=⟨w.heap.size,i,none⟩) (Nat.lt_succ_self _)).trans (h1.fz i)⟩
 have hG2:W2.cell? ⟨w.heap.size+1,256,none⟩=some (.slice (some ⟨pg,0,none⟩) G.length pcap):=by
  rw[←hW2];exact(World.cell?_alloc_at _ _ (w.heap.size+1) 256 (by simp)).trans hGc
 have hR2:W2.rangeAt w.heap.size 0 (netA vf vl next).toList:=by
  have h1:=rangeAt_new w (netA vf vl next) 141
  rw[←hW2]
  exact rangeAt_block h1 (Below.heap_alloc _ _ _ (by simp))
 have HW:=hidZ (WK.start W2 (w.heap.size+1+1) hz2.symm)
 have HT:=hidZ (there_newA W2 Try.zeroCells198 198 (w.heap.size+1+1) 1026 Try.walkZeroSize hz2)
 have HB3:Hid (Below (w.heap.size+1+1) W2 ((W2.alloc (.cells Try.zeroCells198 198)).setCells (w.heap.size+1+1) 0 Try.zeroCells198.toList)):=below_setCells _ 0 _ _ ((Below.refl _ _).alloc (by rw[hz2];exact Nat.le_refl _) _) (Nat.le_refl _)
 have HB2:=hidZ hB2
 have HN2:=hidZ hN2
 have HG2:=hidZ hG2
 have HR2:=hidZ hR2
 have HRW:=hidZ (hr.below hB2 hv)
 have HG:=hidZ hG
 have HGW:Hid (∀j a,G[j]? =some a→W2.cell? ⟨pg,j,none⟩=some (.int .i64 a)):=fun j a h=>(hB2.cell (p:=⟨pg,j,none⟩) hpg).trans (hG j a h)
 replace hW2:=hidZ hW2
 clear hr hGc hG hB2 hN2 hG2 hR2
 obtain⟨K,hK⟩:∃K,G.length=K:=⟨_,rfl⟩
 rw[hK]at hGl HG2 ⊢
 replace hK:=hidZ hK
 go_enter Try.func64,Try.ntmps64
 go_upto_region 2 with(first
  | (refine wpList_boxTo rfl 141 (.tmp 0) rfl _ rfl w.heap.size rfl (netA vf vl next) rfl ?_)
  | (refine wpList_boxTo rfl 89 (.tmp 1) rfl _ rfl (w.heap.size+1) (by simp) GA rfl ?_)
  | (refine wpList_store_mid rfl 198 (.tmp 7) (.tmp 14) rfl (w.heap.size+1+1) 0 Try.zeroCells198 rfl rfl ?_ ?_ Try.walkZeroOne ?_;(rw[Try.walkZeroSize,hW2.out];exact HT.out);(rw[Try.walkZeroSize];exact Try.walkSize);rw[hW2.out]))
 have HRO:Hid (SRo ((W2.alloc (.cells Try.zeroCells198 198)).setCells (w.heap.size+1+1) 0 Try.zeroCells198.toList) w.heap.size vf vl next lasts G pg pcap):=
  (⟨HN2.out,HR2.out,by rw[hK.out];exact HG2.out,HRW.out,HGW.out,hv,hpg⟩:SRo W2 w.heap.size vf vl next lasts G pg pcap).below HB3.out (Nat.le_refl _)
 have HBB:Hid (Below w.heap.size w ((W2.alloc (.cells Try.zeroCells198 198)).setCells (w.heap.size+1+1) 0 Try.zeroCells198.toList)):=HB2.out.trans (HB3.out.mono (by omega))
 generalize (W2.alloc (.cells Try.zeroCells198 198)).setCells (w.heap.size+1+1) 0 Try.zeroCells198.toList=W3 at*
 clear HT HB3 HB2 HN2 HG2 HR2 HRW HG HGW hW2 hz2
 obtain⟨n0,hn0⟩:∃n0,w.heap.size=n0:=⟨_,rfl⟩
 have HBB':=HBB
 rw[hn0]at HRO HBB' HW hv hpg ⊢
 clear HBB
 have hvw:∀k,vl.ownBlock=some k→k<n0+1+1:=fun k hk=>by have:=hv k hk;omega
 go_wp2_with (first | (refine wpList_load_mid rfl 141 (.tmp 3) rfl n0 0 rfl (netA vf vl next).toList _ HRO.out.rg Try.underlying141 rfl Try.netSize ?_) | fail)
 refine(sadd_any (n0+1+1) (fun _=>0) [] [] _ _ vf vl next lasts 0 W3 (by simp) (by simp) hl HW.out HRO.out.rl hvw).mono ?_
 rintro e w4 ⟨rfl,vs4,vst4,hw4,hf4⟩
 have hb4:=hf4.below HW.out
 have HW4:Hid (WK w4 (n0+1+1) (fun _=>0) [0] (enE lasts [0] 0 (fun _=>0) K) vs4 vst4):=hw4
 have HRO4:=hidZ (HRO.out.below hb4 (Nat.le_refl _))
 have HB4:=hidZ (HBB'.out.trans (hb4.mono (by omega)))
 clear hw4 hf4 hb4 HW HRO HBB'
 obtain⟨PP,EPP⟩:∃m,spreadP next begin G=m:=⟨_,rfl⟩
 replace EPP:=hidZ EPP
 go_wp2_with fail
 go_loopg [8] 1025 (fun gk sv wr=>∃(s:Nat) (S:List Int) (R:List (List Int)) (num:Nat→Int) (zb:Nat→Nat) (vs vst:Value),sv= .int .i64 (s:Int)∧s+gk=1025∧R.length=s∧s≤S.length∧setsOk S∧numOk num S∧PP=spreadL next begin G gk s S R∧(∀r∈R,r.length=K)∧
  WK wr (n0+1+1) num S (enE lasts S s zb K) vs vst∧RowsAt wr (n0+1+1) vs vst zb R∧SRo wr n0 vf vl next lasts G pg pcap∧Below n0 w wr)
 case atStart=>exact⟨0,[0],[],fun _=>0,fun _=>0,vs4,vst4,rfl,rfl,rfl,by simp,setsOk0,numOk0,EPP.out.symm,fun r hr=>absurd hr (List.not_mem_nil),HW4.out,fun i hi=>absurd hi (Nat.not_lt_zero _),HRO4.out,HB4.out⟩
 case round=>
  obtain⟨s,S,R,num,zb,vs,vst,rfl,hsg,hRs,hsS,hok,hnum,heq,hRK,hwk,hrows,hro,hb⟩:=hrel
  have HQ:=hidZ heq
  have HWK:=hidZ hwk
  have HROW:=hidZ hrows
  have HROn:=hidZ hro
  have HB:=hidZ hb
  have HOK:=hidZ hok
  have HNU:=hidZ hnum
  have HRS:=hidZ hRs
  have HRK:=hidZ hRK
  have hSl:=sets_len hok
  clear heq hwk hrows hro hb hok hnum hRs hRK HW4 HRO4 HB4
  obtain⟨d,rfl⟩:∃d,gk=d+1:=⟨gk - 1,by omega⟩
  have hS0:0<S.length:=(List.getElem?_eq_some_iff.1 HOK.out.zero).1
  obtain⟨va,vcap,hvs,_,_⟩:=HWK.out.rs.form hS0
  subst hvs
  obtain⟨tg,tcap,hvt,_,_⟩:=HWK.out.rt.form (by rw[enE_len];exact hS0)
  subst hvt
  have c0:=HWK.out.c0
  by_cases hlt:s<S.length
  ·have HQ2:Hid (PP=spreadL next begin G d (s+1) (rowP (aheadP next begin S s) G [] S).2 (R++ [(rowP (aheadP next begin S s) G [] S).1])):=by unfold Hid;rw[HQ.out,spreadL,if_pos hlt]
   have hd1:decide ((s:Int)<(S.length:Int))=true:=by simp;omega
   go_upto_if 26 with fail
   go_cut [9] from 17 to 59 (fun av wc=>av= .int .i64 (aheadP next begin S s)∧wc=wr)
   case first=>
    by_cases hs0:s=0
    ·have hd2:decide (0<s)=false:=by simp;omega
     have hneg:¬0<s:=by omega
     have HA:Hid (aheadP next begin S s=begin):=by unfold Hid aheadP;rw[if_pos hs0]
     clear hs0
     go_wp2
     go_meet
     case rel=>exact⟨by rw[HA.out],rfl⟩
    ·have hd2:decide (0<s)=true:=by simp;omega
     have hpos:0<s:=by omega
     have HA:Hid (aheadP next begin S s=behP next (S.getD s 0)):=by unfold Hid aheadP;rw[if_neg hs0]
     have cs:wr.cell? ⟨va,s,none⟩=some (.int .i64 (S.getD s 0)):=by
      have:=row_range HWK.out.rs s (.int .i64 (S.getD s 0)) (by unfold intC;rw[List.getElem?_map,List.getElem?_eq_getElem hlt,List.getD_eq_getElem?_getD,List.getElem?_eq_getElem hlt];rfl)
      rw[Nat.zero_add]at this;exact this
     have hsI:(0:Int)≤(s:Int)∧(s:Int)<(S.length:Int):=by omega
     generalize S.getD s 0=y at*
     clear hs0
     go_wp2_with fail
     refine(pbehind_any next y n0 vf vl wr HROn.out.nt).mono ?_
     rintro e w5 ⟨rfl,rfl⟩
     go_wp2
     go_meet
     case rel=>exact⟨by rw[HA.out],rfl⟩
   case rest=>
    obtain⟨rfl,rfl⟩:=hcut
    have c256:=HROn.out.gc
    rw[hK.out]at c256
    obtain⟨AH,EAH⟩:∃a,aheadP next begin S s=a:=⟨_,rfl⟩
    rw[EAH]at HQ2 ⊢
    replace EAH:=hidZ EAH
    have hn0w:=HB.out.size
    rw[hn0]at hn0w
    go_wp2_with (first | (at_make;refine wpList_make_own wc rfl _ _ 30 rfl wc.heap.size 3 i0 (.int .i64 0) 1 Try.underlying30 HI.out.1 HI.out.2.1 HI.out.2.2.1 .i64 .i64 _ K rfl rfl rfl (by rw[HI.out.2.2.2];omega) (by unfold maxLen;omega) (Nat.le_refl _) ?_;intro w6 hown6 hg6;have HB6:Hid (Below wc.heap.size wc w6):=(⟨hg6.os,hg6.tape,hg6.output,hg6.size,fun k hk=>hg6.block k hk (by simp)⟩:Below wc.heap.size wc w6);have hwz:=HWK.out.hb;have d256:=(HB6.out.cell (p:=⟨n0+1,256,none⟩) (show n0+1<wc.heap.size by omega)).trans c256;clear c256))
    have HWK6:=hidZ (HWK.out.below HB6.out)
    have HROW6:=hidZ (HROW.out.other hg6 (fun k hk=>by cases hk))
    have HRO6:=hidZ (HROn.out.below HB6.out (by omega))
    have HBB6:=hidZ (HB.out.trans (HB6.out.mono hn0w))
    have HO6:=hidZ hown6
    have hzC:∀i,i<R.length→zb i<wc.heap.size:=fun i hi=>(HROW.out i hi).2.1
    have hvC:va<wc.heap.size:=(HWK.out.rs.lt va rfl).2
    have htC:tg<wc.heap.size:=(HWK.out.rt.lt tg rfl).2
    clear hown6 hg6 HB6 HWK HROW HROn HB d256 c0
    replace hzC:=hidZ hzC
    obtain⟨C,hC⟩:∃C,wc.heap.size=C:=⟨_,rfl⟩
    rw[hC]at HO6 hzC hvC htC hwz hn0w ⊢
    obtain⟨RP,ERP⟩:∃r,rowP AH G [] S=r:=⟨_,rfl⟩
    rw[ERP]at HQ2
    replace ERP:=hidZ ERP
    go_loopg [10,40] K (fun gj nv iv wj=>∃(j:Nat) (acc S':List Int) (num':Nat→Int) (vs' vst':Value),nv= .slice (some ⟨C,0,none⟩) j K∧iv= .int .i64 (j:Int)∧j+gj=K∧acc.length=j∧S.length≤S'.length∧setsOk S'∧numOk num' S'∧RP=rowP AH (G.drop j) acc S'∧
     wj.ownsRow C 3 1 (.slice (some ⟨C,0,none⟩) j K) j (intC acc)∧WK wj (n0+1+1) num' S' (enE lasts S' s zb K) vs' vst'∧vs'.ownBlock≠some C∧vst'.ownBlock≠some C∧RowsAt wj (n0+1+1) vs' vst' zb R∧SRo wj n0 vf vl next lasts G pg pcap∧Below n0 w wj)
    case atStart=>exact⟨0,[],S,num,_,_,rfl,rfl,by omega,rfl,Nat.le_refl _,HOK.out,HNU.out,by rw[List.drop_zero];exact ERP.out.symm,HO6.out,HWK6.out,(by simp[Value.ownBlock];omega),(by simp[Value.ownBlock];omega),HROW6.out,HRO6.out,HBB6.out⟩
    case round=>
     obtain⟨j,acc,S',num',vs',vst',rfl,rfl,hjk,hacl,hSS,hok',hnu',hrp,hown,hwk,hne1,hne2,hrows,hro,hb⟩:=hrel
     have HRP:=hidZ hrp
     have HOC:=hidZ hown
     have HWKj:=hidZ hwk
     have HN1:=hidZ hne1
     have HN2:=hidZ hne2
     have HRWj:=hidZ hrows
     have HROj:=hidZ hro
     have HBj:=hidZ hb
     have HOKj:=hidZ hok'
     have HNUj:=hidZ hnu'
     have HAC:=hidZ hacl
     have hSl':=sets_len hok'
     have hCz:C<wr.heap.size:=(hown.lt C rfl).2
     clear hrp hown hwk hne1 hne2 hrows hro hb hok' hnu' hacl HO6 HWK6 HROW6 HRO6 HBB6
     by_cases hjl:j<K
     ·obtain⟨j',rfl⟩:∃j',gk=j'+1:=⟨gk - 1,by omega⟩
      have hjG:j<G.length:=by rw[hK.out];exact hjl
      have hga:G[j]? =some (G[j]):=List.getElem?_eq_getElem hjG
      have ca:=HROj.out.gl j _ hga
      have HRP2:=hidZ (HRP.out.trans (rowP_drop hga))
      generalize G[j]=a at*
      have HAN:Hid (bits .and .i64 AH a=andI AH a):=rfl
      have htc:=sto_any (n0+1+1) num' S' (enE lasts S' s zb K) vs' vst' vf vl next lasts (andI AH a) wr HOKj.out HNUj.out (by rw[enE_len];omega) hl HWKj.out HROj.out.rl hvw
      unfold ToOut at htc
      rw[toE_enE (by omega)]at htc
      have htp:=toP_ok HOKj.out (andI AH a)
      have hdj:decide ((j:Int)<(K:Int))=true:=by simp;omega
      have hjI:(0:Int)≤(j:Int)∧(j:Int)<(K:Int):=by omega
      generalize toP S' (andI AH a)=TP at*
      obtain⟨y,S2⟩:=TP
      simp only at htc htp HRP2
      clear hga hjG
      go_wp2_with (first | (refine wpList_load_mid rfl 141 (.tmp 3) rfl n0 0 rfl (netA vf vl next).toList _ HROj.out.rg Try.underlying141 rfl Try.netSize ?_) | fail)
      refine htc.mono ?_
      rintro e w7 ⟨rfl,num2,vs2,vst2,hwk2,hnu2,hfw2⟩
      have hb7:=hfw2.below HWKj.out
      have HW7:=hidZ hwk2
      have HNU7:=hidZ hnu2
      have HO7:Hid (w7.ownsRow C 3 1 (.slice (some ⟨C,0,none⟩) j K) j (intC acc)):=hidZ (row_top HOC.out (fun k hk=>by
       have e:C=k:=by simpa[Value.ownBlock]using hk
       subst e;exact hfw2.block C hCz (by omega) HN1.out HN2.out))
      have HN17:Hid (vs2.ownBlock≠some C):=fun e=>HN1.out (hfw2.s1 C hCz e)
      have HN27:Hid (vst2.ownBlock≠some C):=fun e=>HN2.out (hfw2.s2 C hCz e)
      have HRW7:=hidZ (HRWj.out.step hfw2)
      have HRO7:=hidZ (HROj.out.below hb7 (Nat.le_refl _))
      have HB7:=hidZ (HBj.out.trans (hb7.mono (by omega)))
      have hCz7:C<w7.heap.size:=by have:=hfw2.size;omega
      clear hwk2 hnu2 hfw2 hb7 htc HOC HWKj HN1 HN2 HRWj HROj HBj HNUj ca
      go_wp2_with (first | (at_builtin;refine wpList_fits1 w7 rfl _ _ 30 rfl C 3 (.int .i64 0) 1 8 Try.underlying30 Try.infoInt C j K (intC acc) [.int .i64 y] _ rfl HO7.out _ rfl rfl rfl (by simp[Value.oneCell']) (by omega) ?_;intro w8 hown8 hgrow8) | fail)
      go_roundg j'
      case measure=>omega
      case rel=>
       have hg1:=World.grownBy_alloc w7 (.cells #[.int .i64 y] 3) (some C)
       have hg8:=grown_trans hg1 hgrow8
       refine⟨j+1,acc++ [y],S2,num2,vs2,vst2,rfl,by go_num,by omega,by simp[HAC.out],by omega,htp.1,HNU7.out,HRP2.out,by rw[intC_snoc];exact hown8,HW7.out.other hg8 (fun k hk=> ?_),HN17.out,HN27.out,HRW7.out.other hg8 (fun k hk i hi=> ?_),HRO7.out.below (⟨hg8.os,hg8.tape,hg8.output,hg8.size,fun k hk=>hg8.block k (by omega) (fun e=>by injection e;omega)⟩:Below (n0+1+1) w7 w8) (Nat.le_refl _),HB7.out.trans (⟨hg8.os,hg8.tape,hg8.output,hg8.size,fun k hk=>hg8.block k (by omega) (fun e=>by injection e;omega)⟩:Below n0 w7 w8)⟩
       ·injection hk with hk;subst hk;exact⟨by omega,HN17.out,HN27.out⟩
       ·injection hk with hk;subst hk;have:=hzC.out i hi;omega
     ·have e:gk=0:=by omega
      subst e
      have ejk:j=K:=by omega
      subst ejk
      have hdj:decide ((j:Int)<(j:Int))=false:=by simp
      have HRP2:Hid (RP=(acc,S')):=by unfold Hid;rw[HRP.out,←hK.out,List.drop_length];rfl
      have hS0':0<S'.length:=by omega
      obtain⟨tg2,tcap2,hvt2,_,_⟩:=HWKj.out.rt.form (by rw[enE_len];exact hS0')
      subst hvt2
      have c2:=HWKj.out.c2
      rw[enE_len]at c2
      have hsS':s<S'.length:=by omega
      have hEs:(enE lasts S' s zb j)[s]? =some (tokP lasts (S'.getD s 0),.slice none 0 0):=by unfold enE;rw[List.getElem?_map,List.getElem?_range hsS',Option.map_some,if_neg (by omega)]
      have cst:wr.cell? ⟨tg2,s*2+1,none⟩=some (.slice none 0 0):=by
       have:=HWKj.out.rt.cells rfl (s*2+1) _ (enC_get _ s _ _ hEs).1
       simpa[Addr.add]using this
      have fst':wr.frozen? ⟨tg2,s*2+1,none⟩=false:=row_frozen HWKj.out.rt _
      have HSET:=hidZ (HWKj.out.setNext hEs (.slice (some ⟨C,0,none⟩) j j))
      rw[←enE_set hsS',enE_len]at HSET
      have htw:=(HWKj.out.rt.lt tg2 rfl).1
      have HFR:Hid (∀i,i<R.length→tg2≠zb i):=fun i hi e=>(HRWj.out i hi).2.2.2.1 (by simp[Value.ownBlock];exact e)
      have hsI:(0:Int)≤(s:Int)∧(s:Int)<(S'.length:Int):=by omega
      have HRC:=hidZ (row_range HOC.out)
      clear hEs hS0'
      go_wp2
      go_roundg d
      case measure=>omega
      case rel=>
       have hbs:Below (n0+1+1) wr (wr.setCell ⟨tg2,s*2+1,none⟩ (.slice (some ⟨C,0,none⟩) j j)):=(Below.refl _ _).setCell (p:=⟨tg2,s*2+1,none⟩) (by show n0+1+1≤tg2;omega) _
       have hnC:C≠tg2:=fun e=>HN2.out (by rw[e];rfl)
       refine⟨s+1,S',R++ [acc],num',fun i=>if i=s then C else zb i,vs',_,by go_num,by omega,by simp[HRS.out],by omega,HOKj.out,HNUj.out, ?_,fun r hr=> ?_,HSET.out,fun i hi=> ?_,HROj.out.below hbs (Nat.le_refl _),HBj.out.trans (hbs.mono (by omega))⟩
       ·have:=HQ2.out;rw[HRP2.out]at this;exact this
       ·rcases List.mem_append.1 hr with h1 | h1
        ·exact HRK.out r h1
        ·rw[List.mem_singleton]at h1;rw[h1];exact HAC.out
       ·simp[HRS.out]at hi
        by_cases e:i=s
        ·subst e
         simp only[if_pos]
         refine⟨by omega,by simp[World.setCell];omega,HN1.out, ?_, ?_⟩
         ·have:=HN2.out;rw[enE_len]at this;exact this
         ·have h1:(R++ [acc]).getD i []=acc:=by rw[List.getD_eq_getElem?_getD,List.getElem?_append_right (by rw[HRS.out];exact Nat.le_refl _),HRS.out];simp
          rw[h1]
          exact rangeAt_block HRC.out (Below.heap_setCell _ _ _ _ hnC)
        ·have hiR:i<R.length:=by rw[HRS.out];omega
         simp only[if_neg e]
         obtain⟨q1,q2,q3,q4,q5⟩:=HRWj.out i hiR
         have h1:(R++ [acc]).getD i []=R.getD i []:=by rw[List.getD_eq_getElem?_getD,List.getD_eq_getElem?_getD,List.getElem?_append_left hiR]
         refine⟨q1,by simp[World.setCell];omega,q3, ?_, ?_⟩
         ·rw[enE_len]at q4;exact q4
         ·rw[h1];exact rangeAt_block q5 (Below.heap_setCell _ _ _ _ (fun e=>HFR.out i hiR e.symm))
  ·have HE:Hid (PP=(S,R)):=by unfold Hid;rw[HQ.out,spreadL,if_neg hlt]
   have hsl:s=S.length:=by omega
   have hd1:decide ((s:Int)<(S.length:Int))=false:=by simp;omega
   have c2:=HWK.out.c2
   rw[enE_len]at c2
   go_wp2
   go_ret
   rw[EPP.out,HE.out]
   refine⟨tg,tcap,zb,rfl,by rw[hn0];exact HB.out, ?_⟩
   have hrt:=HWK.out.rt
   rw[enE_len]at hrt
   have hEg:∀i,i<S.length→(enE lasts S s zb K)[i]? =some (tokP lasts (S.getD i 0),.slice (some ⟨zb i,0,none⟩) K K):=fun i hi=>by
    unfold enE;rw[List.getElem?_map,List.getElem?_range hi,Option.map_some,if_pos (by omega)]
   have hrg:∀j v,(enC (enE lasts S s zb K))[j]? =some v→wr.cell? ⟨tg,j,none⟩=some v:=fun j v hj=>by
    have:=hrt.cells rfl j v hj
    by_cases h0:j=0
    ·subst h0;simpa[Addr.add]using this
    ·simpa[Addr.add,h0]using this
   refine⟨fun i hi=>hrg _ _ (enC_get _ i _ _ (hEg i hi)).2,fun i hi=>hrg _ _ (enC_get _ i _ _ (hEg i hi)).1,fun i k hi hk=> ?_,(hrt.lt tg rfl).2,fun i hi=>(HROW.out i (by rw[HRS.out,hsl];exact hi)).2.1⟩
   have hr:=(HROW.out i (by rw[HRS.out,hsl];exact hi)).2.2.2.2
   have hlen:(R.getD i []).length=K:=by
    have hiR:i<R.length:=by rw[HRS.out,hsl];exact hi
    rw[List.getD_eq_getElem?_getD,List.getElem?_eq_getElem hiR];exact HRK.out _ (List.getElem_mem hiR)
   have:=hr k (.int .i64 ((R.getD i []).getD k 0)) (by
    unfold intC
    rw[List.getElem?_map,List.getElem?_eq_getElem (by rw[hlen];exact hk)]
    conv=>rhs;rw[List.getD_eq_getElem?_getD,List.getElem?_eq_getElem (by rw[hlen];exact hk)]
    rfl)
   rw[Nat.zero_add]at this
   exact this
end Go.Proofs.Ytgjgjgihceijnaa

namespace Go.Stn
open Go.RowKit
theorem addr_add (g i:Nat):(⟨g,0,none⟩:Addr).add i=⟨g,i,none⟩:=by
 by_cases h:i=0
 ·subst h;simp[Addr.add]
 ·simp[Addr.add,h]
theorem flat_get {α:Type}(f:α→List Value)(m:Nat)(hf:∀x,(f x).length=m):∀(l:List α) (k:Nat) (x:α) (j:Nat) (v:Value),l[k]? =some x→(f x)[j]? =some v→(l.flatMap f)[k*m+j]? =some v:=by
 intro l
 induction l with
 | nil=>intro k x j v h;simp at h
 | cons a r ih=>
  intro k x j v h hj
  rw[List.flatMap_cons]
  cases k with
  | zero=>
   have e:a=x:=by simpa using h
   subst e
   have hlt:=(List.getElem?_eq_some_iff.1 hj).1
   rw[Nat.zero_mul,Nat.zero_add,List.getElem?_append_left hlt];exact hj
  | succ i=>
   rw[List.getElem?_append_right (by rw[hf];rw[Nat.add_mul];omega),hf,show(i+1)*m+j - m=i*m+j by rw[Nat.add_mul];omega]
   exact ih i x j v (by simpa using h) hj
def RulesIn (w:World)(g:Nat)(rules:List ((Nat→Bool)×Int×Int)):Prop:=∀k x,rules[k]? =some x→w.rangeAt g (k*6) (ruleC x)
theorem RulesIn.below {w w':World}{g B:Nat}{rules:List ((Nat→Bool)×Int×Int)}(h:RulesIn w g rules)(hB:Below B w w')(hg:g<B):RulesIn w' g rules:=fun k x hk=>rangeAt_block (h k x hk) (hB.block g hg)
def cntC (f:Nat→Bool):Nat→Nat→Nat
 | 0,c=>c
 | k+1,c=>if f k=true∧cntC f k c<k+1 then k+1 else cntC f k c
def cntR (x:(Nat→Bool)×Int×Int)(c:Nat):Nat:=if((cntC x.1 4 c:Nat):Int)<x.2.1 - 1 then(x.2.1 - 1).toNat else cntC x.1 4 c
def fileConds:List ((Nat→Bool)×Int×Int)→Nat→Nat
 | [],c=>c
 | x::r,c=>fileConds r (cntR x c)
theorem fileConds_drop {rules:List ((Nat→Bool)×Int×Int)}{k:Nat}{x:(Nat→Bool)×Int×Int}(h:rules[k]? =some x)(c:Nat):fileConds (rules.drop k) c=fileConds (rules.drop (k+1)) (cntR x c):=by
 have e:rules.drop k=x::rules.drop (k+1):=by
  obtain⟨hk,he⟩:=List.getElem?_eq_some_iff.1 h
  rw[List.drop_eq_getElem_cons hk,he]
 rw[e,fileConds]
end Go.Stn
namespace Go.Proofs.Ytgjgjgihceijnaa
open Go.RowKit Go.Stn
theorem Try.ruleSize:(Try.prog.info? 151).map (·.size)=some 6:=by kernel_rfl
theorem Try.condsSize:(Try.prog.info? 149).map (·.size)=some 4:=by kernel_rfl
theorem Try.runIndex40 (a b c d:Bool)(w:World):(Instr.index 149 (.agg #[.bool a,.bool b,.bool c,.bool d]) (.int .i64 0)).run Try.prog w= .ok (.bool a) w:=by kernel_rfl
theorem Try.runIndex41 (a b c d:Bool)(w:World):(Instr.index 149 (.agg #[.bool a,.bool b,.bool c,.bool d]) (.int .i64 1)).run Try.prog w= .ok (.bool b) w:=by kernel_rfl
theorem Try.runIndex42 (a b c d:Bool)(w:World):(Instr.index 149 (.agg #[.bool a,.bool b,.bool c,.bool d]) (.int .i64 2)).run Try.prog w= .ok (.bool c) w:=by kernel_rfl
theorem Try.runIndex43 (a b c d:Bool)(w:World):(Instr.index 149 (.agg #[.bool a,.bool b,.bool c,.bool d]) (.int .i64 3)).run Try.prog w= .ok (.bool d) w:=by kernel_rfl
theorem Try.runIndex4 (f:Nat→Bool)(j:Nat)(hj:j<4)(w:World):(Instr.index 149 (.agg #[.bool (f 0),.bool (f 1),.bool (f 2),.bool (f 3)]) (.int .i64 (j:Int))).run Try.prog w= .ok (.bool (f j)) w:=by
 have:j=0∨j=1∨j=2∨j=3:=by omega
 rcases this with e | e | e | e
 ·rw[e];exact Try.runIndex40 (f 0) (f 1) (f 2) (f 3) w
 ·rw[e];exact Try.runIndex41 (f 0) (f 1) (f 2) (f 3) w
 ·rw[e];exact Try.runIndex42 (f 0) (f 1) (f 2) (f 3) w
 ·rw[e];exact Try.runIndex43 (f 0) (f 1) (f 2) (f 3) w
theorem Try.wpIndex4 {ops:Array Oper}{rest:List Oper}{o:Oper}{a:Act}{w:World}{Q:Exit→Act→World→Prop}(hg:o.guard=none)(x y:Operand)(ho:o.op= .index 149 x y)(f:Nat→Bool)(j:Nat)(hj:j<4)
  (hx:a.eval x= .agg #[.bool (f 0),.bool (f 1),.bool (f 2),.bool (f 3)]) (hy:a.eval y= .int .i64 (j:Int)) (h:wpList Try.prog ops Q rest (a.put o.dst (.bool (f j))) w):wpList Try.prog ops Q (o::rest) a w:=by
 refine wpList_plain hg fun K hK=> ?_
 have hr:=Try.runIndex4 f j hj w
 unfold Oper.wp execOp
 simp only[ho,hx,hy,Sem.run_bind,hr,Result.andThen_ok]
 exact hK _ _ h
structure RuleAt (w:World)(b:Nat)(x:(Nat→Bool)×Int×Int):Prop where
 rg:w.rangeAt b 0 (ruleC x)
 cs:w.rangeAt b 0 [.bool (x.1 0),.bool (x.1 1),.bool (x.1 2),.bool (x.1 3)]
 c4:w.cell? ⟨b,4,none⟩=some (.int .i64 x.2.1)
 c5:w.cell? ⟨b,5,none⟩=some (.int .i64 x.2.2)
theorem RuleAt.mk' {w:World}{b:Nat}{x:(Nat→Bool)×Int×Int}(h:w.rangeAt b 0 (ruleC x)):RuleAt w b x:=by
 refine⟨h,fun j v hv=> ?_, ?_, ?_⟩
 ·refine h j v ?_
  have hj:j<4:=(List.getElem?_eq_some_iff.1 hv).1
  have:j=0∨j=1∨j=2∨j=3:=by omega
  rcases this with rfl | rfl | rfl | rfl<;> exact hv
 ·exact h 4 _ rfl
 ·exact h 5 _ rfl
set_option maxRecDepth 100000 in
set_option maxHeartbeats 1000000 in
theorem pconds_any (rules:List ((Nat→Bool)×Int×Int))(rg rcap:Nat)(vn vp:Value)(w:World)(hn:rules.length≤1000)(hbe:∀x∈rules,0≤x.2.1∧x.2.1≤1000)(hr:RulesIn w rg rules)(hg:rg<w.heap.size):
  Calls Try.prog 62 #[.agg #[.slice (some ⟨rg,0,none⟩) rules.length rcap,vn,vp]] w fun e w'=>e= .returned (.int .i64 ((fileConds rules 1:Nat):Int))∧Below w.heap.size w w':=by
 have HR:=hidZ hr
 have HBE:=hidZ hbe
 clear hr hbe
 obtain⟨n,hnn⟩:∃n,rules.length=n:=⟨_,rfl⟩
 rw[hnn]at hn ⊢
 replace hnn:=hidZ hnn
 have c0:(w.alloc (.cells #[.slice (some ⟨rg,0,none⟩) n rcap,vn,vp] 84)).cell? ⟨w.heap.size,0,none⟩=some (.slice (some ⟨rg,0,none⟩) n rcap):=(World.cell?_alloc_at _ _ w.heap.size 0 rfl).trans rfl
 have HB0:Hid (Below w.heap.size w (w.alloc (.cells #[.slice (some ⟨rg,0,none⟩) n rcap,vn,vp] 84))):=(Below.refl _ _).alloc (Nat.le_refl _) _
 go_enter Try.func62,Try.ntmps62
 go_upto_region 2 with fail
 generalize w.alloc (.cells #[.slice (some ⟨rg,0,none⟩) n rcap,vn,vp] 84)=W at*
 go_wp2_with fail
 clear c0
 obtain⟨FC,EFC⟩:∃c,fileConds rules 1=c:=⟨_,rfl⟩
 replace EFC:=hidZ EFC
 go_loopg [3,11] n (fun gk cv iv wr=>∃(k c:Nat),cv= .int .i64 (c:Int)∧iv= .int .i64 (k:Int)∧k+gk=n∧c≤1000∧FC=fileConds (rules.drop k) c∧Below w.heap.size w wr)
 case atStart=>exact⟨0,1,rfl,rfl,by omega,by omega,EFC.out.symm,HB0.out⟩
 case round=>
  obtain⟨k,c,rfl,rfl,hkn,hc,heq,hb⟩:=hrel
  have HQ:=hidZ heq
  have HB:=hidZ hb
  have hzw:=hb.size
  clear heq hb HB0
  by_cases hlt:k<n
  ·obtain⟨d,rfl⟩:∃d,gk=d+1:=⟨gk - 1,by omega⟩
   have hkr:k<rules.length:=by rw[hnn.out];exact hlt
   have hx:rules[k]? =some (rules[k]):=List.getElem?_eq_getElem hkr
   have HRG:=hidZ ((HR.out.below HB.out hg) k _ hx)
   have HQ2:=hidZ (HQ.out.trans (fileConds_drop hx c))
   have hxb:=HBE.out _ (List.getElem_mem hkr)
   generalize rules[k]=x at*
   obtain⟨f,be,ro⟩:=x
   simp only at hxb
   have HNEW:Hid (RuleAt ((wr.alloc (.cells #[.bool false,.bool false,.bool false,.bool false,.int .i64 0,.int .i64 0] 151)).setCells wr.heap.size 0 (ruleC (f,be,ro))) wr.heap.size (f,be,ro)):=
    RuleAt.mk' (World.rangeAt_setCells_same _ _ _ _ (there_newL wr [.bool false,.bool false,.bool false,.bool false,.int .i64 0,.int .i64 0] 151 6 rfl))
   have HBN:Hid (Below w.heap.size w ((wr.alloc (.cells #[.bool false,.bool false,.bool false,.bool false,.int .i64 0,.int .i64 0] 151)).setCells wr.heap.size 0 (ruleC (f,be,ro)))):=below_setCells _ 0 _ wr.heap.size (HB.out.alloc hzw _) hzw
   have HTN:=hidZ (there_newL wr [.bool false,.bool false,.bool false,.bool false,.int .i64 0,.int .i64 0] 151 6 rfl)
   have hd1:decide ((k:Int)<(n:Int))=true:=by simp;omega
   have hkI:(0:Int)≤(k:Int)∧(k:Int)<(n:Int):=by omega
   clear hx hkr
   go_upto_region 5 with(first
    | (refine wpList_load_mid rfl 151 (.tmp 13) rfl rg (k*6) rfl (ruleC (f,be,ro)) _ HRG.out Try.underlying151 rfl Try.ruleSize ?_)
    | (refine wpList_store_mid rfl 151 (.tmp 5) (.tmp 14) rfl wr.heap.size 0 (ruleC (f,be,ro)).toArray rfl rfl ?_ ?_ ?_ ?_;exact HTN.out;exact Try.ruleSize;(simp[ruleC,Value.oneCell'])))
   generalize (wr.alloc (.cells #[.bool false,.bool false,.bool false,.bool false,.int .i64 0,.int .i64 0] 151)).setCells wr.heap.size 0 (ruleC (f,be,ro))=w5 at*
   have c4:=HNEW.out.c4
   simp only at c4
   have HCS:Hid (w5.rangeAt wr.heap.size 0 [.bool (f 0),.bool (f 1),.bool (f 2),.bool (f 3)]):=HNEW.out.cs
   have HCR:Hid (cntR (f,be,ro) c=if((cntC f 4 c:Nat):Int)<be - 1 then(be - 1).toNat else cntC f 4 c):=rfl
   clear HNEW HTN HRG HB
   go_wp2_with (first | (refine wpList_load_mid rfl 149 (.tmp 15) rfl wr.heap.size 0 rfl [.bool (f 0),.bool (f 1),.bool (f 2),.bool (f 3)] _ HCS.out Try.underlying149 rfl Try.condsSize ?_) | fail)
   go_loopg [3,17] 4 (fun gj cv iv wj=>∃(j cc:Nat),cv= .int .i64 (cc:Int)∧iv= .int .i64 (j:Int)∧j+gj=4∧cc=cntC f j c∧cc≤1000∧wj=w5)
   case atStart=>exact⟨0,c,rfl,rfl,rfl,rfl,hc,rfl⟩
   case round=>
    obtain⟨j,cc,rfl,rfl,hj4,hcc,hcb,rfl⟩:=hrel
    have HCC:=hidZ hcc
    clear hcc
    by_cases hj:j<4
    ·obtain⟨g,rfl⟩:∃g,gk=g+1:=⟨gk - 1,by omega⟩
     have HST:Hid (cntC f (j+1) c=if f j=true∧cc<j+1 then j+1 else cc):=by unfold Hid;rw[cntC,←HCC.out]
     have hd4:decide ((j:Int)<4)=true:=by simp;omega
     by_cases hq:f j=true∧cc<j+1
     ·have HS2:Hid (cntC f (j+1) c=j+1):=by unfold Hid;rw[HST.out,if_pos hq]
      have hfj:=hq.1
      have hd2:decide ((cc:Int)<(j:Int)+1)=true:=by simp;omega
      clear HST HCC hq
      go_wp2_with (first | (refine Try.wpIndex4 rfl (.tmp 16) (.tmp 17) rfl f j hj rfl rfl ?_;rw[hfj]) | fail)
      go_roundg g
      case measure=>omega
      case rel=>exact⟨j+1,j+1,by go_num,by go_num,by omega,HS2.out.symm,by omega,rfl⟩
     ·have HS2:Hid (cntC f (j+1) c=cc):=by unfold Hid;rw[HST.out,if_neg hq]
      cases hfj:f j with
      | true=>
       have hd2:decide ((cc:Int)<(j:Int)+1)=false:=by rw[decide_eq_false_iff_not];exact fun h=>hq ⟨hfj,by omega⟩
       clear HST HCC hq
       go_wp2_with (first | (refine Try.wpIndex4 rfl (.tmp 16) (.tmp 17) rfl f j hj rfl rfl ?_;rw[hfj]) | fail)
       go_roundg g
       case measure=>omega
       case rel=>exact⟨j+1,cc,rfl,by go_num,by omega,HS2.out.symm,hcb,rfl⟩
      | false=>
       clear HST HCC hq
       go_wp2_with (first | (refine Try.wpIndex4 rfl (.tmp 16) (.tmp 17) rfl f j hj rfl rfl ?_;rw[hfj]) | fail)
       go_roundg g
       case measure=>omega
       case rel=>exact⟨j+1,cc,rfl,by go_num,by omega,HS2.out.symm,hcb,rfl⟩
    ·have ej:j=4:=by omega
     have HC4:Hid (cntC f 4 c=cc):=by unfold Hid;rw[HCC.out,ej]
     have hd4:decide ((j:Int)<4)=false:=by simp;omega
     clear ej HCC
     by_cases hbe:(cc:Int)<be - 1
     ·have HS2:Hid (cntR (f,be,ro) c=(be - 1).toNat):=by unfold Hid;rw[HCR.out,HC4.out,if_pos hbe]
      have hd5:decide ((cc:Int)<be - 1)=true:=decide_eq_true hbe
      go_wp2
      go_roundg d
      case measure=>omega
      case rel=>exact⟨k+1,(be - 1).toNat,by simp;omega,by go_num,by omega,by omega,by rw[HQ2.out,HS2.out],HBN.out⟩
     ·have HS2:Hid (cntR (f,be,ro) c=cc):=by unfold Hid;rw[HCR.out,HC4.out,if_neg hbe]
      have hd5:decide ((cc:Int)<be - 1)=false:=decide_eq_false hbe
      go_wp2
      go_roundg d
      case measure=>omega
      case rel=>exact⟨k+1,cc,rfl,by go_num,by omega,hcb,by rw[HQ2.out,HS2.out],HBN.out⟩
  ·have e:gk=0:=by omega
   subst e
   have HE:Hid (FC=c):=by unfold Hid;rw[HQ.out,show k=rules.length by rw[hnn.out];omega,List.drop_length];rfl
   have hd1:decide ((k:Int)<(n:Int))=false:=by simp;omega
   go_wp2
   go_ret
   exact⟨by rw[EFC.out,HE.out];rfl,HB.out⟩
end Go.Proofs.Ytgjgjgihceijnaa

