/- Texts put together: StAll, AuCanon. -/
import Derived.Test.YtgjgjgihceijnaaG14
import Derived.Test.YtgjgjgihceijnaaG01
namespace Go.Stn
open Go.RowKit
def rawOf (next:Nat→Int)(begin:Int)(G:List Int)(lasts:List Int):Nat×(Nat→Nat)×(Nat→Nat→Int):=
 ((spreadP next begin G).1.length,(fun s=>tokP lasts ((spreadP next begin G).1.getD s 0)),(fun s k=>((spreadP next begin G).2.getD s []).getD k 0))
def condSt (next:Nat→Int)(begin:Int)(G:List Int)(lasts:List Int):Option (List (Nat×List Int)):=
 mergeP (rawOf next begin G lasts).1 (rawOf next begin G lasts).2.1 (rawOf next begin G lasts).2.2 G.length
def allL (cs:Nat→Option (List (Nat×List Int))):Nat→Nat→List (List (Nat×List Int))→Option (List (List (Nat×List Int)))
 | 0,_,acc=>some acc
 | d+1,c,acc=>match cs c with
  | none=>none
  | some l=>allL cs d (c+1) (acc++ [l])
theorem spreadL_ok {next:Nat→Int}{begin:Int}{G:List Int}:∀f s S R,setsOk S→R.length=s→s≤S.length→s+f=1025→(∀r∈R,r.length=G.length∧∀y∈r,y=(-1:Int)∨(0≤y∧y<(S.length:Int)))→
  setsOk (spreadL next begin G f s S R).1∧(spreadL next begin G f s S R).2.length=(spreadL next begin G f s S R).1.length∧∀r∈(spreadL next begin G f s S R).2,r.length=G.length∧∀y∈r,y=(-1:Int)∨(0≤y∧y<((spreadL next begin G f s S R).1.length:Int)):=by
 intro f
 induction f with
 | zero=>intro s S R h1 h2 h3 h4 h5;have:=sets_len h1;exact⟨h1,by omega,h5⟩
 | succ d ih=>
  intro s S R h1 h2 h3 h4 h5
  rw[spreadL]
  by_cases hlt:s<S.length
  ·rw[if_pos hlt]
   obtain⟨k1,k2,k3,k4,k5⟩:=rowP_ok (ahead:=aheadP next begin S s) G [] S h1 (fun y hy=>absurd hy (List.not_mem_nil))
   refine ih _ _ _ k1 (by simp[h2]) (by omega) (by omega) (fun r hr=> ?_)
   rcases List.mem_append.1 hr with q | q
   ·refine⟨(h5 r q).1,fun y hy=> ?_⟩
    rcases(h5 r q).2 y hy with e | e
    ·exact .inl e
    ·exact .inr ⟨e.1,by omega⟩
   ·rw[List.mem_singleton]at q
    rw[q]
    exact⟨by rw[k4];simp,k5⟩
  ·rw[if_neg hlt]
   exact⟨h1,by simp only;omega,h5⟩
theorem spreadP_ok (next:Nat→Int)(begin:Int)(G:List Int):setsOk (spreadP next begin G).1∧(spreadP next begin G).2.length=(spreadP next begin G).1.length∧∀r∈(spreadP next begin G).2,r.length=G.length∧∀y∈r,y=(-1:Int)∨(0≤y∧y<((spreadP next begin G).1.length:Int)):=
 spreadL_ok 1025 0 [0] [] ⟨rfl,by simp,fun x hx=>by simp at hx;omega⟩ rfl (by simp) rfl (fun r hr=>absurd hr (List.not_mem_nil))
theorem raw_ok (next:Nat→Int)(begin:Int)(G:List Int)(i k:Nat)(hi:i<(spreadP next begin G).1.length)(hk:k<G.length):
  ((spreadP next begin G).2.getD i []).getD k 0= -1∨(0≤((spreadP next begin G).2.getD i []).getD k 0∧((spreadP next begin G).2.getD i []).getD k 0<(spreadP next begin G).1.length):=by
 obtain⟨_,h2,h3⟩:=spreadP_ok next begin G
 have hi2:i<(spreadP next begin G).2.length:=by omega
 obtain⟨q1,q2⟩:=h3 _ (List.getElem_mem hi2)
 have e:(spreadP next begin G).2.getD i []=(spreadP next begin G).2[i]:=by rw[List.getD_eq_getElem?_getD,List.getElem?_eq_getElem hi2];rfl
 rw[e]
 have hk2:k<((spreadP next begin G).2[i]).length:=by omega
 have e2:((spreadP next begin G).2[i]).getD k 0=((spreadP next begin G).2[i])[k]:=by rw[List.getD_eq_getElem?_getD,List.getElem?_eq_getElem hk2];rfl
 rw[e2]
 exact q2 _ (List.getElem_mem hk2)
end Go.Stn
namespace Go.Proofs.Ytgjgjgihceijnaa
open Go.RowKit Go.Stn
def CondsMem (w:World)(K:Nat)(cg:Nat)(ls:List (List (Nat×List Int))):Prop:=
 ∃ys:List CondG,ys.map (fun y=>y.2.map (·.1))=ls∧w.rangeAt cg 0 (condC ys)∧∀y∈ys,CondIn w K y
def AllOut (w:World)(K:Nat):Option (List (List (Nat×List Int)))→Ending→World→Prop
 | none,e,w'=>e= .returned (.tuple #[.slice none 0 0,.int .i64 4])∧Below w.heap.size w w'
 | some ls,e,w'=>∃cg cap,e= .returned (.tuple #[.slice (some ⟨cg,0,none⟩) ls.length cap,.int .i64 0])∧CondsMem w' K cg ls∧cg<w'.heap.size∧Below w.heap.size w w'
theorem Try.infoStates:(Try.prog.info? 143).map (fun i=>(i.zero,i.size,i.bytes))=some (some (.slice none 0 0),1,24):=by kernel_rfl
theorem net_of_range {w:World}{nb:Nat}{vf vl:Value}{next:Nat→Int}(h:w.rangeAt nb 0 (netA vf vl next).toList)(hf:∀i,w.frozen? ⟨nb,i,none⟩=false):NetAt w nb vf vl next:=by
 have hc:∀k v,(netA vf vl next).toList[k]? =some v→w.cell? ⟨nb,k,none⟩=some v:=fun k v hk=>by have:=h k v hk;rw[Nat.zero_add]at this;exact this
 refine⟨hc 0 _ rfl,hc 1 _ rfl,fun k hk=> ?_,hf⟩
 have:k=0∨k=1∨k=2∨k=3∨k=4∨k=5∨k=6∨k=7∨k=8∨k=9:=by omega
 rcases this with rfl | rfl | rfl | rfl | rfl | rfl | rfl | rfl | rfl | rfl<;> exact hc _ _ rfl
theorem cntC_le (f:Nat→Bool):∀k c,cntC f k c≤max c k:=by
 intro k
 induction k with
 | zero=>intro c;rw[cntC];exact Nat.le_max_left _ _
 | succ j ih=>
  intro c
  have:=ih c
  rw[cntC]
  split<;> omega
theorem fileConds_le:∀(rules:List ((Nat→Bool)×Int×Int)) (c:Nat),c≤1000→(∀x∈rules,0≤x.2.1∧x.2.1≤1000)→fileConds rules c≤1000:=by
 intro rules
 induction rules with
 | nil=>intro c h _;exact h
 | cons x r ih=>
  intro c h hb
  rw[fileConds]
  refine ih _ ?_ (fun y hy=>hb y (List.mem_cons_of_mem _ hy))
  have h1:=cntC_le x.1 4 c
  have h2:=hb x List.mem_cons_self
  unfold cntR
  split<;> omega
structure ARo (W:World)(n0 nb rg rcap m ng ncap nn fg fcap pg:Nat)(vp vl:Value)(NXT:Nat→Int)(FI LA G:List Int)(GA:Array Value)(rules:List ((Nat→Bool)×Int×Int)):Prop where
 fl:W.rangeAt n0 0 [.slice (some ⟨rg,0,none⟩) m rcap,.slice (some ⟨ng,0,none⟩) nn ncap,vp]
 gr:W.rangeAt (n0+1) 0 GA.toList
 nr:W.rangeAt nb 0 (netA (.slice (some ⟨fg,0,none⟩) m fcap) vl NXT).toList
 nt:NetAt W nb (.slice (some ⟨fg,0,none⟩) m fcap) vl NXT
 fn:NIn W fg m (fun r=>FI.getD r 0)
 rl:Row1 W vl LA
 ru:RulesIn W rg rules
 gm:∀j a,G[j]? =some a→W.cell? ⟨pg,j,none⟩=some (.int .i64 a)
 b1:n0+1<nb
 b2:fg<nb
 b3:∀k,vl.ownBlock=some k→k<nb
 b4:rg<n0
 b5:pg<n0
theorem ARo.below {W W':World}{n0 nb rg rcap m ng ncap nn fg fcap pg B:Nat}{vp vl:Value}{NXT:Nat→Int}{FI LA G:List Int}{GA:Array Value}{rules:List ((Nat→Bool)×Int×Int)}
  (h:ARo W n0 nb rg rcap m ng ncap nn fg fcap pg vp vl NXT FI LA G GA rules) (hB:Below B W W') (hb:nb<B):ARo W' n0 nb rg rcap m ng ncap nn fg fcap pg vp vl NXT FI LA G GA rules:=by
 have b1:=h.b1
 have b2:=h.b2
 have b4:=h.b4
 have b5:=h.b5
 exact⟨rangeAt_block h.fl (hB.block _ (by omega)),rangeAt_block h.gr (hB.block _ (by omega)),rangeAt_block h.nr (hB.block _ hb),h.nt.below hB hb,h.fn.below hB (by omega),h.rl.below hB (fun k hk=>by have:=h.b3 k hk;omega),h.ru.below hB (by omega),
  fun j a hj=>(hB.cell (p:=⟨pg,j,none⟩) (show pg<B by omega)).trans (h.gm j a hj),b1,b2,h.b3,b4,b5⟩
def netN (nodes:List (Int×Int×Int)):Nat→Int:=(linkL nodes 0 (fun _=>part0) (fun _=>0)).2
def netF (nodes:List (Int×Int×Int))(rules:List ((Nat→Bool)×Int×Int)):List Int:=rules.map fun x=>((linkL nodes 0 (fun _=>part0) (fun _=>0)).1 x.2.2.toNat).1
def netL (nodes:List (Int×Int×Int))(rules:List ((Nat→Bool)×Int×Int)):List Int:=rules.map fun x=>((linkL nodes 0 (fun _=>part0) (fun _=>0)).1 x.2.2.toNat).2.1
def fileSt (nodes:List (Int×Int×Int))(rules:List ((Nat→Bool)×Int×Int))(G:List Int)(c:Nat):Option (List (Nat×List Int)):=
 condSt (netN nodes) (beginL (fun r=>(netF nodes rules).getD r 0) c rules 0 0) G (netL nodes rules)
set_option maxRecDepth 100000 in
set_option maxHeartbeats 1000000 in
theorem sall_any (nodes:List (Int×Int×Int))(rules:List ((Nat→Bool)×Int×Int))(ng ncap rg rcap pg pcap:Nat)(vp:Value)(G:List Int)(GA:Array Value)(w:World)
  (hn:nodes.length≤1000) (hok:nodesOk nodes) (hN:NodesIn w ng nodes) (hg:ng<w.heap.size) (hrn:rules.length≤1000) (hr0:0<rules.length) (hR:RulesIn w rg rules) (hrg:rg<w.heap.size) (hro:∀x∈rules,0≤x.2.2∧x.2.2<nodes.length) (hbe:∀x∈rules,0≤x.2.1∧x.2.1≤1000)
  (hGs:GA.size=257) (hGo:GA.all (·.oneCell')=true) (hGc:GA[256]? =some (.slice (some ⟨pg,0,none⟩) G.length pcap)) (hGl:G.length≤300) (hGm:∀j a,G[j]? =some a→w.cell? ⟨pg,j,none⟩=some (.int .i64 a)) (hpg:pg<w.heap.size):
  Calls Try.prog 43 #[.agg #[.slice (some ⟨rg,0,none⟩) rules.length rcap,.slice (some ⟨ng,0,none⟩) nodes.length ncap,vp],.agg GA] w fun e w'=>AllOut w G.length (allL (fileSt nodes rules G) (fileConds rules 1) 0 []) e w':=by
 obtain⟨i1,hi0,hz0,hz1,hz2⟩:=info_parts Try.infoStates
 have HI:Hid (Try.prog.info? 143=some i1∧i1.zero=some (.slice none 0 0)∧i1.size=1∧i1.bytes=24):=⟨hi0,hz0,hz1,hz2⟩
 clear hi0 hz0 hz1 hz2
 obtain⟨W0,hW0⟩:∃W,(w.alloc (.cells #[.slice (some ⟨rg,0,none⟩) rules.length rcap,.slice (some ⟨ng,0,none⟩) nodes.length ncap,vp] 84)).alloc (.cells GA 89)=W:=⟨_,rfl⟩
 have hz0:W0.heap.size=w.heap.size+1+1:=by rw[←hW0];simp
 have HB0:Hid (Below w.heap.size w W0):=by unfold Hid;rw[←hW0];exact((Below.refl _ _).alloc (Nat.le_refl _) _).alloc (by simp) _
 have HF0:Hid (W0.rangeAt w.heap.size 0 [.slice (some ⟨rg,0,none⟩) rules.length rcap,.slice (some ⟨ng,0,none⟩) nodes.length ncap,vp]):=by
  unfold Hid;rw[←hW0]
  exact rangeAt_block (rangeAt_new w #[.slice (some ⟨rg,0,none⟩) rules.length rcap,.slice (some ⟨ng,0,none⟩) nodes.length ncap,vp] 84) (Below.heap_alloc _ _ _ (by simp))
 have HG0:Hid (W0.rangeAt (w.heap.size+1) 0 GA.toList):=by
  unfold Hid;rw[←hW0]
  have:=rangeAt_new (w.alloc (.cells #[.slice (some ⟨rg,0,none⟩) rules.length rcap,.slice (some ⟨ng,0,none⟩) nodes.length ncap,vp] 84)) GA 89
  have e:(w.alloc (.cells #[.slice (some ⟨rg,0,none⟩) rules.length rcap,.slice (some ⟨ng,0,none⟩) nodes.length ncap,vp] 84)).heap.size=w.heap.size+1:=by simp
  rw[e]at this;exact this
 have hlk:=plink_any nodes rules ng ncap rg rcap vp W0 hn hok (hN.below HB0.out hg) (by omega) hrn (hR.below HB0.out hrg) (by omega) hro
 have HN:=hidZ hN
 have HR:=hidZ hR
 have HRO:=hidZ hro
 have HBE:=hidZ hbe
 have HGC:=hidZ hGc
 have HGM:=hidZ hGm
 have HGS:=hidZ hGs
 have HGO:=hidZ hGo
 clear hN hR hro hbe hGc hGm hGs hGo hok
 obtain⟨m,hm⟩:∃m,rules.length=m:=⟨_,rfl⟩
 obtain⟨nn,hnn⟩:∃m,nodes.length=m:=⟨_,rfl⟩
 obtain⟨K,hK⟩:∃m,G.length=m:=⟨_,rfl⟩
 rw[hm]at hrn hr0 HF0 hW0 hlk ⊢
 rw[hnn]at hn HF0 hW0 hlk ⊢
 rw[hK]at hGl HGC ⊢
 replace hm:=hidZ hm
 replace hnn:=hidZ hnn
 replace hK:=hidZ hK
 replace hW0:=hidZ hW0
 go_enter Try.func43,Try.ntmps43
 go_upto_region 1 with(first
  | (refine wpList_boxTo rfl 89 (.tmp 1) rfl _ rfl (w.heap.size+1) (by simp) GA rfl ?_))
 rw[hW0.out]
 go_wp2_with (first | (refine wpList_load_mid rfl 84 (.tmp 2) rfl w.heap.size 0 rfl [.slice (some ⟨rg,0,none⟩) m rcap,.slice (some ⟨ng,0,none⟩) nn ncap,vp] _ HF0.out Try.underlying84 rfl Try.fileSize ?_) | fail)
 refine hlk.mono ?_
 rintro e w1 ⟨vf,vl,rfl,hb1,hrf,hrl⟩
 have hrf':w1.ownsRow (W0.heap.size+4) 136 1 vf (netF nodes rules).length (intC (netF nodes rules)):=by unfold netF;rw[List.length_map];exact hrf
 have hrl':w1.ownsRow (W0.heap.size+4) 136 1 vl (netL nodes rules).length (intC (netL nodes rules)):=by unfold netL;rw[List.length_map];exact hrl
 have hFl:(netF nodes rules).length=m:=by unfold netF;rw[List.length_map,hm.out]
 have hLl:(netL nodes rules).length=m:=by unfold netL;rw[List.length_map,hm.out]
 have HNN:Hid ((linkL nodes 0 (fun _=>part0) (fun _=>0)).2=netN nodes):=rfl
 rw[HNN.out]
 obtain⟨CS,ECS⟩:∃f,fileSt nodes rules G=f:=⟨_,rfl⟩
 have HCS:Hid (∀c,CS c=condSt (netN nodes) (beginL (fun r=>(netF nodes rules).getD r 0) c rules 0 0) G (netL nodes rules)):=fun c=>by rw[←ECS];rfl
 replace ECS:=hidZ ECS
 generalize netN nodes=NXT at*
 generalize netF nodes rules=FI at*
 generalize netL nodes rules=LA at*
 obtain⟨fg,fcap,hvf,_,_⟩:=hrf'.form (by omega)
 subst hvf
 have HFN:Hid (NIn w1 fg m (fun r=>FI.getD r 0)):=fun i hi=>by
  have:=hrf'.cells rfl i (.int .i64 (FI.getD i 0)) (intC_get FI i _ (by rw[List.getD_eq_getElem?_getD,List.getElem?_eq_getElem (by omega)];rfl))
  rw[addr_add]at this;exact this
 have hfgz:=(hrf'.lt fg rfl).2
 have HRL:=hidZ (row1_of hrl')
 have HVL:Hid (∀k,vl.ownBlock=some k→k<w1.heap.size):=fun k hk=>(hrl'.lt k hk).2
 obtain⟨lga,lcap,hvl⟩:=rowSlice hrl'
 rw[hFl]
 clear hrf hrl hrf' hrl' hlk HNN
 have HF1:=hidZ (rangeAt_block HF0.out (hb1.block _ (by omega)))
 have HG1:=hidZ (rangeAt_block HG0.out (hb1.block _ (by omega)))
 have HB1:=hidZ (HB0.out.trans (hb1.mono (by omega)))
 have hz1:=hb1.size
 clear HF0 HG0 HB0 hb1
 obtain⟨NA,hNA⟩:∃a,netA (.slice (some ⟨fg,0,none⟩) m fcap) vl NXT=a:=⟨_,rfl⟩
 have HNS:Hid (NA.size=12∧NA.all (·.oneCell')=true):=by rw[←hNA];exact⟨rfl,by rw[hvl];simp[netA,Value.oneCell']⟩
 clear hvl
 rw[hNA]
 have HTN:=hidZ (there_newA w1 (netA (.slice none 0 0) (.slice none 0 0) (fun _=>0)) 141 w1.heap.size 12 rfl rfl)
 have HBN:Hid (Below w1.heap.size w1 ((w1.alloc (.cells (netA (.slice none 0 0) (.slice none 0 0) (fun _=>0)) 141)).setCells w1.heap.size 0 NA.toList)):=below_setCells _ 0 _ w1.heap.size ((Below.refl _ _).alloc (Nat.le_refl _) _) (Nat.le_refl _)
 have HRN:Hid (((w1.alloc (.cells (netA (.slice none 0 0) (.slice none 0 0) (fun _=>0)) 141)).setCells w1.heap.size 0 NA.toList).rangeAt w1.heap.size 0 NA.toList):=World.rangeAt_setCells_same _ _ _ _ (by rw[Array.length_toList,HNS.out.1];exact HTN.out)
 have HFZ:Hid (∀i,((w1.alloc (.cells (netA (.slice none 0 0) (.slice none 0 0) (fun _=>0)) 141)).setCells w1.heap.size 0 NA.toList).frozen? ⟨w1.heap.size,i,none⟩=false):=fun i=>by rw[frozen_setCells,World.frozen?_alloc_new]
 have HZN:Hid (w1.heap.size<((w1.alloc (.cells (netA (.slice none 0 0) (.slice none 0 0) (fun _=>0)) 141)).setCells w1.heap.size 0 NA.toList).heap.size):=by
  have:=(below_setCells NA.toList 0 (w1.alloc (.cells (netA (.slice none 0 0) (.slice none 0 0) (fun _=>0)) 141)) w1.heap.size (Below.refl 0 _) (Nat.zero_le _)).size
  unfold Hid;simp at this;omega
 unfold netA at HTN HBN HRN HFZ HZN
 go_upto_region 2 with(first
  | (refine wpList_store_mid rfl 141 (.tmp 6) (.tmp 15) rfl w1.heap.size 0 NA rfl rfl ?_ ?_ HNS.out.2 ?_;(rw[HNS.out.1];exact HTN.out);(rw[HNS.out.1];exact Try.netSize)))
 generalize hW2:(w1.alloc (.cells #[.slice none 0 0,.slice none 0 0,.int .i64 0,.int .i64 0,.int .i64 0,.int .i64 0,.int .i64 0,.int .i64 0,.int .i64 0,.int .i64 0,.int .i64 0,.int .i64 0] 141)).setCells w1.heap.size 0 NA.toList=W2 at*
 have HBW:Hid (Below w.heap.size w W2):=HB1.out.trans (HBN.out.mono (by omega))
 have HAR:Hid (ARo W2 w.heap.size w1.heap.size rg rcap m ng ncap nn fg fcap pg vp vl NXT FI LA G GA rules):=by
  refine⟨rangeAt_block HF1.out (HBN.out.block _ (by omega)),rangeAt_block HG1.out (HBN.out.block _ (by omega)),by rw[hNA];exact HRN.out,net_of_range (by rw[hNA];exact HRN.out) HFZ.out,HFN.out.below HBN.out hfgz,HRL.out.below HBN.out HVL.out,HR.out.below HBW.out hrg,fun j a hj=>(HBW.out.cell (p:=⟨pg,j,none⟩) hpg).trans (HGM.out j a hj),by omega,hfgz,HVL.out,hrg,hpg⟩
 have HSZ2:Hid (w1.heap.size<W2.heap.size):=HZN
 clear HF1 HG1 HRN HFZ HFN HRL HVL HGM HBN HTN HZN HB1 hW2
 obtain⟨nb,hnb⟩:∃n,w1.heap.size=n:=⟨_,rfl⟩
 rw[hnb]at HAR HSZ2 ⊢
 replace hNA:=hidZ hNA
 have hcn:=pconds_any rules rg rcap (.slice (some ⟨ng,0,none⟩) nn ncap) vp W2 (by rw[hm.out];exact hrn) HBE.out HAR.out.ru (by have:=HBW.out.size;omega)
 rw[hm.out]at hcn
 have hcl:=fileConds_le rules 1 (by omega) HBE.out
 obtain⟨CN,hCN⟩:∃c,fileConds rules 1=c:=⟨_,rfl⟩
 rw[hCN]at hcn hcl
 replace hCN:=hidZ hCN
 go_wp2_with (first | (refine wpList_load_mid rfl 84 (.tmp 2) rfl w.heap.size 0 rfl [.slice (some ⟨rg,0,none⟩) m rcap,.slice (some ⟨ng,0,none⟩) nn ncap,vp] _ HAR.out.fl Try.underlying84 rfl Try.fileSize ?_) | fail)
 refine hcn.mono ?_
 rintro e w3 ⟨rfl,hb3⟩
 have HAR3:=hidZ (HAR.out.below hb3 HSZ2.out)
 have HB3:=hidZ (HBW.out.trans (hb3.mono HBW.out.size))
 have hz3:nb<w3.heap.size:=by have:=hb3.size;have:=HSZ2.out;omega
 clear hb3 hcn HAR HBW HSZ2
 go_wp2_with (first | (at_make;refine wpList_make_own w3 rfl _ _ 73 rfl w3.heap.size 143 i1 (.slice none 0 0) 1 Try.underlying73 HI.out.1 HI.out.2.1 HI.out.2.2.1 .i64 .i64 _ CN rfl rfl rfl (by rw[HI.out.2.2.2];omega) (by unfold maxLen;omega) (Nat.le_refl _) ?_;intro w4 hown4 hg4))
 have hb4:Below w3.heap.size w3 w4:=⟨hg4.os,hg4.tape,hg4.output,hg4.size,fun k hk=>hg4.block k hk (by simp)⟩
 have HAR4:=hidZ (HAR3.out.below hb4 hz3)
 have HB4:=hidZ (HB3.out.trans (hb4.mono HB3.out.size))
 have HO4:=hidZ hown4
 have hzw:w.heap.size≤w3.heap.size:=HB3.out.size
 clear hown4 hg4 hb4 HAR3 HB3
 obtain⟨cg,hcg⟩:∃c,w3.heap.size=c:=⟨_,rfl⟩
 rw[hcg]at HO4 hz3 hzw ⊢
 obtain⟨AL,EAL⟩:∃a,allL CS CN 0 []=a:=⟨_,rfl⟩
 replace EAL:=hidZ EAL
 go_loopg [8,9] CN (fun gk cv iv wr=>∃(c:Nat) (acc:List (List (Nat×List Int))) (ys:List CondG),cv= .slice (some ⟨cg,0,none⟩) c CN∧iv= .int .i64 (c:Int)∧c+gk=CN∧ys.length=c∧ys.map (fun y=>y.2.map (·.1))=acc∧AL=allL CS gk c acc∧
  wr.ownsRow cg 143 1 (.slice (some ⟨cg,0,none⟩) c CN) c (condC ys)∧(∀y∈ys,CondIn wr K y∧∀k,ownG y k→cg<k)∧ARo wr w.heap.size nb rg rcap m ng ncap nn fg fcap pg vp vl NXT FI LA G GA rules∧Below w.heap.size w wr)
 case atStart=>exact⟨0,[],[],rfl,rfl,by omega,rfl,rfl,EAL.out.symm,HO4.out,fun y hy=>absurd hy (List.not_mem_nil),HAR4.out,HB4.out⟩
 case round=>
  obtain⟨c,acc,ys,rfl,rfl,hcg2,hyl,hacc,heq,hown,hcs,har,hb⟩:=hrel
  have HQ:=hidZ heq
  have HO:=hidZ hown
  have HCI:=hidZ hcs
  have HAR:=hidZ har
  have HB:=hidZ hb
  have HYL:=hidZ hyl
  have HACC:=hidZ hacc
  have hcz:cg<wr.heap.size:=(hown.lt cg rfl).2
  have hwz:=hb.size
  clear heq hown hcs har hb hyl hacc HO4 HAR4 HB4
  by_cases hlt:c<CN
  ·obtain⟨d,rfl⟩:∃d,gk=d+1:=⟨gk - 1,by omega⟩
   have hd1:decide ((c:Int)<(CN:Int))=true:=by simp;omega
   have hbg:=pbegin_any rules rg rcap nb fg fcap c (fun r=>FI.getD r 0) (.slice (some ⟨ng,0,none⟩) nn ncap) vp wr (by rw[hm.out];exact hrn) HAR.out.ru (by omega) (by omega) (by rw[hm.out];exact HAR.out.nt.c0) (by rw[hm.out];exact HAR.out.fn) (by have:=HAR.out.b2;omega)
   rw[hm.out]at hbg
   have HCC:=hidZ (HCS.out c)
   generalize beginL (fun r=>FI.getD r 0) c rules 0 0=BG at*
   go_wp2_with (first | (refine wpList_load_mid rfl 84 (.tmp 2) rfl w.heap.size 0 rfl [.slice (some ⟨rg,0,none⟩) m rcap,.slice (some ⟨ng,0,none⟩) nn ncap,vp] _ HAR.out.fl Try.underlying84 rfl Try.fileSize ?_) | fail)
   refine hbg.mono ?_
   rintro e w5 ⟨rfl,hb5⟩
   have HAR5:=hidZ (HAR.out.below hb5 (by omega))
   have hz5:=hb5.size
   have HB5:=hidZ hb5
   clear hb5 hbg
   have hGd:GA.toList.length=257:=by rw[Array.length_toList];exact HGS.out
   have hsp:=sspread_any (.slice (some ⟨fg,0,none⟩) m fcap) vl NXT LA G GA pg pcap BG w5 (by omega) HAR5.out.rl (fun k hk=>by have:=HAR5.out.b3 k hk;omega) (by rw[hK.out];exact HGC.out) (by rw[hK.out];exact hGl) HAR5.out.gm (by have:=HAR5.out.b5;omega)
   rw[hK.out]at hsp
   go_wp2_with (first
    | (refine wpList_load_mid rfl 141 (.tmp 6) rfl nb 0 rfl (netA (.slice (some ⟨fg,0,none⟩) m fcap) vl NXT).toList _ HAR5.out.nr Try.underlying141 rfl Try.netSize ?_)
    | (refine wpList_load_mid rfl 89 (.tmp 3) rfl (w.heap.size+1) 0 rfl GA.toList _ HAR5.out.gr Try.underlying89 rfl ?_ ?_;(rw[hGd];exact Try.grpSize))
    | fail)
   refine hsp.mono ?_
   rintro e w6 ⟨tg,tcap,zb,rfl,hb6,hS6⟩
   have hok2:=spreadP_ok NXT BG G
   have hsl:=sets_len hok2.1
   have HCC2:Hid (CS c=mergeP (spreadP NXT BG G).1.length (fun s=>tokP LA ((spreadP NXT BG G).1.getD s 0)) (fun s k=>((spreadP NXT BG G).2.getD s []).getD k 0) K):=by unfold Hid;rw[HCC.out,←hK.out];rfl
   have hmg:=smerge_any tg (spreadP NXT BG G).1.length tcap K zb _ _ w6 (by omega) hGl (fun i k hi hk=>raw_ok NXT BG G i k hi (by rw[hK.out];exact hk)) hS6
   rw[←HCC2.out]at hmg
   have HB6:=hidZ (HB5.out.trans (hb6.mono hz5))
   have hz6:=hb6.size
   clear hb6 hS6 hsp hok2 HCC HCC2 HAR5 HB5
   generalize (spreadP NXT BG G).1.length=rn at*
   go_wp2_with fail
   refine hmg.mono ?_
   intro e w7 hout
   have HQ2:Hid (AL=match CS c with
    | none=>none
    | some l=>allL CS d (c+1) (acc++ [l])):=HQ.out
   cases hcsc:CS c with
   | none=>
    rw[hcsc]at hout HQ2
    obtain⟨rfl,hb7⟩:=hout
    have HE:Hid (AL=none):=HQ2.out
    have HB7:=hidZ (HB.out.trans ((HB6.out.trans (hb7.mono (by omega))).mono hwz))
    clear hb7 hmg hcsc
    go_wp2
    go_ret2
    rw[ECS.out,hCN.out,EAL.out,HE.out]
    exact⟨rfl,HB7.out⟩
   | some l=>
    rw[hcsc]at hout HQ2
    obtain⟨v,⟨B,zs,hB6,hv,hzm,hzo,hzr,hb7⟩,rfl⟩:=hout
    cases hv
    have HE:Hid (AL=allL CS d (c+1) (acc++ [l])):=HQ2.out
    have HBW7:Hid (Below wr.heap.size wr w7):=HB6.out.trans (hb7.mono (by omega))
    have HY:Hid (CondIn w7 K (B,zs)∧∀k,ownG (B,zs) k→cg<k):=by
     refine⟨⟨(hzo.lt B rfl).2,fun i u hu=> ?_,fun z hz=>⟨(hzr z hz).2.1,(hzr z hz).2.2⟩⟩,fun k hk=> ?_⟩
     ·have:=hzo.cells rfl i u hu
      rw[addr_add]at this
      rw[Nat.zero_add];exact this
     ·rcases hk with rfl | ⟨z,hz,rfl⟩
      ·omega
      ·have:=(hzr z hz).1;omega
    have HZM:=hidZ hzm
    have HO7:=hidZ (row_stay HO.out HBW7.out)
    have HCI7:Hid (∀y∈ys,CondIn w7 K y∧∀k,ownG y k→cg<k):=fun y hy=>⟨(HCI.out y hy).1.below HBW7.out (Nat.le_refl _),(HCI.out y hy).2⟩
    have HAR7:=hidZ (HAR.out.below HBW7.out (by omega))
    have HB7:=hidZ (HB.out.trans (HBW7.out.mono hwz))
    have hz7:=HBW7.out.size
    clear hb7 hmg hcsc hzm hzo hzr HO HCI HAR HB
    go_wp2_with (first | (at_builtin;refine wpList_fits1 w7 rfl _ _ 73 rfl cg 143 (.slice none 0 0) 1 24 Try.underlying73 Try.infoStates cg c CN (condC ys) [.slice (some ⟨B,0,none⟩) zs.length zs.length] _ rfl HO7.out _ rfl rfl rfl (by simp[Value.oneCell']) (by omega) ?_;intro w8 hown8 hgrow8) | fail)
    go_roundg d
    case measure=>omega
    case rel=>
     have hg1:=World.grownBy_alloc w7 (.cells #[.slice (some ⟨B,0,none⟩) zs.length zs.length] 143) (some cg)
     have hg8:=grown_trans hg1 hgrow8
     have hmv:∀y:CondG,(CondIn w7 K y∧∀k,ownG y k→cg<k)→CondIn w8 K y∧∀k,ownG y k→cg<k:=fun y hy=>⟨hy.1.block hg8.size (fun k hk ho=>hg8.block k hk (fun e=>by injection e with e;have:=hy.2 k ho;omega)),hy.2⟩
     have hbb:Below cg w7 w8:=⟨hg8.os,hg8.tape,hg8.output,hg8.size,fun k hk=>hg8.block k (by omega) (fun e=>by injection e with e;omega)⟩
     refine⟨c+1,acc++ [l],ys++ [(B,zs)],rfl,by go_num,by omega,by simp[HYL.out], ?_,HE.out,by rw[condC_snoc];exact hown8,fun y hy=> ?_,HAR7.out.below hbb hz3,HB7.out.trans (hbb.mono hzw)⟩
     ·rw[List.map_append,HACC.out,List.map_singleton];simp only;rw[HZM.out]
     ·rcases List.mem_append.1 hy with h1 | h1
      ·exact hmv y (HCI7.out y h1)
      ·rw[List.mem_singleton]at h1;rw[h1];exact hmv _ HY.out
  ·have e:gk=0:=by omega
   subst e
   have HE:Hid (AL=some acc):=HQ.out
   have hd1:decide ((c:Int)<(CN:Int))=false:=by simp;omega
   go_wp2
   go_ret2
   rw[ECS.out,hCN.out,EAL.out,HE.out]
   have hal:acc.length=c:=by rw[←HACC.out,List.length_map,HYL.out]
   refine⟨cg,CN,by rw[hal];rfl,⟨ys,HACC.out,fun i u hu=> ?_,fun y hy=>(HCI.out y hy).1⟩,hcz,HB.out⟩
   have:=HO.out.cells rfl i u hu
   rw[addr_add]at this
   rw[Nat.zero_add];exact this
end Go.Proofs.Ytgjgjgihceijnaa

namespace Go.Stn
def runA (tr:Nat→Nat→Int):Nat→List Nat→Option Nat
 | p,[]=>some p
 | p,b::w=>if tr p b= -1 then none else runA tr (tr p b).toNat w
def obsA (mk:Nat→Nat)(tr:Nat→Nat→Int)(p:Nat)(w:List Nat):Nat:=match runA tr p w with
 | none=>0
 | some q=>mk q
def lets (L:Nat)(w:List Nat):Prop:=∀b∈w,b<L
theorem runA_app (tr:Nat→Nat→Int):∀(u v:List Nat) (p:Nat),runA tr p (u++v)=match runA tr p u with
  | none=>none
  | some q=>runA tr q v
 | [],v,p=>rfl
 | b::u,v,p=>by
  rw[List.cons_append,runA,runA]
  by_cases h:tr p b= -1
  ·rw[if_pos h,if_pos h]
  ·rw[if_neg h,if_neg h];exact runA_app tr u v _
theorem runA_snoc {tr:Nat→Nat→Int}{u:List Nat}{p q b:Nat}(h:runA tr p u=some q):runA tr p (u++ [b])=if tr q b= -1 then none else some (tr q b).toNat:=by
 rw[runA_app,h];rfl
theorem obsA_app {mk:Nat→Nat}{tr:Nat→Nat→Int}{u v:List Nat}{p q:Nat}(h:runA tr p u=some q):obsA mk tr p (u++v)=obsA mk tr q v:=by
 unfold obsA;rw[runA_app,h]
theorem obsA_cons {mk:Nat→Nat}{tr:Nat→Nat→Int}{v:List Nat}{p b:Nat}(h:tr p b≠ -1):obsA mk tr p (b::v)=obsA mk tr (tr p b).toNat v:=by
 unfold obsA;rw[runA,if_neg h]
theorem obsA_none {mk:Nat→Nat}{tr:Nat→Nat→Int}{v:List Nat}{p b:Nat}(h:tr p b= -1):obsA mk tr p (b::v)=0:=by
 unfold obsA;rw[runA,if_pos h]
theorem obsA_nil (mk:Nat→Nat)(tr:Nat→Nat→Int)(p:Nat):obsA mk tr p []=mk p:=rfl
theorem lets_app {L:Nat}{u v:List Nat}(h:lets L u)(k:lets L v):lets L (u++v):=fun b hb=>by
 rcases List.mem_append.1 hb with h1 | h1
 ·exact h b h1
 ·exact k b h1
theorem lets_one {L b:Nat}(h:b<L):lets L [b]:=fun c hc=>by rw[List.mem_singleton]at hc;rw[hc];exact h
theorem lets_cons {L b:Nat}{v:List Nat}(h:b<L)(k:lets L v):lets L (b::v):=fun c hc=>by
 rcases List.mem_cons.1 hc with h1 | h1
 ·rw[h1];exact h
 ·exact k c h1
theorem lets_nil (L:Nat):lets L []:=fun _ h=>absurd h List.not_mem_nil
structure Auto (n L:Nat)(tr:Nat→Nat→Int):Prop where
 pos:0<n
 rng:∀p b,p<n→b<L→tr p b= -1∨(0≤tr p b∧tr p b<(n:Int))
structure Order (n L:Nat)(tr:Nat→Nat→Int):Prop where
 d1:∀p b q:Nat,p<n→b<L→0<q→(q:Int)≤tr p b→∃p' b':Nat,b'<L∧(p'<p∨(p'=p∧b'≤b))∧tr p' b'=(q:Int)
 d2:∀q:Nat,0<q→q<n→∃p b:Nat,p<q∧b<L∧tr p b=(q:Int)
def Lively (n L:Nat)(mk:Nat→Nat)(tr:Nat→Nat→Int):Prop:=∀p b,p<n→b<L→tr p b≠ -1→∃z,lets L z∧obsA mk tr (tr p b).toNat z≠0
def Apart (n L:Nat)(mk:Nat→Nat)(tr:Nat→Nat→Int):Prop:=∀p q,p<n→q<n→p≠q→∃z,lets L z∧obsA mk tr p z≠obsA mk tr q z
structure Canon (n L:Nat)(mk:Nat→Nat)(tr:Nat→Nat→Int):Prop where
 au:Auto n L tr
 od:Order n L tr
 li:Lively n L mk tr
 ap:Apart n L mk tr
theorem runA_lt {n L:Nat}{tr:Nat→Nat→Int}(h:Auto n L tr):∀(w:List Nat) (p q:Nat),p<n→lets L w→runA tr p w=some q→q<n
 | [],p,q,hp,_,hr=>by rw[runA]at hr;injection hr with hr;omega
 | b::w,p,q,hp,hl,hr=>by
  rw[runA]at hr
  by_cases e:tr p b= -1
  ·rw[if_pos e]at hr;cases hr
  ·rw[if_neg e]at hr
   rcases h.rng p b hp (hl b List.mem_cons_self)with h1 | h1
   ·exact absurd h1 e
   ·exact runA_lt h w _ q (by omega) (fun c hc=>hl c (List.mem_cons_of_mem _ hc)) hr
def Pair (L:Nat)(t1 t2:Nat→Nat→Int)(p q:Nat):Prop:=∃u,lets L u∧runA t1 0 u=some p∧runA t2 0 u=some q
section
variable {n1 n2 L:Nat} {m1 m2:Nat→Nat} {t1 t2:Nat→Nat→Int}
theorem Pair.swap {p q:Nat}(h:Pair L t1 t2 p q):Pair L t2 t1 q p:=by obtain⟨u,h1,h2,h3⟩:=h;exact⟨u,h1,h3,h2⟩
theorem Pair.obs (hs:∀w,lets L w→obsA m1 t1 0 w=obsA m2 t2 0 w){p q:Nat}(h:Pair L t1 t2 p q)(z:List Nat)(hz:lets L z):obsA m1 t1 p z=obsA m2 t2 q z:=by
 obtain⟨u,h1,h2,h3⟩:=h
 rw[←obsA_app h2,←obsA_app h3]
 exact hs _ (lets_app h1 hz)
theorem Pair.right (hs:∀w,lets L w→obsA m1 t1 0 w=obsA m2 t2 0 w)(h2:Auto n2 L t2)(a2:Apart n2 L m2 t2){p q q':Nat}(h:Pair L t1 t2 p q)(k:Pair L t1 t2 p q'):q=q':=by
 by_cases e:q=q'
 ·exact e
 ·obtain⟨u,u1,u2,u3⟩:=h
  obtain⟨v,v1,v2,v3⟩:=k
  have hq:=runA_lt h2 u 0 q h2.pos u1 u3
  have hq':=runA_lt h2 v 0 q' h2.pos v1 v3
  obtain⟨z,hz,hne⟩:=a2 q q' hq hq' e
  exact absurd ((Pair.obs hs ⟨u,u1,u2,u3⟩ z hz).symm.trans (Pair.obs hs ⟨v,v1,v2,v3⟩ z hz)) hne
theorem Pair.left (hs:∀w,lets L w→obsA m1 t1 0 w=obsA m2 t2 0 w)(h1:Auto n1 L t1)(a1:Apart n1 L m1 t1){p p' q:Nat}(h:Pair L t1 t2 p q)(k:Pair L t1 t2 p' q):p=p':=
 Pair.right (fun w hw=>(hs w hw).symm) h1 a1 h.swap k.swap
theorem Pair.step (hs:∀w,lets L w→obsA m1 t1 0 w=obsA m2 t2 0 w)(h1:Auto n1 L t1)(l1:Lively n1 L m1 t1){p q b:Nat}(h:Pair L t1 t2 p q)(hb:b<L)(ht:t1 p b≠ -1):
  t2 q b≠ -1∧Pair L t1 t2 (t1 p b).toNat (t2 q b).toNat:=by
 obtain⟨u,u1,u2,u3⟩:=h
 have hp:=runA_lt h1 u 0 p h1.pos u1 u2
 obtain⟨z,hz,hne⟩:=l1 p b hp hb ht
 have hobs:=Pair.obs hs ⟨u,u1,u2,u3⟩ (b::z) (lets_cons hb hz)
 rw[obsA_cons ht]at hobs
 have h2:t2 q b≠ -1:=fun e=>by rw[obsA_none e]at hobs;exact hne hobs
 refine⟨h2,u++ [b],lets_app u1 (lets_one hb), ?_, ?_⟩
 ·rw[runA_snoc u2,if_neg ht]
 ·rw[runA_snoc u3,if_neg h2]
theorem lex_min (P:Nat→Nat→Prop):∀(p b:Nat),P p b→∃p' b',P p' b'∧(p'<p∨(p'=p∧b'≤b))∧∀x y,(x<p'∨(x=p'∧y<b'))→¬P x y:=by
 have hb:∀(q:Nat),(∀x y,x<q→¬P x y)→∀b,P q b→∃b',P q b'∧b'≤b∧∀y,y<b'→¬P q y:=by
  intro q _ b
  induction b using Nat.strongRecOn with
  | ind b ih=>
   intro h
   by_cases e:∃y,y<b∧P q y
   ·obtain⟨y,hy,hp⟩:=e
    obtain⟨b',h1,h2,h3⟩:=ih y hy hp
    exact⟨b',h1,by omega,h3⟩
   ·exact⟨b,h,Nat.le_refl _,fun y hy hp=>e ⟨y,hy,hp⟩⟩
 intro p
 induction p using Nat.strongRecOn with
 | ind p ih=>
  intro b h
  by_cases e:∃x y,x<p∧P x y
  ·obtain⟨x,y,hx,hp⟩:=e
   obtain⟨p',b',h1,h2,h3⟩:=ih x hx y hp
   exact⟨p',b',h1,.inl (by omega),h3⟩
  ·obtain⟨b',h1,h2,h3⟩:=hb p (fun x y hx hp=>e ⟨x,y,hx,hp⟩) b h
   refine⟨p,b',h1,.inr ⟨rfl,h2⟩,fun x y hxy hp=> ?_⟩
   rcases hxy with hx | ⟨rfl,hy⟩
   ·exact e ⟨x,y,hx,hp⟩
   ·exact h3 y hy hp
theorem pair_self (c1:Canon n1 L m1 t1)(c2:Canon n2 L m2 t2)(hs:∀w,lets L w→obsA m1 t1 0 w=obsA m2 t2 0 w):∀p,p<n1→Pair L t1 t2 p p:=by
 intro p
 induction p using Nat.strongRecOn with
 | ind p ih=>
  intro hp
  by_cases h0:p=0
  ·subst h0;exact⟨[],lets_nil L,rfl,rfl⟩
  ·obtain⟨x,y,hx,hy,hxy⟩:=c1.od.d2 p (by omega) hp
   obtain⟨p1,b,⟨hbL,hp1⟩,hle,hmin⟩:=lex_min (fun x y=>y<L∧t1 x y=(p:Int)) x y ⟨hy,hxy⟩
   have hp1p:p1<p:=by omega
   have r1:=ih p1 hp1p (by omega)
   have ht1:t1 p1 b≠ -1:=by rw[hp1];omega
   obtain⟨ht2,hpair⟩:=Pair.step hs c1.au c1.li r1 hbL ht1
   rw[hp1]at hpair
   simp only[Int.toNat_natCast]at hpair
   have hlt2:p1<n2:=by obtain⟨u,u1,u2,u3⟩:=r1;exact runA_lt c2.au u 0 p1 c2.au.pos u1 u3
   have hr2:=c2.au.rng p1 b hlt2 hbL
   generalize hq:(t2 p1 b).toNat=q at hpair
   have hqI:t2 p1 b=(q:Int):=by rcases hr2 with h | h<;> omega
   rcases Nat.lt_trichotomy q p with hqp | hqp | hqp
   ·have:=Pair.left hs c1.au c1.ap hpair (ih q hqp (by omega))
    omega
   ·subst hqp;exact hpair
   ·obtain⟨p2,b2,hb2,hle2,hp2⟩:=c2.od.d1 p1 b p hlt2 hbL (by omega) (by omega)
    have hne:¬(p2=p1∧b2=b):=by rintro⟨rfl,rfl⟩;omega
    have hp2p:p2<p:=by omega
    have r2:=ih p2 hp2p (by omega)
    have ht3:t2 p2 b2≠ -1:=by rw[hp2];omega
    obtain⟨ht4,hpair2⟩:=Pair.step (fun w hw=>(hs w hw).symm) c2.au c2.li r2.swap hb2 ht3
    rw[hp2]at hpair2
    simp only[Int.toNat_natCast]at hpair2
    have hr4:=c1.au.rng p2 b2 (by omega) hb2
    generalize hq3:(t1 p2 b2).toNat=p3 at hpair2
    have hqI3:t1 p2 b2=(p3:Int):=by rcases hr4 with h | h<;> omega
    rcases Nat.lt_trichotomy p3 p with h3 | h3 | h3
    ·have:=Pair.left (fun w hw=>(hs w hw).symm) c2.au c2.ap hpair2 (ih p3 h3 (by omega)).swap
     omega
    ·subst h3
     exact absurd ⟨hb2,hqI3⟩ (hmin p2 b2 (by omega))
    ·obtain⟨p4,b4,hb4,hle4,hp4⟩:=c1.od.d1 p2 b2 p (by omega) hb2 (by omega) (by omega)
     exact absurd ⟨hb4,hp4⟩ (hmin p4 b4 (by omega))
theorem canon_unique (c1:Canon n1 L m1 t1)(c2:Canon n2 L m2 t2)(hs:∀w,lets L w→obsA m1 t1 0 w=obsA m2 t2 0 w):
  n1=n2∧(∀p,p<n1→m1 p=m2 p)∧∀p b,p<n1→b<L→t1 p b=t2 p b:=by
 have h12:=pair_self c1 c2 hs
 have h21:=pair_self c2 c1 (fun w hw=>(hs w hw).symm)
 have hlt:∀p,p<n1→p<n2:=fun p hp=>by obtain⟨u,u1,_,u3⟩:=h12 p hp;exact runA_lt c2.au u 0 p c2.au.pos u1 u3
 have hgt:∀p,p<n2→p<n1:=fun p hp=>by obtain⟨u,u1,_,u3⟩:=h21 p hp;exact runA_lt c1.au u 0 p c1.au.pos u1 u3
 have hn:n1=n2:=by
  have:=c1.au.pos
  have:=c2.au.pos
  have a:=hlt (n1 - 1) (by omega)
  have b:=hgt (n2 - 1) (by omega)
  omega
 refine⟨hn,fun p hp=>Pair.obs hs (h12 p hp) [] (lets_nil L),fun p b hp hb=> ?_⟩
 by_cases e:t1 p b= -1
 ·by_cases e2:t2 p b= -1
  ·rw[e,e2]
  ·exact absurd e (Pair.step (fun w hw=>(hs w hw).symm) c2.au c2.li (h12 p hp).swap hb e2).1
 ·obtain⟨e2,hp2⟩:=Pair.step hs c1.au c1.li (h12 p hp) hb e
  have hr1:=c1.au.rng p b hp hb
  have hr2:=c2.au.rng p b (by omega) hb
  have:=Pair.right hs c2.au c2.ap hp2 (h12 (t1 p b).toNat (by rcases hr1 with h | h<;> omega))
  rcases hr1 with h | h<;> rcases hr2 with k | k<;> omega
end
end Go.Stn

