/- Texts put together: WrComp, WrFacts, XpFile. -/
import Derived.Test.YtgjgjgihceijnaaG20
import Derived.Test.YtgjgjgihceijnaaG18
namespace Go.Stn
open Go.RowKit
theorem flatMap_get {α:Type}{f:α→List Value}{m:Nat}(hm:∀x,(f x).length=m):∀(l:List α) (k i:Nat) (x:α),l[k]? =some x→i<m→(l.flatMap f)[k*m+i]? =(f x)[i]?
 | [],k,i,x,h,_=>by simp at h
 | a::l,0,i,x,h,hi=>by
  simp at h
  subst h
  rw[List.flatMap_cons,Nat.zero_mul,Nat.zero_add,List.getElem?_append_left (by rw[hm];exact hi)]
 | a::l,k+1,i,x,h,hi=>by
  rw[List.getElem?_cons_succ]at h
  rw[List.flatMap_cons,List.getElem?_append_right (by rw[hm,Nat.succ_mul];omega),hm]
  rw[show(k+1)*m+i - m=k*m+i by rw[Nat.succ_mul];omega]
  exact flatMap_get hm l k i x h hi
theorem range_part {α:Type}{f:α→List Value}{m:Nat}(hm:∀x,(f x).length=m){w:World}{g:Nat}{l:List α}(h:w.rangeAt g 0 (l.flatMap f)){k:Nat}{x:α}(hk:l[k]? =some x):w.rangeAt g (k*m) (f x):=fun i v hv=>by
 have hi:i<m:=by rw[←hm x];exact(List.getElem?_eq_some_iff.1 hv).1
 have:=h (k*m+i) v (by rw[flatMap_get hm l k i x hk hi];exact hv)
 rwa [Nat.zero_add]at this
theorem range_of_row {w:World}{base e size n g cap:Nat}{xs:List Value}(h:w.ownsRow base e size (.slice (some ⟨g,0,none⟩) n cap) n xs):w.rangeAt g 0 xs:=fun i v hv=>by
 have:=h.cells rfl i v hv
 rw[addr_add]at this
 rw[Nat.zero_add]
 exact this
structure FileOk (st:PSt):Prop where
 nn:st.nodes.length≤1000
 n0:0<st.nodes.length
 ok:nodesOk st.nodes
 r0:0<st.rules.length
 r1:st.rules.length≤255
 ro:∀x∈st.rules,0≤x.2.2∧x.2.2<st.nodes.length
 be:∀x∈st.rules,0≤x.2.1∧x.2.1≤255
 p0:0<st.places.length
 p1:st.places.length≤10
 g0:0<(grpP st.places).2.length
 g1:(grpP st.places).2.length≤256
 gl:∀x∈(grpP st.places).1,x<(grpP st.places).2.length
structure CondsOk (K:Nat)(ls:List (List (Nat×List Int))):Prop where
 l1:ls.length≤255
 s1:∀l∈ls,l.length≤255
 t1:∀l∈ls,∀z∈l,z.1≤255
 k1:∀l∈ls,∀z∈l,z.2.length=K
 x1:∀l∈ls,∀z∈l,∀y∈z.2,y= -1∨(0≤y∧y≤255)
theorem CondsOk.at {K:Nat}{ls:List (List (Nat×List Int))}(h:CondsOk K ls):(∀c,c<ls.length→nsF ls c≤255)∧(∀c s,c<ls.length→s<nsF ls c→tkF ls c s≤255)∧(∀c s k,c<ls.length→s<nsF ls c→k<K→nxF ls c s k= -1∨(0≤nxF ls c s k∧nxF ls c s k≤255)):=by
 have hc:∀c,c<ls.length→ls.getD c []∈ls:=fun c hc=>by rw[List.getD_eq_getElem?_getD,List.getElem?_eq_getElem hc];exact List.getElem_mem hc
 have hs:∀(l:List (Nat×List Int)) s,s<l.length→l.getD s (0,[])∈l:=fun l s hs=>by rw[List.getD_eq_getElem?_getD,List.getElem?_eq_getElem hs];exact List.getElem_mem hs
 refine⟨fun c h1=>h.s1 _ (hc c h1),fun c s h1 h2=>h.t1 _ (hc c h1) _ (hs _ s h2),fun c s k h1 h2 h3=>h.x1 _ (hc c h1) _ (hs _ s h2) _ ?_⟩
 have hl:=h.k1 _ (hc c h1) _ (hs _ s h2)
 have hr:∀r:List Int,r.length=K→r.getD k 0∈r:=fun r e=>by rw[List.getD_eq_getElem?_getD,List.getElem?_eq_getElem (by omega)];exact List.getElem_mem _
 exact hr _ hl
end Go.Stn
namespace Go.Proofs.Ytgjgjgihceijnaa
open Go.RowKit Go.Stn
def compP (t:ByteArray):List UInt8×Int:=
 if parseC t=0 then
  match allL (fileSt (parsedP t).nodes (parsedP t).rules (grpP (parsedP t).places).2) (fileConds (parsedP t).rules 1) 0 []with
  | none=>([],4)
  | some ls=>(wrL (parsedP t).rules ls.length (grpP (parsedP t).places).2.length (fun b=>(grpP (parsedP t).places).1.getD b 0) (nsF ls) (tkF ls) (nxF ls),0)
 else([],parseC t)
set_option maxRecDepth 100000 in
set_option maxHeartbeats 1000000 in
theorem pcomp_any (t:ByteArray)(w:World)(hF:parseC t=0→FileOk (parsedP t))
  (hA:parseC t=0→∀ls,allL (fileSt (parsedP t).nodes (parsedP t).rules (grpP (parsedP t).places).2) (fileConds (parsedP t).rules 1) 0 []=some ls→CondsOk (grpP (parsedP t).places).2.length ls):
  Calls Try.prog 17 #[.string t] w fun e w'=>e= .returned (.tuple #[.string ⟨(compP t).1.toArray⟩,.int .i64 (compP t).2])∧Below w.heap.size w w':=by
 have hp:=rparse_any t w
 have HF:=hidZ hF
 have HA:=hidZ hA
 clear hF hA
 go_enter Try.func17,Try.ntmps17
 go_wp2_with fail
 refine hp.mono ?_
 rintro e w1 ⟨hb1,vr,vn,vp,rfl,hfa,hfe⟩
 have HB1:=hidZ hb1
 have hz1:=hb1.size
 have HBA:Hid (∀o,Below w.heap.size w (w1.alloc o)):=fun o=>HB1.out.alloc hz1 o
 clear hb1 hp
 by_cases hz:parseC t=0
 ·clear hfe
  have HFA:=hidZ (hfa hz)
  have HFO:=hidZ (HF.out hz)
  have HA1:=hidZ (HA.out hz)
  clear hfa HF HA
  have HE:Hid (∀X,allL (fileSt (parsedP t).nodes (parsedP t).rules (grpP (parsedP t).places).2) (fileConds (parsedP t).rules 1) 0 []=X→compP t=match X with
   | none=>([],4)
   | some ls=>(wrL (parsedP t).rules ls.length (grpP (parsedP t).places).2.length (fun b=>(grpP (parsedP t).places).1.getD b 0) (nsF ls) (tkF ls) (nxF ls),0)):=fun X hX=>by
   rw[←hX];unfold compP;rw[if_pos hz]
  rw[hz]
  generalize parsedP t=st at*
  clear hz
  have hr0:=HFO.out.r0
  have hr1:=HFO.out.r1
  have hn0:=HFO.out.n0
  have hn1:=HFO.out.nn
  have hp0:=HFO.out.p0
  have hp1:=HFO.out.p1
  have hg0:=HFO.out.g0
  have hg1:=HFO.out.g1
  obtain⟨rg,rcap,hvr,_,_⟩:=HFA.out.rr.form (by omega)
  obtain⟨ng,ncap,hvn,_,_⟩:=HFA.out.rn.form (by omega)
  obtain⟨qg,qcap,hvp,_,_⟩:=HFA.out.rp.form (by omega)
  subst hvr hvn hvp
  have HR1:Hid (RulesIn w1 rg st.rules):=fun k x hk=>range_part (f:=ruleC) (m:=6) (fun _=>rfl) (range_of_row HFA.out.rr) hk
  have HN1:Hid (NodesIn w1 ng st.nodes):=fun k x hk=>range_part (f:=fun x=>[Value.int .i64 x.1,Value.int .i64 x.2.1,Value.int .i64 x.2.2]) (m:=3) (fun _=>rfl) (range_of_row HFA.out.rn) hk
  have HP1:Hid (PlacesIn w1 qg st.places):=fun k x hk=>range_part (f:=bitL) (m:=256) (fun f=>bitL_len f) (range_of_row HFA.out.rp) hk
  have hrz:=HFA.out.lr rg rfl
  have hnz:=HFA.out.ln ng rfl
  have hqz:=HFA.out.lp qg rfl
  clear HFA
  have HB2:=hidZ (HBA.out (.cells #[.slice (some ⟨rg,0,none⟩) st.rules.length rcap,.slice (some ⟨ng,0,none⟩) st.nodes.length ncap,.slice (some ⟨qg,0,none⟩) st.places.length qcap] 84))
  have HBb:Hid (Below w1.heap.size w1 (w1.alloc (.cells #[.slice (some ⟨rg,0,none⟩) st.rules.length rcap,.slice (some ⟨ng,0,none⟩) st.nodes.length ncap,.slice (some ⟨qg,0,none⟩) st.places.length qcap] 84))):=(Below.refl _ _).alloc (Nat.le_refl _) _
  have HF2:=hidZ (rangeAt_new w1 #[.slice (some ⟨rg,0,none⟩) st.rules.length rcap,.slice (some ⟨ng,0,none⟩) st.nodes.length ncap,.slice (some ⟨qg,0,none⟩) st.places.length qcap] 84)
  have hz2:(w1.alloc (.cells #[.slice (some ⟨rg,0,none⟩) st.rules.length rcap,.slice (some ⟨ng,0,none⟩) st.nodes.length ncap,.slice (some ⟨qg,0,none⟩) st.places.length qcap] 84)).heap.size=w1.heap.size+1:=by simp
  go_upto_region 4 with fail
  generalize w1.alloc (.cells #[.slice (some ⟨rg,0,none⟩) st.rules.length rcap,.slice (some ⟨ng,0,none⟩) st.nodes.length ncap,.slice (some ⟨qg,0,none⟩) st.places.length qcap] 84)=w2 at*
  have hgr:=pgroup_any st.places qg qcap (.slice (some ⟨rg,0,none⟩) st.rules.length rcap) (.slice (some ⟨ng,0,none⟩) st.nodes.length ncap) w2 hp1 (HP1.out.below HBb.out hqz) (by omega)
  have HZ2:=hidZ hz2
  clear hz2
  go_wp2_with (first | (refine wpList_load_mid rfl 84 (.tmp 4) rfl w1.heap.size 0 rfl [.slice (some ⟨rg,0,none⟩) st.rules.length rcap,.slice (some ⟨ng,0,none⟩) st.nodes.length ncap,.slice (some ⟨qg,0,none⟩) st.places.length qcap] _ HF2.out Try.underlying84 rfl Try.fileSize ?_))
  refine hgr.mono ?_
  rintro e w3 ⟨vpl,rfl,hgl,hrow,hb3⟩
  have HGL:=hidZ hgl
  have HGX:=hidZ HFO.out.gl
  have HOK:=hidZ HFO.out.ok
  have HRO:=hidZ HFO.out.ro
  have HBE:=hidZ HFO.out.be
  clear hgl hgr HFO
  generalize (grpP st.places).2=G at*
  generalize (grpP st.places).1=O at*
  obtain⟨pg,pcap,hvp,_,_⟩:=hrow.form (by omega)
  subst hvp
  have HGM:Hid (∀j a,G[j]? =some a→w3.cell? ⟨pg,j,none⟩=some (.int .i64 a)):=fun j a hj=>by
   have:=range_of_row hrow j _ (intC_get G j a hj);rwa [Nat.zero_add]at this
  have hpz:=(hrow.lt pg rfl).2
  have HF3:=hidZ (rangeAt_below HF2.out hb3 (by have:=HZ2.out;omega))
  have HR3:=hidZ ((HR1.out.below HBb.out hrz).below hb3 (by have:=HZ2.out;omega))
  have HN3:=hidZ ((HN1.out.below HBb.out hnz).below hb3 (by have:=HZ2.out;omega))
  have HB3:=hidZ (HB2.out.trans (bel_less hb3 HB2.out.size))
  have hz3:w1.heap.size<w3.heap.size:=by have:=hb3.size;have:=HZ2.out;omega
  clear hrow hb3 HR1 HN1 HP1 HB2 HBb HF2 HZ2 HBA HB1
  obtain⟨GL,hGL⟩:∃l,grpC O (.slice (some ⟨pg,0,none⟩) G.length pcap)=l:=⟨_,rfl⟩
  have HGS:Hid (GL.length=257):=by rw[←hGL];exact grpC_len _ _ HGL.out
  have HGO:Hid (∀v∈GL,v.oneCell'=true):=fun v hv=>by
   rw[←hGL]at hv
   unfold grpC natC at hv
   rcases List.mem_append.1 hv with h1 | h1
   ·rw[List.mem_map]at h1;obtain⟨y,_,rfl⟩:=h1;rfl
   ·rw[List.mem_singleton]at h1;rw[h1];rfl
  have HGC:Hid (GL[256]? =some (.slice (some ⟨pg,0,none⟩) G.length pcap)):=by rw[←hGL];exact grpC_256 _ _ HGL.out
  have HGT:Hid (GL=natC O++ [.slice (some ⟨pg,0,none⟩) G.length pcap]):=by rw[←hGL];rfl
  rw[hGL]
  clear hGL
  have HSZ:Hid (GL.toArray.size=257):=by unfold Hid;simpa using HGS.out
  have HT4:=hidZ (there_newA w3 Try.zeroCells89 89 w3.heap.size 257 Try.grpZeroSize rfl)
  have HB4:Hid (Below w3.heap.size w3 ((w3.alloc (.cells Try.zeroCells89 89)).setCells w3.heap.size 0 GL)):=below_setCells _ 0 _ w3.heap.size ((Below.refl _ _).alloc (Nat.le_refl _) _) (Nat.le_refl _)
  have HG4:Hid (((w3.alloc (.cells Try.zeroCells89 89)).setCells w3.heap.size 0 GL).rangeAt w3.heap.size 0 GL):=World.rangeAt_setCells_same _ _ _ _ (by rw[HGS.out];exact HT4.out)
  have HZ4:Hid (w3.heap.size<((w3.alloc (.cells Try.zeroCells89 89)).setCells w3.heap.size 0 GL).heap.size):=by
   have:=(below_setCells GL 0 (w3.alloc (.cells Try.zeroCells89 89)) w3.heap.size (Below.refl 0 _) (Nat.zero_le _)).size
   unfold Hid;simp at this;omega
  go_upto_region 5 with(first
   | (refine wpList_store_mid rfl 89 (.tmp 6) (.tmp 17) rfl w3.heap.size 0 GL.toArray rfl rfl ?_ ?_ (all_oneCell_toArray HGO.out) ?_;(rw[HSZ.out];exact HT4.out);(rw[HSZ.out];exact Try.grpSize)))
  generalize (w3.alloc (.cells Try.zeroCells89 89)).setCells w3.heap.size 0 GL=w4 at*
  have hz4:=HB4.out.size
  have HF4:=hidZ (rangeAt_below HF3.out HB4.out hz3)
  have HR4:=hidZ (HR3.out.below HB4.out (by omega))
  have HN4:=hidZ (HN3.out.below HB4.out (by omega))
  have HB5:=hidZ (HB3.out.trans (bel_less HB4.out HB3.out.size))
  have hal:=sall_any st.nodes st.rules ng ncap rg rcap pg pcap (.slice (some ⟨qg,0,none⟩) st.places.length qcap) G GL.toArray w4 hn1 HOK.out HN4.out (by omega) (by omega) hr0 HR4.out (by omega) HRO.out (fun x hx=>by have:=HBE.out x hx;omega)
   HSZ.out (all_oneCell_toArray HGO.out) (by rw[List.getElem?_toArray];exact HGC.out) (by omega) (fun j a hj=>(HB4.out.cell (p:=⟨pg,j,none⟩) hpz).trans (HGM.out j a hj)) (by omega)
  have HGA:Hid (GL.toArray.toList=GL):=by unfold Hid;simp
  clear HF3 HR3 HN3 HT4 HB3
  go_wp2_with (first
   | (refine wpList_load_mid rfl 84 (.tmp 4) rfl w1.heap.size 0 rfl [.slice (some ⟨rg,0,none⟩) st.rules.length rcap,.slice (some ⟨ng,0,none⟩) st.nodes.length ncap,.slice (some ⟨qg,0,none⟩) st.places.length qcap] _ HF4.out Try.underlying84 rfl Try.fileSize ?_)
   | (refine wpList_load_mid rfl 89 (.tmp 6) rfl w3.heap.size 0 rfl GL _ HG4.out Try.underlying89 rfl ?_ ?_;(rw[HGS.out];exact Try.grpSize)))
  refine hal.mono ?_
  intro e w5 ho
  cases hx:allL (fileSt st.nodes st.rules G) (fileConds st.rules 1) 0 []with
  | none=>
   rw[hx]at ho
   obtain⟨rfl,hb5⟩:=ho
   have HEE:=hidZ (HE.out _ hx)
   have HB6:=hidZ (HB5.out.trans (bel_less hb5 HB5.out.size))
   clear hx hb5 hal
   go_wp2
   go_ret2
   rw[HEE.out]
   exact⟨rfl,HB6.out⟩
  | some ls=>
   rw[hx]at ho
   obtain⟨cg,ccap,rfl,hcm,hcg,hb5⟩:=ho
   have HEE:=hidZ (HE.out _ hx)
   have HCO:=hidZ (HA1.out _ hx)
   have HB6:=hidZ (HB5.out.trans (bel_less hb5 HB5.out.size))
   have hz5:=hb5.size
   have HF5:=hidZ (rangeAt_below HF4.out hb5 (by omega))
   have HG5:=hidZ (rangeAt_below HG4.out hb5 HZ4.out)
   have HR5:=hidZ (HR4.out.below hb5 (by omega))
   obtain⟨yb,zb,hC⟩:=cm_of hcm hcg HCO.out.k1
   obtain⟨q1,q2,q3⟩:=HCO.out.at
   have hww:=wwrite_any st.rules rg rcap cg ls.length G.length ccap pg pcap (.slice (some ⟨ng,0,none⟩) st.nodes.length ncap) (.slice (some ⟨qg,0,none⟩) st.places.length qcap) GL.toArray (natC O).toArray (fun b=>O.getD b 0) yb zb (nsF ls) (tkF ls) (nxF ls) w5
    hr1 HR5.out (by omega) HBE.out HCO.out.l1 q1 hg0 hg1 hC q2 q3 (by simp[natC_len,HGL.out]) (fun b hb=>by rw[List.getElem?_toArray,natC_get _ _ (by rw[HGL.out];exact hb),List.getD_eq_getElem?_getD,List.getElem?_eq_getElem (by rw[HGL.out];exact hb)];rfl) (fun b hb=>getD_lt HGX.out (by rw[HGL.out];exact hb)) (by simpa using HGT.out)
   clear hx hb5 hal hC q1 q2 q3 hcm
   go_wp2_with (first
    | (refine wpList_load_mid rfl 84 (.tmp 4) rfl w1.heap.size 0 rfl [.slice (some ⟨rg,0,none⟩) st.rules.length rcap,.slice (some ⟨ng,0,none⟩) st.nodes.length ncap,.slice (some ⟨qg,0,none⟩) st.places.length qcap] _ HF5.out Try.underlying84 rfl Try.fileSize ?_)
    | (refine wpList_load_mid rfl 89 (.tmp 6) rfl w3.heap.size 0 rfl GL _ HG5.out Try.underlying89 rfl ?_ ?_;(rw[HGS.out];exact Try.grpSize)))
   refine hww.mono ?_
   rintro e w6 ⟨rfl,hb6⟩
   have HB7:=hidZ (HB6.out.trans (bel_less hb6 HB6.out.size))
   clear hb6 hww
   go_wp2
   go_ret2
   rw[HEE.out]
   exact⟨rfl,HB7.out⟩
 ·obtain⟨rfl,rfl,rfl⟩:=hfe hz
  have HE:Hid (compP t=([],parseC t)):=by unfold Hid compP;rw[if_neg hz]
  clear hfa hfe HA HF
  have hd:(parseC t !=0)=true:=by rw[bne_iff_ne];exact hz
  replace hz:=hidZ hz
  generalize parseC t=pc at*
  go_wp2
  go_ret2
  rw[HE.out]
  exact⟨rfl,HBA.out _⟩
end Go.Proofs.Ytgjgjgihceijnaa

namespace Go.Stn
theorem findP_most:∀(l:List Int) (x:Int),findP l x≤l.length
 | [],_=>Nat.le_refl _
 | a::r,x=>by
  unfold findP
  split
  ·exact Nat.zero_le _
  ·have:=findP_most r x
   simp;omega
theorem grpL_facts (al:Nat→Int):∀(d b:Nat) (ofs:List Nat) (P:List Int),P.length≤b→(0<b→0<P.length)→(∀x∈ofs,x<P.length)→
  (grpL al d b ofs P).2.length≤b+d∧(0<b+d→0<(grpL al d b ofs P).2.length)∧∀x∈(grpL al d b ofs P).1,x<(grpL al d b ofs P).2.length
 | 0,b,ofs,P,h1,h2,h3=>⟨h1,h2,h3⟩
 | d+1,b,ofs,P,h1,h2,h3=>by
  rw[grpL,show b+(d+1)=(b+1)+d by omega]
  have hm:=findP_most P (al b)
  by_cases hf:findP P (al b)=P.length
  ·rw[if_pos hf]
   refine grpL_facts al d (b+1) _ _ (by simp;omega) (fun _=>by simp) (fun x hx=> ?_)
   rw[List.length_append]
   rcases List.mem_append.1 hx with h | h
   ·have:=h3 x h;simp;omega
   ·rw[List.mem_singleton]at h;simp;omega
  ·rw[if_neg hf]
   refine grpL_facts al d (b+1) _ _ (by omega) (fun _=>by omega) (fun x hx=> ?_)
   rcases List.mem_append.1 hx with h | h
   ·exact h3 x h
   ·rw[List.mem_singleton]at h;omega
theorem grpP_facts (places:List (Nat→Bool)):0<(grpP places).2.length∧(grpP places).2.length≤256∧∀x∈(grpP places).1,x<(grpP places).2.length:=by
 obtain⟨h1,h2,h3⟩:=grpL_facts (alwP places) 256 0 [] [] (Nat.le_refl _) (fun h=>absurd h (Nat.lt_irrefl _)) (fun x hx=>absurd hx List.not_mem_nil)
 exact⟨h2 (by omega),by rw[Nat.zero_add]at h1;exact h1,h3⟩
end Go.Stn

namespace Go.Stn
abbrev RuleX:=(Nat→Bool)×Int×Rx
def letterX (t:ByteArray)(a:Nat):Option (Int×Nat):=if 65≤peekP t a∧peekP t a<69 then some (peekP t a - 65,a+1)else none
def behindX (t:ByteArray)(a:Nat):Option (Int×Nat):=
 if isB t 46 a=true then some (0,a+1)
 else if isB t 45 a=true then some (1,a+1)
 else match letterX t a with
  | none=>none
  | some (x,a1)=>some (x+2,a1)
def condsLoopX (t:ByteArray):Nat→(Nat→Bool)→Int→Nat→Option ((Nat→Bool)×Nat)
 | 0,_,_,_=>none
 | n+1,f,last,a=>match letterX t a with
  | none=>some (f,a)
  | some (x,a1)=>if x≤last then none else condsLoopX t n (set1 f x) x a1
def condsX (t:ByteArray)(a:Nat):Option ((Nat→Bool)×Nat):=match letterX t a with
 | none=>none
 | some (x,a1)=>condsLoopX t 5 (set1 zeroF x) x a1
def ruleX (t:ByteArray)(a:Nat):Option (RuleX×Nat):=match condsX t a with
 | none=>none
 | some (f,a1)=>if isB t 32 a1=false then none else match exprX t (t.size+1) (a1+1)with
  | none=>none
  | some (r,a2)=>if isB t 32 a2=false then none else match behindX t (a2+1)with
   | none=>none
   | some (b,a3)=>some ((f,b,r),a3)
def rulesLoopX (t:ByteArray):Nat→List RuleX→Nat→Option (List RuleX×Nat)
 | 0,_,_=>none
 | n+1,l,a=>if isB t 10 a=false then some (l,a)else match ruleX t (a+1)with
  | none=>none
  | some (x,a1)=>rulesLoopX t n (l++ [x]) a1
def rulesX (t:ByteArray):Option (List RuleX×Nat):=match ruleX t 0 with
 | none=>none
 | some (x,a)=>rulesLoopX t (t.size+1) [x] a
def fileX (t:ByteArray):Option (List RuleX):=match rulesX t with
 | none=>none
 | some (l,a)=>if a=t.size∧l.length≤8 then some l else none
def putRule (st:PSt)(x:RuleX)(a:Nat):PSt:=⟨a,st.rules++ [(x.1,x.2.1,((st.nodes.length+x.2.2.sz - 1:Nat):Int))],st.nodes++x.2.2.flat st.nodes.length st.places.length,st.places++x.2.2.fns⟩
def putRules:PSt→List RuleX→PSt
 | st,[]=>st
 | st,x::l=>putRules (putRule st x st.at_) l
theorem letter_sim (t:ByteArray)(st:PSt):SimI (letterP t st) st (letterX t st.at_):=by
 unfold letterP letterX
 split
 ·rfl
 ·rfl
theorem behind_sim (t:ByteArray)(st:PSt):SimI (behindP t st) st (behindX t st.at_):=by
 unfold behindP behindX
 simp only[nextB_is]
 by_cases h:isB t 46 st.at_=true
 ·rw[if_pos h,if_pos h];rfl
 ·rw[if_neg h,if_neg h]
  by_cases h2:isB t 45 st.at_=true
  ·rw[if_pos h2,if_pos h2];rfl
  ·rw[if_neg h2,if_neg h2]
   have hS:=letter_sim t st
   cases e:letterX t st.at_ with
   | none=>
    rw[e]at hS
    have hS:(letterP t st).2.1=false:=hS
    rw[if_neg (by rw[hS];decide)];rfl
   | some y=>
    obtain⟨x,a1⟩:=y
    rw[e]at hS
    have hS:letterP t st=(x,true,atS st a1):=hS
    rw[hS];rfl
theorem condsLoop_sim (t:ByteArray):∀(n:Nat) (f:Nat→Bool) (last:Int) (st:PSt),SimF (condsLoop t n f last st) st (condsLoopX t n f last st.at_):=by
 intro n
 induction n with
 | zero=>intro f last st;rfl
 | succ k ih=>
  intro f last st
  rw[condsLoop,condsLoopX]
  have hS:=letter_sim t st
  cases e:letterX t st.at_ with
  | none=>
   rw[e]at hS
   have hS2:(letterP t st).2.1=false:=hS
   rw[if_pos hS2]
   have hs:(letterP t st).2.2=st:=by
    unfold letterP at hS2 ⊢
    split at hS2
    ·cases hS2
    ·rename_i h;rw[if_neg h]
   rw[hs];rfl
  | some y=>
   obtain⟨x,a1⟩:=y
   rw[e]at hS
   have hS:letterP t st=(x,true,atS st a1):=hS
   rw[hS,if_neg (by simp)]
   simp only
   by_cases h:x≤last
   ·rw[if_pos h,if_pos h];rfl
   ·rw[if_neg h,if_neg h]
    have:=ih (set1 f x) x (atS st a1)
    rw[show(atS st a1).at_=a1 from rfl]at this
    cases e2:condsLoopX t k (set1 f x) x a1 with
    | none=>rw[e2]at this;exact this
    | some z=>rw[e2]at this;exact this
theorem conds_sim (t:ByteArray)(st:PSt):SimF (rcondsP t st) st (condsX t st.at_):=by
 unfold rcondsP condsX
 have hS:=letter_sim t st
 cases e:letterX t st.at_ with
 | none=>
  rw[e]at hS
  have hS:(letterP t st).2.1=false:=hS
  rw[if_pos hS];rfl
 | some y=>
  obtain⟨x,a1⟩:=y
  rw[e]at hS
  have hS:letterP t st=(x,true,atS st a1):=hS
  rw[hS,if_neg (by simp)]
  simp only
  have:=condsLoop_sim t 5 (set1 zeroF x) x (atS st a1)
  rw[show(atS st a1).at_=a1 from rfl]at this
  cases e2:condsLoopX t 5 (set1 zeroF x) x a1 with
  | none=>rw[e2]at this;exact this
  | some z=>rw[e2]at this;exact this
def SimU (p:Bool×PSt)(st:PSt):Option (RuleX×Nat)→Prop
 | none=>p.1=false
 | some (x,a)=>p=(true,putRule st x a)
theorem rule_sim (t:ByteArray)(st:PSt):SimU (ruleP t st) st (ruleX t st.at_):=by
 unfold ruleP ruleX
 have hS:=conds_sim t st
 cases e:condsX t st.at_ with
 | none=>
  rw[e]at hS
  have hS:(rcondsP t st).2.1=false:=hS
  rw[if_pos hS];rfl
 | some y=>
  obtain⟨f,a1⟩:=y
  rw[e]at hS
  have hS:rcondsP t st=(f,true,atS st a1):=hS
  rw[hS,if_neg (by simp)]
  simp only[nextB_is]
  rw[show(atS st a1).at_=a1 from rfl]
  by_cases h1:isB t 32 a1=false
  ·rw[if_pos h1,if_pos h1];rfl
  ·rw[if_neg h1,if_neg h1]
   unfold ruleMid
   have hE:=expr_sim t (t.size+1) (adv (atS st a1))
   rw[show(adv (atS st a1)).at_=a1+1 from rfl]at hE
   cases e2:exprX t (t.size+1) (a1+1)with
   | none=>
    rw[e2]at hE
    have hE:(exprP t (t.size+1) (adv (atS st a1))).2.1=false:=hE
    rw[if_pos hE];rfl
   | some z=>
    obtain⟨r,a2⟩:=z
    rw[e2]at hE
    have hE:exprP t (t.size+1) (adv (atS st a1))=(((st.nodes.length+r.sz - 1:Nat):Int),true,putR st r a2):=hE
    rw[hE,if_neg (by simp)]
    simp only[nextB_is]
    rw[show(putR st r a2).at_=a2 from rfl]
    by_cases h2:isB t 32 a2=false
    ·rw[if_pos h2,if_pos h2];rfl
    ·rw[if_neg h2,if_neg h2]
     unfold ruleEnd
     have hB:=behind_sim t (adv (putR st r a2))
     rw[show(adv (putR st r a2)).at_=a2+1 from rfl]at hB
     cases e3:behindX t (a2+1)with
     | none=>
      rw[e3]at hB
      have hB:(behindP t (adv (putR st r a2))).2.1=false:=hB
      rw[if_pos hB];rfl
     | some u=>
      obtain⟨b,a3⟩:=u
      rw[e3]at hB
      have hB:behindP t (adv (putR st r a2))=(b,true,atS (adv (putR st r a2)) a3):=hB
      rw[hB,if_neg (by simp)]
      rfl
theorem putRules_snoc:∀(l:List RuleX) (st:PSt) (x:RuleX) (a:Nat),atS (putRule (putRules st l) x a) 0=atS (putRules st (l++ [x])) 0
 | [],_,_,_=>rfl
 | y::l,st,x,a=>putRules_snoc l (putRule st y st.at_) x a
def SimL (p:Bool×PSt):Option (List RuleX×Nat)→Prop
 | none=>p.1=false
 | some (l,a)=>p.1=true∧p.2.at_=a∧atS p.2 0=atS (putRules st0 l) 0
theorem putRule_at (st st':PSt)(x:RuleX)(a:Nat)(h:atS st 0=atS st' 0):putRule st x a=putRule st' x a:=by
 unfold atS at h
 injection h with _ h1 h2 h3
 unfold putRule
 rw[h1,h2,h3]
theorem rulesLoop_sim (t:ByteArray):∀(n:Nat) (l:List RuleX) (st:PSt),atS st 0=atS (putRules st0 l) 0→SimL (rulesLoop t n true st) (rulesLoopX t n l st.at_):=by
 intro n
 induction n with
 | zero=>intro l st _;rfl
 | succ k ih=>
  intro l st h
  rw[rulesLoopX]
  by_cases h1:isB t 10 st.at_=false
  ·rw[if_pos h1,rulesLoop_done (by rw[nextB_is];exact h1)]
   exact⟨rfl,rfl,h⟩
  ·rw[if_neg h1,rulesLoop_more (by rw[nextB_is];simpa using h1)]
   have hS:=rule_sim t (adv st)
   rw[show(adv st).at_=st.at_+1 from rfl]at hS
   cases e:ruleX t (st.at_+1)with
   | none=>
    rw[e]at hS
    have hS:(ruleP t (adv st)).1=false:=hS
    rw[hS,rulesLoop_false];rfl
   | some y=>
    obtain⟨x,a1⟩:=y
    rw[e]at hS
    have hS:ruleP t (adv st)=(true,putRule (adv st) x a1):=hS
    rw[hS]
    have he:putRule (adv st) x a1=putRule (putRules st0 l) x a1:=putRule_at _ _ x a1 h
    rw[he]
    have:=ih (l++ [x]) (putRule (putRules st0 l) x a1) (putRules_snoc l st0 x a1)
    exact this
theorem rules_sim (t:ByteArray):SimL (rulesR t st0) (rulesX t):=by
 unfold rulesR rulesX
 have hS:=rule_sim t st0
 rw[show st0.at_=0 from rfl]at hS
 cases e:ruleX t 0 with
 | none=>
  rw[e]at hS
  have hS:(ruleP t st0).1=false:=hS
  rw[hS,rulesLoop_false];rfl
 | some y=>
  obtain⟨x,a1⟩:=y
  rw[e]at hS
  have hS:ruleP t st0=(true,putRule st0 x a1):=hS
  rw[hS]
  exact rulesLoop_sim t (t.size+1) [x] (putRule st0 x a1) rfl
theorem putRules_len:∀(l:List RuleX) (st:PSt),(putRules st l).rules.length=st.rules.length+l.length
 | [],st=>rfl
 | x::l,st=>by rw[putRules,putRules_len l];simp[putRule];omega
theorem parse_file (t:ByteArray):(120<t.size→parseC t=1)∧(t.size≤120→fileX t=none→parseC t=2)∧
  (t.size≤120→∀l,fileX t=some l→(10<(putRules st0 l).places.length→parseC t=3)∧((putRules st0 l).places.length≤10→parseC t=0∧atS (parsedP t) 0=atS (putRules st0 l) 0)):=by
 have hS:=rules_sim t
 unfold parseC parsedP fileX
 refine⟨fun h=>by rw[if_pos h],fun h hf=> ?_,fun h l hf=> ?_⟩
 ·rw[if_neg (by omega)]
  have:rulesB t (rulesR t st0)=false:=by
   unfold rulesB
   cases e:rulesX t with
   | none=>
    rw[e]at hS
    have hS:(rulesR t st0).1=false:=hS
    rw[hS];rfl
   | some y=>
    obtain⟨l,a⟩:=y
    rw[e]at hS hf
    obtain⟨h1,h2,h3⟩:=hS
    simp only at hf
    split at hf
    ·cases hf
    ·rename_i hno
     rw[h1,h2]
     have hr:(rulesR t st0).2.rules=(putRules st0 l).rules:=by have:=congrArg PSt.rules h3;exact this
     rw[hr,putRules_len]
     simp only[Bool.true_and,Bool.and_eq_false_iff,decide_eq_false_iff_not]
     have:st0.rules.length=0:=rfl
     omega
  rw[if_pos this]
 ·rw[if_neg (by omega)]
  cases e:rulesX t with
  | none=>rw[e]at hf;cases hf
  | some y=>
   obtain⟨l',a⟩:=y
   rw[e]at hS hf
   obtain⟨h1,h2,h3⟩:=hS
   simp only at hf
   split at hf
   ·rename_i hyes
    injection hf with hf
    subst hf
    have hr:(rulesR t st0).2.rules=(putRules st0 l').rules:=by have:=congrArg PSt.rules h3;exact this
    have hp:(rulesR t st0).2.places=(putRules st0 l').places:=by have:=congrArg PSt.places h3;exact this
    have hb:rulesB t (rulesR t st0)=true:=by
     unfold rulesB
     rw[h1,h2,hr,putRules_len,hyes.1]
     have:st0.rules.length=0:=rfl
     simp
     omega
    rw[if_neg (by rw[hb];decide),hp]
    exact⟨fun h=>by rw[if_pos h],fun h=>⟨by rw[if_neg (by omega)],h3⟩⟩
   ·cases hf
end Go.Stn

