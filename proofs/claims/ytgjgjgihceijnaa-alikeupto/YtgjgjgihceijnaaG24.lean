/- Texts put together: WrComp, KpTab, KpWhole. -/
import Derived.Test.YtgjgjgihceijnaaG23
import Derived.Test.YtgjgjgihceijnaaG06
import Derived.Test.YtgjgjgihceijnaaG04
import Derived.Test.YtgjgjgihceijnaaG01
import Derived.Test.YtgjgjgihceijnaaG02
/- stencil.Compile: a walk, from plain facts about the twins. -/
namespace Go.Stn
open Go.RowKit
theorem flatMap_get {α : Type} {f : α → List Value} {m : Nat} (hm : ∀ x, (f x).length = m) : ∀ (l : List α) (k i : Nat) (x : α), l[k]? = some x → i < m → (l.flatMap f)[k * m + i]? = (f x)[i]?
  | [], k, i, x, h, _ => by simp at h
  | a :: l, 0, i, x, h, hi => by
    simp at h
    subst h
    rw [List.flatMap_cons, Nat.zero_mul, Nat.zero_add, List.getElem?_append_left (by rw [hm]; exact hi)]
  | a :: l, k + 1, i, x, h, hi => by
    rw [List.getElem?_cons_succ] at h
    rw [List.flatMap_cons, List.getElem?_append_right (by rw [hm, Nat.succ_mul]; omega), hm]
    rw [show (k + 1) * m + i - m = k * m + i by rw [Nat.succ_mul]; omega]
    exact flatMap_get hm l k i x h hi
theorem range_part {α : Type} {f : α → List Value} {m : Nat} (hm : ∀ x, (f x).length = m) {w : World} {g : Nat} {l : List α} (h : w.rangeAt g 0 (l.flatMap f)) {k : Nat} {x : α} (hk : l[k]? = some x) : w.rangeAt g (k * m) (f x) := fun i v hv => by
  have hi : i < m := by rw [← hm x]; exact (List.getElem?_eq_some_iff.1 hv).1
  have := h (k * m + i) v (by rw [flatMap_get hm l k i x hk hi]; exact hv)
  rwa [Nat.zero_add] at this
theorem range_of_row {w : World} {base e size n g cap : Nat} {xs : List Value} (h : w.ownsRow base e size (.slice (some ⟨g, 0, none⟩) n cap) n xs) : w.rangeAt g 0 xs := fun i v hv => by
  have := h.cells rfl i v hv
  rw [addr_add] at this
  rw [Nat.zero_add]
  exact this

/-- What a file that was read keeps to. -/
structure FileOk (st : PSt) : Prop where
  nn : st.nodes.length ≤ 1000
  n0 : 0 < st.nodes.length
  ok : nodesOk st.nodes
  r0 : 0 < st.rules.length
  r1 : st.rules.length ≤ 255
  ro : ∀ x ∈ st.rules, 0 ≤ x.2.2 ∧ x.2.2 < st.nodes.length
  be : ∀ x ∈ st.rules, 0 ≤ x.2.1 ∧ x.2.1 ≤ 255
  p0 : 0 < st.places.length
  p1 : st.places.length ≤ 10
  g0 : 0 < (grpP st.places).2.length
  g1 : (grpP st.places).2.length ≤ 256
  gl : ∀ x ∈ (grpP st.places).1, x < (grpP st.places).2.length
/-- What the conditions of a file keep to. -/
structure CondsOk (K : Nat) (ls : List (List (Nat × List Int))) : Prop where
  l1 : ls.length ≤ 255
  s1 : ∀ l ∈ ls, l.length ≤ 255
  t1 : ∀ l ∈ ls, ∀ z ∈ l, z.1 ≤ 255
  k1 : ∀ l ∈ ls, ∀ z ∈ l, z.2.length = K
  x1 : ∀ l ∈ ls, ∀ z ∈ l, ∀ y ∈ z.2, y = -1 ∨ (0 ≤ y ∧ y ≤ 255)
theorem CondsOk.at {K : Nat} {ls : List (List (Nat × List Int))} (h : CondsOk K ls) : (∀ c, c < ls.length → nsF ls c ≤ 255) ∧ (∀ c s, c < ls.length → s < nsF ls c → tkF ls c s ≤ 255) ∧ (∀ c s k, c < ls.length → s < nsF ls c → k < K → nxF ls c s k = -1 ∨ (0 ≤ nxF ls c s k ∧ nxF ls c s k ≤ 255)) := by
  have hc : ∀ c, c < ls.length → ls.getD c [] ∈ ls := fun c hc => by rw [List.getD_eq_getElem?_getD, List.getElem?_eq_getElem hc]; exact List.getElem_mem hc
  have hs : ∀ (l : List (Nat × List Int)) s, s < l.length → l.getD s (0, []) ∈ l := fun l s hs => by rw [List.getD_eq_getElem?_getD, List.getElem?_eq_getElem hs]; exact List.getElem_mem hs
  refine ⟨fun c h1 => h.s1 _ (hc c h1), fun c s h1 h2 => h.t1 _ (hc c h1) _ (hs _ s h2), fun c s k h1 h2 h3 => h.x1 _ (hc c h1) _ (hs _ s h2) _ ?_⟩
  have hl := h.k1 _ (hc c h1) _ (hs _ s h2)
  have hr : ∀ r : List Int, r.length = K → r.getD k 0 ∈ r := fun r e => by rw [List.getD_eq_getElem?_getD, List.getElem?_eq_getElem (by omega)]; exact List.getElem_mem _
  exact hr _ hl
end Go.Stn
namespace Go.Proofs.Ytgjgjgihceijnaa
open Go.RowKit Go.Stn

/-- What Compile comes to: the text and the word. -/
def compP (t : ByteArray) : List UInt8 × Int :=
  if parseC t = 0 then
    match allL (fileSt (parsedP t).nodes (parsedP t).rules (grpP (parsedP t).places).2) (fileConds (parsedP t).rules 1) 0 [] with
    | none => ([], 4)
    | some ls => (wrL (parsedP t).rules ls.length (grpP (parsedP t).places).2.length (fun b => (grpP (parsedP t).places).1.getD b 0) (nsF ls) (tkF ls) (nxF ls), 0)
  else ([], parseC t)

set_option maxRecDepth 100000 in
set_option maxHeartbeats 1000000 in
theorem pcomp_any (t : ByteArray) (w : World) (hF : parseC t = 0 → FileOk (parsedP t))
    (hA : parseC t = 0 → ∀ ls, allL (fileSt (parsedP t).nodes (parsedP t).rules (grpP (parsedP t).places).2) (fileConds (parsedP t).rules 1) 0 [] = some ls → CondsOk (grpP (parsedP t).places).2.length ls) :
    Calls Try.prog 17 #[.string t] w fun e w' => e = .returned (.tuple #[.string ⟨(compP t).1.toArray⟩, .int .i64 (compP t).2]) ∧ Below w.heap.size w w' := by
  have hp := rparse_any t w
  have HF := hidZ hF
  have HA := hidZ hA
  clear hF hA
  go_enter Try.func17, Try.ntmps17
  go_wp2_with fail
  refine hp.mono ?_
  rintro e w1 ⟨hb1, vr, vn, vp, rfl, hfa, hfe⟩
  have HB1 := hidZ hb1
  have hz1 := hb1.size
  have HBA : Hid (∀ o, Below w.heap.size w (w1.alloc o)) := fun o => HB1.out.alloc hz1 o
  clear hb1 hp
  by_cases hz : parseC t = 0
  · clear hfe
    have HFA := hidZ (hfa hz)
    have HFO := hidZ (HF.out hz)
    have HA1 := hidZ (HA.out hz)
    clear hfa HF HA
    have HE : Hid (∀ X, allL (fileSt (parsedP t).nodes (parsedP t).rules (grpP (parsedP t).places).2) (fileConds (parsedP t).rules 1) 0 [] = X → compP t = match X with
      | none => ([], 4)
      | some ls => (wrL (parsedP t).rules ls.length (grpP (parsedP t).places).2.length (fun b => (grpP (parsedP t).places).1.getD b 0) (nsF ls) (tkF ls) (nxF ls), 0)) := fun X hX => by
      rw [← hX]; unfold compP; rw [if_pos hz]
    rw [hz]
    generalize parsedP t = st at *
    clear hz
    have hr0 := HFO.out.r0
    have hr1 := HFO.out.r1
    have hn0 := HFO.out.n0
    have hn1 := HFO.out.nn
    have hp0 := HFO.out.p0
    have hp1 := HFO.out.p1
    have hg0 := HFO.out.g0
    have hg1 := HFO.out.g1
    obtain ⟨rg, rcap, hvr, _, _⟩ := HFA.out.rr.form (by omega)
    obtain ⟨ng, ncap, hvn, _, _⟩ := HFA.out.rn.form (by omega)
    obtain ⟨qg, qcap, hvp, _, _⟩ := HFA.out.rp.form (by omega)
    subst hvr hvn hvp
    have HR1 : Hid (RulesIn w1 rg st.rules) := fun k x hk => range_part (f := ruleC) (m := 6) (fun _ => rfl) (range_of_row HFA.out.rr) hk
    have HN1 : Hid (NodesIn w1 ng st.nodes) := fun k x hk => range_part (f := fun x => [Value.int .i64 x.1, Value.int .i64 x.2.1, Value.int .i64 x.2.2]) (m := 3) (fun _ => rfl) (range_of_row HFA.out.rn) hk
    have HP1 : Hid (PlacesIn w1 qg st.places) := fun k x hk => range_part (f := bitL) (m := 256) (fun f => bitL_len f) (range_of_row HFA.out.rp) hk
    have hrz := HFA.out.lr rg rfl
    have hnz := HFA.out.ln ng rfl
    have hqz := HFA.out.lp qg rfl
    clear HFA
    have HB2 := hidZ (HBA.out (.cells #[.slice (some ⟨rg, 0, none⟩) st.rules.length rcap, .slice (some ⟨ng, 0, none⟩) st.nodes.length ncap, .slice (some ⟨qg, 0, none⟩) st.places.length qcap] 84))
    have HBb : Hid (Below w1.heap.size w1 (w1.alloc (.cells #[.slice (some ⟨rg, 0, none⟩) st.rules.length rcap, .slice (some ⟨ng, 0, none⟩) st.nodes.length ncap, .slice (some ⟨qg, 0, none⟩) st.places.length qcap] 84))) := (Below.refl _ _).alloc (Nat.le_refl _) _
    have HF2 := hidZ (rangeAt_new w1 #[.slice (some ⟨rg, 0, none⟩) st.rules.length rcap, .slice (some ⟨ng, 0, none⟩) st.nodes.length ncap, .slice (some ⟨qg, 0, none⟩) st.places.length qcap] 84)
    have hz2 : (w1.alloc (.cells #[.slice (some ⟨rg, 0, none⟩) st.rules.length rcap, .slice (some ⟨ng, 0, none⟩) st.nodes.length ncap, .slice (some ⟨qg, 0, none⟩) st.places.length qcap] 84)).heap.size = w1.heap.size + 1 := by simp
    go_upto_region 4 with fail
    generalize w1.alloc (.cells #[.slice (some ⟨rg, 0, none⟩) st.rules.length rcap, .slice (some ⟨ng, 0, none⟩) st.nodes.length ncap, .slice (some ⟨qg, 0, none⟩) st.places.length qcap] 84) = w2 at *
    have hgr := pgroup_any st.places qg qcap (.slice (some ⟨rg, 0, none⟩) st.rules.length rcap) (.slice (some ⟨ng, 0, none⟩) st.nodes.length ncap) w2 hp1 (HP1.out.below HBb.out hqz) (by omega)
    have HZ2 := hidZ hz2
    clear hz2
    go_wp2_with (first | (refine wpList_load_mid rfl 84 (.tmp 4) rfl w1.heap.size 0 rfl [.slice (some ⟨rg, 0, none⟩) st.rules.length rcap, .slice (some ⟨ng, 0, none⟩) st.nodes.length ncap, .slice (some ⟨qg, 0, none⟩) st.places.length qcap] _ HF2.out Try.underlying84 rfl Try.fileSize ?_))
    refine hgr.mono ?_
    rintro e w3 ⟨vpl, rfl, hgl, hrow, hb3⟩
    have HGL := hidZ hgl
    have HGX := hidZ HFO.out.gl
    have HOK := hidZ HFO.out.ok
    have HRO := hidZ HFO.out.ro
    have HBE := hidZ HFO.out.be
    clear hgl hgr HFO
    generalize (grpP st.places).2 = G at *
    generalize (grpP st.places).1 = O at *
    obtain ⟨pg, pcap, hvp, _, _⟩ := hrow.form (by omega)
    subst hvp
    have HGM : Hid (∀ j a, G[j]? = some a → w3.cell? ⟨pg, j, none⟩ = some (.int .i64 a)) := fun j a hj => by
      have := range_of_row hrow j _ (intC_get G j a hj); rwa [Nat.zero_add] at this
    have hpz := (hrow.lt pg rfl).2
    have HF3 := hidZ (rangeAt_below HF2.out hb3 (by have := HZ2.out; omega))
    have HR3 := hidZ ((HR1.out.below HBb.out hrz).below hb3 (by have := HZ2.out; omega))
    have HN3 := hidZ ((HN1.out.below HBb.out hnz).below hb3 (by have := HZ2.out; omega))
    have HB3 := hidZ (HB2.out.trans (bel_less hb3 HB2.out.size))
    have hz3 : w1.heap.size < w3.heap.size := by have := hb3.size; have := HZ2.out; omega
    clear hrow hb3 HR1 HN1 HP1 HB2 HBb HF2 HZ2 HBA HB1
    obtain ⟨GL, hGL⟩ : ∃ l, grpC O (.slice (some ⟨pg, 0, none⟩) G.length pcap) = l := ⟨_, rfl⟩
    have HGS : Hid (GL.length = 257) := by rw [← hGL]; exact grpC_len _ _ HGL.out
    have HGO : Hid (∀ v ∈ GL, v.oneCell' = true) := fun v hv => by
      rw [← hGL] at hv
      unfold grpC natC at hv
      rcases List.mem_append.1 hv with h1 | h1
      · rw [List.mem_map] at h1; obtain ⟨y, _, rfl⟩ := h1; rfl
      · rw [List.mem_singleton] at h1; rw [h1]; rfl
    have HGC : Hid (GL[256]? = some (.slice (some ⟨pg, 0, none⟩) G.length pcap)) := by rw [← hGL]; exact grpC_256 _ _ HGL.out
    have HGT : Hid (GL = natC O ++ [.slice (some ⟨pg, 0, none⟩) G.length pcap]) := by rw [← hGL]; rfl
    rw [hGL]
    clear hGL
    have HSZ : Hid (GL.toArray.size = 257) := by unfold Hid; simpa using HGS.out
    have HT4 := hidZ (there_newA w3 Try.zeroCells89 89 w3.heap.size 257 Try.grpZeroSize rfl)
    have HB4 : Hid (Below w3.heap.size w3 ((w3.alloc (.cells Try.zeroCells89 89)).setCells w3.heap.size 0 GL)) := below_setCells _ 0 _ w3.heap.size ((Below.refl _ _).alloc (Nat.le_refl _) _) (Nat.le_refl _)
    have HG4 : Hid (((w3.alloc (.cells Try.zeroCells89 89)).setCells w3.heap.size 0 GL).rangeAt w3.heap.size 0 GL) := World.rangeAt_setCells_same _ _ _ _ (by rw [HGS.out]; exact HT4.out)
    have HZ4 : Hid (w3.heap.size < ((w3.alloc (.cells Try.zeroCells89 89)).setCells w3.heap.size 0 GL).heap.size) := by
      have := (below_setCells GL 0 (w3.alloc (.cells Try.zeroCells89 89)) w3.heap.size (Below.refl 0 _) (Nat.zero_le _)).size
      unfold Hid; simp at this; omega
    go_upto_region 5 with (first
      | (refine wpList_store_mid rfl 89 (.tmp 6) (.tmp 17) rfl w3.heap.size 0 GL.toArray rfl rfl ?_ ?_ (all_oneCell_toArray HGO.out) ?_; (rw [HSZ.out]; exact HT4.out); (rw [HSZ.out]; exact Try.grpSize)))
    generalize (w3.alloc (.cells Try.zeroCells89 89)).setCells w3.heap.size 0 GL = w4 at *
    have hz4 := HB4.out.size
    have HF4 := hidZ (rangeAt_below HF3.out HB4.out hz3)
    have HR4 := hidZ (HR3.out.below HB4.out (by omega))
    have HN4 := hidZ (HN3.out.below HB4.out (by omega))
    have HB5 := hidZ (HB3.out.trans (bel_less HB4.out HB3.out.size))
    have hal := sall_any st.nodes st.rules ng ncap rg rcap pg pcap (.slice (some ⟨qg, 0, none⟩) st.places.length qcap) G GL.toArray w4 hn1 HOK.out HN4.out (by omega) (by omega) hr0 HR4.out (by omega) HRO.out (fun x hx => by have := HBE.out x hx; omega)
      HSZ.out (all_oneCell_toArray HGO.out) (by rw [List.getElem?_toArray]; exact HGC.out) (by omega) (fun j a hj => (HB4.out.cell (p := ⟨pg, j, none⟩) hpz).trans (HGM.out j a hj)) (by omega)
    have HGA : Hid (GL.toArray.toList = GL) := by unfold Hid; simp
    clear HF3 HR3 HN3 HT4 HB3
    go_wp2_with (first
      | (refine wpList_load_mid rfl 84 (.tmp 4) rfl w1.heap.size 0 rfl [.slice (some ⟨rg, 0, none⟩) st.rules.length rcap, .slice (some ⟨ng, 0, none⟩) st.nodes.length ncap, .slice (some ⟨qg, 0, none⟩) st.places.length qcap] _ HF4.out Try.underlying84 rfl Try.fileSize ?_)
      | (refine wpList_load_mid rfl 89 (.tmp 6) rfl w3.heap.size 0 rfl GL _ HG4.out Try.underlying89 rfl ?_ ?_; (rw [HGS.out]; exact Try.grpSize)))
    refine hal.mono ?_
    intro e w5 ho
    cases hx : allL (fileSt st.nodes st.rules G) (fileConds st.rules 1) 0 [] with
    | none =>
      rw [hx] at ho
      obtain ⟨rfl, hb5⟩ := ho
      have HEE := hidZ (HE.out _ hx)
      have HB6 := hidZ (HB5.out.trans (bel_less hb5 HB5.out.size))
      clear hx hb5 hal
      go_wp2
      go_ret2
      rw [HEE.out]
      exact ⟨rfl, HB6.out⟩
    | some ls =>
      rw [hx] at ho
      obtain ⟨cg, ccap, rfl, hcm, hcg, hb5⟩ := ho
      have HEE := hidZ (HE.out _ hx)
      have HCO := hidZ (HA1.out _ hx)
      have HB6 := hidZ (HB5.out.trans (bel_less hb5 HB5.out.size))
      have hz5 := hb5.size
      have HF5 := hidZ (rangeAt_below HF4.out hb5 (by omega))
      have HG5 := hidZ (rangeAt_below HG4.out hb5 HZ4.out)
      have HR5 := hidZ (HR4.out.below hb5 (by omega))
      obtain ⟨yb, zb, hC⟩ := cm_of hcm hcg HCO.out.k1
      obtain ⟨q1, q2, q3⟩ := HCO.out.at
      have hww := wwrite_any st.rules rg rcap cg ls.length G.length ccap pg pcap (.slice (some ⟨ng, 0, none⟩) st.nodes.length ncap) (.slice (some ⟨qg, 0, none⟩) st.places.length qcap) GL.toArray (natC O).toArray (fun b => O.getD b 0) yb zb (nsF ls) (tkF ls) (nxF ls) w5
        hr1 HR5.out (by omega) HBE.out HCO.out.l1 q1 hg0 hg1 hC q2 q3 (by simp [natC_len, HGL.out]) (fun b hb => by rw [List.getElem?_toArray, natC_get _ _ (by rw [HGL.out]; exact hb), List.getD_eq_getElem?_getD, List.getElem?_eq_getElem (by rw [HGL.out]; exact hb)]; rfl) (fun b hb => getD_lt HGX.out (by rw [HGL.out]; exact hb)) (by simpa using HGT.out)
      clear hx hb5 hal hC q1 q2 q3 hcm
      go_wp2_with (first
        | (refine wpList_load_mid rfl 84 (.tmp 4) rfl w1.heap.size 0 rfl [.slice (some ⟨rg, 0, none⟩) st.rules.length rcap, .slice (some ⟨ng, 0, none⟩) st.nodes.length ncap, .slice (some ⟨qg, 0, none⟩) st.places.length qcap] _ HF5.out Try.underlying84 rfl Try.fileSize ?_)
        | (refine wpList_load_mid rfl 89 (.tmp 6) rfl w3.heap.size 0 rfl GL _ HG5.out Try.underlying89 rfl ?_ ?_; (rw [HGS.out]; exact Try.grpSize)))
      refine hww.mono ?_
      rintro e w6 ⟨rfl, hb6⟩
      have HB7 := hidZ (HB6.out.trans (bel_less hb6 HB6.out.size))
      clear hb6 hww
      go_wp2
      go_ret2
      rw [HEE.out]
      exact ⟨rfl, HB7.out⟩
  · obtain ⟨rfl, rfl, rfl⟩ := hfe hz
    have HE : Hid (compP t = ([], parseC t)) := by unfold Hid compP; rw [if_neg hz]
    clear hfa hfe HA HF
    have hd : (parseC t != 0) = true := by rw [bne_iff_ne]; exact hz
    replace hz := hidZ hz
    generalize parseC t = pc at *
    go_wp2
    go_ret2
    rw [HE.out]
    exact ⟨rfl, HBA.out _⟩
end Go.Proofs.Ytgjgjgihceijnaa

/- A table in the making: its two cells, its marks, its rows. -/
namespace Go.Stn
open Go.RowKit
structure TabW (w : World) (tb i1 i2 K : Nat) (e1 e2 : TypeId) (mk : Nat → Nat) (tt : Nat → Nat → Nat) (v1 v2 : Value) (rs : List Value) : Prop where
  c0 : w.cell? ⟨tb, 0, none⟩ = some v1
  c1 : w.cell? ⟨tb, 1, none⟩ = some v2
  fz : ∀ j, w.frozen? ⟨tb, j, none⟩ = false
  o1 : w.ownsRow (tb + 1) e1 1 v1 i1 (natR i1 mk)
  o2 : w.ownsRow (tb + 1) e2 1 v2 i2 rs
  rows : TRows w (fun k => tb + 1 ≤ k ∧ k < w.heap.size ∧ v1.ownBlock ≠ some k ∧ v2.ownBlock ≠ some k) rs K tt
  ne : v1.ownBlock = none ∨ v1.ownBlock ≠ v2.ownBlock
  hz : tb + 1 ≤ w.heap.size

variable {w w1 : World} {tb i1 i2 K : Nat} {e1 e2 : TypeId} {mk : Nat → Nat} {tt : Nat → Nat → Nat} {v1 v2 : Value} {rs : List Value}

theorem TabW.drew (h : TabW w tb i1 i2 K e1 e2 mk tt v1 v2 rs) : TabW w.drew tb i1 i2 K e1 e2 mk tt v1 v2 rs := ⟨h.c0, h.c1, h.fz, h.o1, h.o2, h.rows, h.ne, h.hz⟩
theorem TabW.below (h : TabW w tb i1 i2 K e1 e2 mk tt v1 v2 rs) {B : Nat} (hB : Below B w w1) (hb : w.heap.size ≤ B) : TabW w1 tb i1 i2 K e1 e2 mk tt v1 v2 rs := by
  have hz := h.hz
  refine ⟨(hB.cell (p := ⟨tb, 0, none⟩) (by show tb < B; omega)).trans h.c0, (hB.cell (p := ⟨tb, 1, none⟩) (by show tb < B; omega)).trans h.c1, fun j => (hB.frozen (p := ⟨tb, j, none⟩) (by show tb < B; omega)).trans (h.fz j),
    h.o1.kept (grown_of_below hB hb none) ?_, h.o2.kept (grown_of_below hB hb none) ?_, h.rows.keep (fun k hk => ⟨hB.block k (by omega), hk.1, by have := hB.size; omega, hk.2.2⟩), h.ne, by have := hB.size; omega⟩
  · cases v1.ownBlock <;> simp
  · cases v2.ownBlock <;> simp

/-- One mark more. -/
theorem TabW.mark {o : Obj} {g cap : Nat} (h : TabW w tb i1 i2 K e1 e2 mk tt v1 v2 rs) (hown : w1.ownsRow (tb + 1) e1 1 (.slice (some ⟨g, 0, none⟩) (i1 + 1) cap) (i1 + 1) (natR (i1 + 1) mk)) (hgrow : (w.alloc o).grownBy w1 v1.ownBlock) (hat : v1.ownBlock = some g ∨ g = w.heap.size + 1) :
    TabW (w1.setCell ⟨tb, 0, none⟩ (.slice (some ⟨g, 0, none⟩) (i1 + 1) cap)) tb (i1 + 1) i2 K e1 e2 mk tt (.slice (some ⟨g, 0, none⟩) (i1 + 1) cap) v2 rs := by
  obtain ⟨hs, hk⟩ := app_keep hgrow hat
  have hz := h.hz
  have hne : v1.ownBlock ≠ some tb := fun e => by have := h.o1.lt tb e; omega
  have htb : w1.heap[tb]? = w.heap[tb]? := (hk tb (by omega) hne).1
  have hc : ∀ j, w1.cell? ⟨tb, j, none⟩ = w.cell? ⟨tb, j, none⟩ := fun j => World.cell?_of_block (w := w) (a := ⟨tb, j, none⟩) htb
  have hf : ∀ j, w1.frozen? ⟨tb, j, none⟩ = w.frozen? ⟨tb, j, none⟩ := fun j => World.frozen?_of_block (w := w) (a := ⟨tb, j, none⟩) htb
  have hn12 : ∀ k, v2.ownBlock = some k → v1.ownBlock ≠ some k := fun k e => by
    rcases h.ne with h1 | h1
    · rw [h1]; simp
    · rw [← e]; exact h1
  refine ⟨World.cell?_setCell_same _ _ _ ((hc 0).trans h.c0), ?_, fun j => by rw [World.frozen?_setCell, hf]; exact h.fz j, ownsRow_setCell_below hown (Nat.lt_succ_self _) _, ?_, ?_, ?_, ?_⟩
  · rw [World.cell?_setCell_other (h := by intro e; injection e; omega), hc]; exact h.c1
  · refine ownsRow_setCell_below ((h.o2.alloc o).kept hgrow ?_) (Nat.lt_succ_self _) _
    cases e : v2.ownBlock with
    | none => exact .inl rfl
    | some k => exact .inr (fun e' => hn12 k e e'.symm)
  · refine h.rows.keep (fun k hkk => ?_)
    obtain ⟨k1, k2⟩ := hk k hkk.2.1 hkk.2.2.1
    refine ⟨(set_keep w1 tb 0 _ (by omega)).trans k1, hkk.1, ?_, ?_, hkk.2.2.2⟩
    · have := hkk.2.1; simp [World.setCell]; omega
    · simp [Value.ownBlock]; exact k2
  · right
    simp only [Value.ownBlock]
    intro e
    have e := e.symm
    have := h.o2.lt g e
    exact (hk g this.2 (hn12 g e)).2 rfl
  · simp [World.setCell]; omega

/-- One row more. -/
theorem TabW.row {o : Obj} {g cap : Nat} (h : TabW w tb i1 i2 K e1 e2 mk tt v1 v2 rs) {u : Value} (hu : RowIn w (fun k => tb + 1 ≤ k ∧ k < w.heap.size ∧ v1.ownBlock ≠ some k ∧ v2.ownBlock ≠ some k) u (natR K (tt i2)))
    (hown : w1.ownsRow (tb + 1) e2 1 (.slice (some ⟨g, 0, none⟩) (i2 + 1) cap) (i2 + 1) (rs ++ [u])) (hgrow : (w.alloc o).grownBy w1 v2.ownBlock) (hat : v2.ownBlock = some g ∨ g = w.heap.size + 1) :
    TabW (w1.setCell ⟨tb, 1, none⟩ (.slice (some ⟨g, 0, none⟩) (i2 + 1) cap)) tb i1 (i2 + 1) K e1 e2 mk tt v1 (.slice (some ⟨g, 0, none⟩) (i2 + 1) cap) (rs ++ [u]) := by
  obtain ⟨hs, hk⟩ := app_keep hgrow hat
  have hz := h.hz
  have hl : rs.length = i2 := by have := h.o2.1; omega
  have hne : v2.ownBlock ≠ some tb := fun e => by have := h.o2.lt tb e; omega
  have htb : w1.heap[tb]? = w.heap[tb]? := (hk tb (by omega) hne).1
  have hc : ∀ j, w1.cell? ⟨tb, j, none⟩ = w.cell? ⟨tb, j, none⟩ := fun j => World.cell?_of_block (w := w) (a := ⟨tb, j, none⟩) htb
  have hf : ∀ j, w1.frozen? ⟨tb, j, none⟩ = w.frozen? ⟨tb, j, none⟩ := fun j => World.frozen?_of_block (w := w) (a := ⟨tb, j, none⟩) htb
  have hn12 : ∀ k, v1.ownBlock = some k → v2.ownBlock ≠ some k := fun k e e2 => by
    rcases h.ne with h1 | h1
    · rw [h1] at e; cases e
    · exact h1 (e.trans e2.symm)
  have hrow : ∀ k, (tb + 1 ≤ k ∧ k < w.heap.size ∧ v1.ownBlock ≠ some k ∧ v2.ownBlock ≠ some k) → (w1.setCell ⟨tb, 1, none⟩ (.slice (some ⟨g, 0, none⟩) (i2 + 1) cap)).heap[k]? = w.heap[k]? ∧
      (tb + 1 ≤ k ∧ k < (w1.setCell ⟨tb, 1, none⟩ (.slice (some ⟨g, 0, none⟩) (i2 + 1) cap)).heap.size ∧ v1.ownBlock ≠ some k ∧ (Value.slice (some ⟨g, 0, none⟩) (i2 + 1) cap).ownBlock ≠ some k) := fun k hkk => by
    obtain ⟨k1, k2⟩ := hk k hkk.2.1 hkk.2.2.2
    refine ⟨(set_keep w1 tb 1 _ (by omega)).trans k1, hkk.1, ?_, hkk.2.2.1, ?_⟩
    · have := hkk.2.1; simp [World.setCell]; omega
    · simp [Value.ownBlock]; exact k2
  refine ⟨?_, World.cell?_setCell_same _ _ _ ((hc 1).trans h.c1), fun j => by rw [World.frozen?_setCell, hf]; exact h.fz j, ?_, ownsRow_setCell_below hown (Nat.lt_succ_self _) _, ?_, ?_, ?_⟩
  · rw [World.cell?_setCell_other (h := by intro e; injection e; omega), hc]; exact h.c0
  · refine ownsRow_setCell_below ((h.o1.alloc o).kept hgrow ?_) (Nat.lt_succ_self _) _
    cases e : v1.ownBlock with
    | none => exact .inl rfl
    | some k => exact .inr (fun e' => hn12 k e e'.symm)
  · refine (h.rows.keep hrow).snoc ?_
    rw [hl]
    exact hu.keep hrow
  · cases e : v1.ownBlock with
    | none => exact .inl rfl
    | some k =>
      right
      simp only [Value.ownBlock]
      intro e'
      injection e' with e'
      have := h.o1.lt k e
      exact (hk k this.2 (hn12 k e)).2 e'.symm
  · simp [World.setCell]; omega

/-- A table that is made. -/
theorem TabW.done (h : TabW w tb i1 i1 K e1 e2 mk tt v1 v2 rs) (hi : 0 < i1) : TabIn w (fun k => tb + 1 ≤ k ∧ k < w.heap.size) v1 v2 i1 K mk tt := by
  obtain ⟨g1, cap1, rfl, hg1, hl1⟩ := h.o1.form hi
  obtain ⟨g2, cap2, rfl, hg2, hl2⟩ := h.o2.form hi
  have hl : rs.length = i1 := by have := h.o2.1; omega
  refine ⟨⟨g1, cap1, by rw [natR_len], ⟨hg1, hl1⟩, range_of_row h.o1⟩, rs, hl, ⟨g2, cap2, by rw [hl], ⟨hg2, hl2⟩, range_of_row h.o2⟩, h.rows.keep (fun k hk => ⟨rfl, hk.1, hk.2.1⟩)⟩
end Go.Stn

/- stencilkeep.whole: a walk, at an image. -/
namespace Go.Stn
theorem img_size {s : ByteArray} (h : imgOk s = true) : iAt s (iM s) = s.size := by
  have := (imgOk_iff.1 h).2.2.2.2.2
  simpa using this
theorem img_next {s : ByteArray} (h : imgOk s = true) {c : Nat} (hc : c < iM s) : iAt s (c + 1) = iAt s c + 1 + nSt s c * (1 + iK s) := by
  exact (iAt_step (img_st h hc)).1
theorem img_in {s : ByteArray} (h : imgOk s = true) {c : Nat} (hc : c < iM s) : iAt s c + 1 + nSt s c * (1 + iK s) ≤ s.size := (stOk_iff.1 (img_st h hc)).2.2.2.1
/-- A byte of a condition's part, by its place. -/
theorem img_cell {s : ByteArray} (h : imgOk s = true) {c i : Nat} (hc : c < iM s) (hi : i < nSt s c * (1 + iK s)) :
    (i % (1 + iK s) = 0 → bt s (iAt s c + 1 + i) ≤ iR s) ∧ (i % (1 + iK s) ≠ 0 → bt s (iAt s c + 1 + i) < nSt s c ∨ bt s (iAt s c + 1 + i) = 255) := by
  have hst : i / (1 + iK s) < nSt s c := Nat.div_lt_of_lt_mul (by rw [Nat.mul_comm]; exact hi)
  have hrow := rowOk_iff.1 ((stOk_iff.1 (img_st h hc)).2.2.2.2 _ hst)
  have hd := Nat.div_add_mod i (1 + iK s)
  have hm := Nat.mod_lt i (show 0 < 1 + iK s by omega)
  rw [Nat.mul_comm] at hd
  generalize i / (1 + iK s) = q at *
  generalize i % (1 + iK s) = j at *
  refine ⟨fun e => ?_, fun e => ?_⟩
  · subst e
    have := hrow.1
    rw [show iAt s c + 1 + i = iAt s c + 1 + q * (1 + iK s) by omega]
    exact this
  · obtain ⟨k, rfl⟩ : ∃ k, j = k + 1 := ⟨j - 1, by omega⟩
    have := hrow.2 k (by omega)
    rw [show iAt s c + 1 + i = iAt s c + 1 + q * (1 + iK s) + (k + 1) by omega]
    exact this
end Go.Stn
namespace Go.Proofs.Ytgjgjgihceijnaa
open Go.RowKit Go.Stn

set_option maxRecDepth 100000 in
set_option maxHeartbeats 1000000 in
theorem kwhole_any (s : ByteArray) (w : World) (hi : imgOk s = true) (hs : s.size ≤ 120000) :
    Calls Try.prog 18 #[.string s] w fun e w' => e = .returned (.bool true) ∧ w' = w := by
  obtain ⟨h1, h2, h3, h4, h5⟩ := img_head hi
  have hK1 := iK_pos s
  have hK2 := iK_le s
  have hb3 : (s[3]'(by omega)).toNat = iR s := bt_eq s 3 (by omega)
  have hb4 : (s[4 + iR s]'(by omega)).toNat = iM s := bt_eq s (4 + iR s) (by omega)
  have hb5 : (s[5 + iR s]'(by omega)).toNat + 1 = iK s := by have := bt_eq s (5 + iR s) (by omega); unfold iK; omega
  have hb5' : (s[5 + iR s]'(by omega)).toNat = iK s - 1 := by omega
  have HI := hidZ hi
  have HB5 := hidZ hb5
  have HZ := hidZ (img_size hi)
  have HN := hidZ (fun c hc => @img_next s hi c hc)
  have HIN := hidZ (fun c hc => @img_in s hi c hc)
  have HC := hidZ (fun c i hc h => @img_cell s hi c i hc h)
  have HCL := hidZ (fun v hv => @cls_lt s hi v hv)
  have HNS := hidZ (fun c hc => @nSt_le s hi c hc)
  have HBE := hidZ (bt_eq s)
  have HA0 : Hid (iAt s 0 = 6 + iR s + 256) := by unfold Hid; simp only [iAt]; omega
  unfold clsN at HCL
  unfold nSt at HN HIN HC HNS
  clear hb5 hi
  have e1 : ((iK s - 1 : Nat) : Int) + 1 = (iK s : Int) := by omega
  generalize iM s = M at *
  generalize iK s = K at *
  go_enter Try.func18, Try.ntmps18
  go_wp2
  go_loop [6] (fun b => ∃ j : Nat, j ≤ 256 ∧ b = .int .i64 (j : Int)) (fun b => 256 - (intOf b).toNat)
  case atStart => exact ⟨0, by omega, rfl⟩
  case round =>
    obtain ⟨j, hj, rfl⟩ := hrel
    by_cases hlt : j < 256
    · have hcl := HCL.out j hlt
      have hbj := HBE.out (6 + iR s + j) (by omega)
      go_wp2
      go_round
      case rel => exact ⟨j + 1, hlt, by go_num⟩
      case measure => simp [intOf]; omega
    · have e : j = 256 := by omega
      subst e
      go_wp2
      go_loop [5, 7] (fun a c => ∃ cn : Nat, cn ≤ M ∧ c = .int .i64 (cn : Int) ∧ a = .int .i64 (iAt s cn : Int)) (fun _ c => M - (intOf c).toNat)
      case atStart => exact ⟨0, by omega, rfl, by rw [HA0.out]; go_num⟩
      case round =>
        obtain ⟨c, hc, rfl, rfl⟩ := hrel
        by_cases hlt : c < M
        · have hin := HIN.out c hlt
          have hbound : iAt s c < s.size := by omega
          have hns := HNS.out c hlt
          have hba := HBE.out (iAt s c) hbound
          have HCC := hidZ (fun i h => HC.out c i hlt h)
          have HNX := hidZ (HN.out c hlt)
          generalize bt s (iAt s c) = N at *
          generalize hP : N * (1 + K) = P at *
          replace hP := hidZ hP
          have hPI : (N : Int) * (1 + (K : Int)) = (P : Int) := by rw [← hP.out]; simp
          generalize iAt s c = a at *
          have hd1 : decide (s.size ≤ a) = false := by simp; omega
          have hd2 : decide ((s.size : Int) ≤ (a : Int)) = false := by simp; omega
          have hd3 : decide ((N : Int) < 1) = false := by simp; omega
          have hd4 : decide ((s.size : Int) < (a : Int) + 1 + (P : Int)) = false := by simp; omega
          go_wp2
          go_loop [9] (fun b => ∃ i : Nat, i ≤ P ∧ b = .int .i64 (i : Int)) (fun b => P - (intOf b).toNat)
          case atStart => exact ⟨0, by omega, rfl⟩
          case round =>
            obtain ⟨i, hi, rfl⟩ := hrel
            by_cases hlt2 : i < P
            · obtain ⟨q1, q2⟩ := HCC.out i hlt2
              have hbi := HBE.out (a + 1 + i) (by omega)
              have hbl := bt_lt s (a + 1 + i)
              have hmod : ((i : Int) % (1 + (K : Int))) = ((i % (1 + K) : Nat) : Int) := by
                rw [show (1 + (K : Int)) = ((1 + K : Nat) : Int) by omega]; rfl
              by_cases hz : i % (1 + K) = 0
              · have hd : ((i : Int) % (1 + (K : Int)) == 0) = true := by rw [hmod, hz]; rfl
                clear hmod
                have hx := q1 hz
                clear q1 q2
                replace hz := hidZ hz
                go_wp2
                go_round
                case rel => exact ⟨i + 1, hlt2, by go_num⟩
                case measure => simp [intOf]; omega
              · have hd : ((i : Int) % (1 + (K : Int)) == 0) = false := by rw [hmod, beq_eq_false_iff_ne]; omega
                clear hmod
                have hx := q2 hz
                clear q1 q2
                replace hz := hidZ hz
                by_cases h255 : bt s (a + 1 + i) = 255
                · have hN : N ≤ bt s (a + 1 + i) := by omega
                  clear hx
                  go_wp2
                  go_round
                  case rel => exact ⟨i + 1, hlt2, by go_num⟩
                  case measure => simp [intOf]; omega
                · have hN : bt s (a + 1 + i) < N := by omega
                  clear hx
                  go_wp2
                  go_round
                  case rel => exact ⟨i + 1, hlt2, by go_num⟩
                  case measure => simp [intOf]; omega
            · have e : i = P := by omega
              subst e
              go_wp2
              go_round
              case rel => exact ⟨c + 1, hlt, by go_num, by rw [HNX.out]; go_num⟩
              case measure => simp [intOf]; omega
        · have e : c = M := by omega
          subst e
          have hz := HZ.out
          go_wp2
          go_ret
          simp
end Go.Proofs.Ytgjgjgihceijnaa

