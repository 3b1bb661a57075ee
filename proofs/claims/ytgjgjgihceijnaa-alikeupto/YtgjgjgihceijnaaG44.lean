/- Texts put together: AlOpen, AkImg, AkMany, AkComp, KtAlikeP. -/
import Derived.Test.YtgjgjgihceijnaaG43
import Derived.Deep.Slices
import Derived.DataReads
import Derived.Test.YtgjgjgihceijnaaG35
import Derived.Test.YtgjgjgihceijnaaG36
import Derived.Test.YtgjgjgihceijnaaG41
/- The steps that Alike is given, read. -/
namespace Go.Proofs.Ytgjgjgihceijnaa
open Go.RowKit Go.Stn Go.ChangeShapes Go.WideShapes
theorem Try.opCells : Try.prog.cellsOf 107 = 3 := by kernel_rfl
theorem Try.intCells : Try.prog.cellsOf 3 = 1 := by kernel_rfl
theorem wf_isI {n : Int} (h : (Lit.int .i64 n).wf = true) : isI n := by
  have hx : -9223372036854775808 ≤ n ∧ n ≤ 9223372036854775807 := by simpa [Lit.wf, IntKind.min, IntKind.max, IntKind.signed, IntKind.bits] using h
  exact hx
set_option maxRecDepth 100000 in
theorem op_open {H : Type} {enc : TypeId × Value → H} {W : World} {n : Nat} {cs : List Value} {x : DataW H × List MemPlace} (h : DataW.trod enc Try.prog W 0 (fun _ => true) true n 107 cs = some x) : ∃ o : OpK, cs = o.cells ∧ o.ok := by
  obtain ⟨xs, k, hk, hxy, hl, hxl, hf⟩ := DataW.trod_struct Try.underlying107 h
  rw [Try.opCells] at hl
  have hxl : xs.length = 3 := hxl
  match xs, hxl, cs, hl with
  | [y0, y1, y2], _, [v0, v1, v2], _ =>
    have g0 := hf 0 _ rfl
    have g1 := hf 1 _ rfl
    have g2 := hf 2 _ rfl
    simp [Try.intCells] at g0 g1 g2
    obtain ⟨n0, e0, _, w0⟩ := DataW.trod_int Try.underlying3 g0
    obtain ⟨n1, e1, _, w1⟩ := DataW.trod_int Try.underlying3 g1
    obtain ⟨n2, e2, _, w2⟩ := DataW.trod_int Try.underlying3 g2
    refine ⟨⟨n0, n1, n2⟩, ?_, wf_isI w0, wf_isI w1, wf_isI w2⟩
    simp at e0 e1 e2
    rw [e0, e1, e2]
    rfl
theorem ops_open {H : Type} {enc : TypeId × Value → H} {W : World} {a : Option Addr} {len cap : Nat} {d : DataW H} {ps : List MemPlace} (h : DataW.Trod enc Try.prog W 0 (fun _ => true) true 46 (.slice a len cap) d ps) :
    len = 0 ∨ ∃ (b o : Nat) (D : Nat → DataW H) (sp : List (DataW H)) (ops : List OpK), a = some ⟨b, o, none⟩ ∧ ops.length = len ∧ d = .slice ((List.range len).map D) sp ∧ OpsIn W b o ops := by
  obtain ⟨fuel, h⟩ := h
  rcases Go.Deep.open_slice Try.underlying46 h with ⟨e, _⟩ | ⟨ad, len', cap', m, n, D, Pl, e, hb, hl, hm, hmm, hx, hall⟩
  · left
    have e : [Value.slice a len cap] = [.slice none 0 0] := e
    injection e with e _
    injection e
  · have e : [Value.slice a len cap] = [.slice (some ad) len' cap'] := e
    injection e with e _
    injection e with e1 e2 e3
    subst e1 e2 e3
    by_cases h0 : len = 0
    · exact .inl h0
    · right
      have hmle : len ≤ m := by rw [hmm]; split <;> omega
      rw [Try.opCells] at hall
      have heach : ∀ i, i < len → ∃ o : OpK, (∀ j v, o.cells[j]? = some v → W.cell? (ad.add (i * 3 + j)) = some v) ∧ o.ok := fun i hi => by
        obtain ⟨cs, h1, h2⟩ := hall i (by omega)
        obtain ⟨o, rfl, ho⟩ := op_open h2
        obtain ⟨_, hl3, hc⟩ := World.cells?_some h1
        refine ⟨o, fun j v hj => ?_, ho⟩
        have hj3 : j < 3 := by have := (List.getElem?_eq_some_iff.1 hj).1; rw [hl3] at this; exact this
        have := hc j hj3
        rw [Go.Deep.add_add] at this
        rw [this, hj]
      have hsp : ad.spot = none := by
        obtain ⟨o, ho, _⟩ := heach 0 (by omega)
        have := ho 0 _ rfl
        have e : ad.add (0 * 3 + 0) = ad := rfl
        rw [e] at this
        unfold World.cell? at this
        cases hs : ad.spot with
        | none => rfl
        | some k =>
          rw [hs] at this
          split at this
          · simp at this
          · cases this
      obtain ⟨b, o, s⟩ := ad
      simp only at hsp
      subst hsp
      have hch : ∃ f : Nat → OpK, ∀ i, i < len → (∀ j v, (f i).cells[j]? = some v → W.cell? ((⟨b, o, none⟩ : Addr).add (i * 3 + j)) = some v) ∧ (f i).ok :=
        ⟨fun i => if hi : i < len then Classical.choose (heach i hi) else ⟨0, 0, 0⟩, fun i hi => by simp only [dif_pos hi]; exact Classical.choose_spec (heach i hi)⟩
      obtain ⟨f, hf⟩ := hch
      refine ⟨b, o, D, _, (List.range len).map f, rfl, by simp, congrArg Prod.fst hx, ?_, ?_, ?_⟩
      · intro k op hk j v hj
        rw [List.getElem?_map] at hk
        have hkl : k < len := by
          apply Classical.byContradiction
          intro hc
          rw [List.getElem?_eq_none (by simp; omega)] at hk
          cases hk
        rw [List.getElem?_range hkl] at hk
        injection hk with hk
        subst hk
        have := (hf k hkl).1 j v hj
        have e : (⟨b, o, none⟩ : Addr).add (k * 3 + j) = ⟨b, o + k * 3 + j, none⟩ := by
          unfold Addr.add
          split
          · rename_i hz; congr 1; omega
          · congr 1; simp only; omega
        rw [e] at this
        exact this
      · intro op hop
        rw [List.mem_map] at hop
        obtain ⟨i, hi, rfl⟩ := hop
        exact (hf i (List.mem_range.1 hi)).2
      · obtain ⟨op, ho, _⟩ := heach 0 (by omega)
        have := ho 0 _ rfl
        unfold World.cell? at this
        apply Classical.byContradiction
        intro hc
        have hb2 : W.heap[b]? = none := by simp; omega
        have e : (⟨b, o, none⟩ : Addr).add (0 * 3 + 0) = ⟨b, o, none⟩ := rfl
        rw [e] at this
        simp only [hb2] at this
        cases this
end Go.Proofs.Ytgjgjgihceijnaa

/- Plain mathematics: an image is told whole by the tokens; no two files of the same tokens differ. -/
namespace Go.Stn
open Go.Proofs.Ytgjgjgihceijnaa (netN netF netL fileSt compP)
/-- Classes numbered by their lowest bytes are told by which bytes go together. -/
theorem cls_half {cls cls' : Nat → Nat} {K K' : Nat} {fb fb' : Nat → Nat}
    (h1 : ∀ j, j < K → fb j < 256 ∧ cls (fb j) = j) (h2 : ∀ b, b < 256 → fb (cls b) ≤ b) (h3 : ∀ j j', j < j' → j' < K → fb j < fb j') (h4 : ∀ b, b < 256 → cls b < K)
    (k1 : ∀ j, j < K' → fb' j < 256 ∧ cls' (fb' j) = j) (k2 : ∀ b, b < 256 → fb' (cls' b) ≤ b) (k3 : ∀ j j', j < j' → j' < K' → fb' j < fb' j') (k4 : ∀ b, b < 256 → cls' b < K')
    (he : ∀ b b', b < 256 → b' < 256 → (cls b = cls b' ↔ cls' b = cls' b')) : ∀ j, j < K → j < K' ∧ fb j = fb' j := by
  intro j
  induction j using Nat.strongRecOn with
  | ind j ih =>
    intro hj
    obtain ⟨x1, x2⟩ := h1 j hj
    have hn : ∀ i, i < j → cls' (fb j) ≠ i := fun i hi e => by
      obtain ⟨i1, i2⟩ := ih i hi (by omega)
      obtain ⟨y1, y2⟩ := h1 i (by omega)
      obtain ⟨z1, z2⟩ := k1 i i1
      have : cls' (fb i) = cls' (fb j) := by rw [e, i2, z2]
      have := (he _ _ y1 x1).2 this
      omega
    have hge : j ≤ cls' (fb j) := by
      apply Classical.byContradiction
      intro hc
      exact hn _ (by omega) rfl
    have hlt := k4 (fb j) x1
    have hjK : j < K' := by omega
    refine ⟨hjK, ?_⟩
    obtain ⟨y1, y2⟩ := k1 j hjK
    have a1 : fb' j ≤ fb j := by
      have := k2 (fb j) x1
      by_cases e : j = cls' (fb j)
      · rw [← e] at this; exact this
      · have := k3 j _ (by omega) hlt; omega
    have a2 : fb j ≤ fb' j := by
      have b1 := h2 (fb' j) y1
      have b2 := h4 (fb' j) y1
      by_cases e : cls (fb' j) < j
      · obtain ⟨i1, i2⟩ := ih _ e b2
        obtain ⟨c1, c2⟩ := h1 _ b2
        have := (he _ _ c1 y1).1 c2
        rw [i2, (k1 _ i1).2, y2] at this
        omega
      · by_cases e2 : j = cls (fb' j)
        · rw [← e2] at b1; exact b1
        · have := h3 j _ (by omega) b2; omega
    omega
theorem cls_same {cls cls' : Nat → Nat} {K K' : Nat} {fb fb' : Nat → Nat}
    (h1 : ∀ j, j < K → fb j < 256 ∧ cls (fb j) = j) (h2 : ∀ b, b < 256 → fb (cls b) ≤ b) (h3 : ∀ j j', j < j' → j' < K → fb j < fb j') (h4 : ∀ b, b < 256 → cls b < K)
    (k1 : ∀ j, j < K' → fb' j < 256 ∧ cls' (fb' j) = j) (k2 : ∀ b, b < 256 → fb' (cls' b) ≤ b) (k3 : ∀ j j', j < j' → j' < K' → fb' j < fb' j') (k4 : ∀ b, b < 256 → cls' b < K')
    (he : ∀ b b', b < 256 → b' < 256 → (cls b = cls b' ↔ cls' b = cls' b')) : K = K' ∧ (∀ b, b < 256 → cls b = cls' b) ∧ ∀ j, j < K → fb j = fb' j := by
  have a := cls_half h1 h2 h3 h4 k1 k2 k3 k4 he
  have b := cls_half k1 k2 k3 k4 h1 h2 h3 h4 (fun x y hx hy => (he x y hx hy).symm)
  refine ⟨?_, fun x hx => ?_, fun j hj => (a j hj).2⟩
  · rcases Nat.lt_trichotomy K K' with h | h | h
    · have := (b K h).1; omega
    · exact h
    · have := (a K' h).1; omega
  · obtain ⟨a1, a2⟩ := a _ (h4 x hx)
    obtain ⟨c1, c2⟩ := h1 _ (h4 x hx)
    have := (he _ _ c1 hx).1 c2
    rw [a2, (k1 _ a1).2] at this
    exact this

/-- The same rules, but for how they are spelled. -/
structure SameTok (l l' : List RuleX) : Prop where
  len : l.length = l'.length
  cn : nConds l = nConds l'
  be : ∀ (i : Nat) (x x' : RuleX), l[i]? = some x → l'[i]? = some x' → x.2.1 = x'.2.1
  tok : ∀ c w v, isTok l c w v ↔ isTok l' c w v
theorem SameTok.symm {l l' : List RuleX} (h : SameTok l l') : SameTok l' l := ⟨h.len.symm, h.cn.symm, fun i x x' a b => (h.be i x' x b a).symm, fun c w v => (h.tok c w v).symm⟩
theorem leadI_inj {x y : Nat} (h : leadI x = leadI y) : x = y := by
  unfold leadI at h
  split at h <;> split at h <;> omega
theorem bytes_ext {s s' : ByteArray} (hz : s.size = s'.size) (h : ∀ i, i < s.size → bt s i = bt s' i) : s = s' := by
  obtain ⟨d⟩ := s
  obtain ⟨d'⟩ := s'
  congr 1
  have hz : d.size = d'.size := hz
  refine Array.ext hz (fun i h1 h2 => ?_)
  have := h i h1
  unfold bt at this
  simp only at this
  rw [List.getD_eq_getElem?_getD, List.getD_eq_getElem?_getD, List.getElem?_eq_getElem (by simpa using h1), List.getElem?_eq_getElem (by simpa using h2)] at this
  simp only [Option.getD_some, Array.getElem_toList] at this
  exact UInt8.toNat_inj.1 this
theorem img_same {l l' : List RuleX} {s s' : ByteArray} (hs : SameTok l l') (h : ImgFile l s) (h' : ImgFile l' s') : s = s' := by
  have hR : iR s = iR s' := by rw [h.fr, h'.fr, hs.len]
  have hM : iM s = iM s' := by rw [h.fm, h'.fm, hs.cn]
  have hst : ∀ c, c < nConds l → nSt s c = nSt s' c ∧ (∀ p, p < nSt s c → markN s c p = markN s' c p) ∧ ∀ p b, p < nSt s c → b < 256 → leadN s c p b = leadN s' c p b := fun c hc => by
    have hc' : c < nConds l' := by rw [← hs.cn]; exact hc
    obtain ⟨a1, a2, a3⟩ := canon_unique (h.cn c hc) (h'.cn c hc') (fun w hw => by
      cases w with
      | nil => exact (h.z c hc).trans (h'.z c hc').symm
      | cons b u => exact isTok_one (h.tok c hc b u hw) ((hs.tok _ _ _).2 (h'.tok c hc' b u hw)))
    exact ⟨a1, a2, fun p b hp hb => leadI_inj (a3 p b hp hb)⟩
  have hMl : iM s = nConds l := h.fm
  obtain ⟨_, _, _, _, _, g6⟩ := imgOk_iff.1 h.ok
  obtain ⟨_, _, _, _, _, k6⟩ := imgOk_iff.1 h'.ok
  have ga := headA_iff.1 (imgOk_iff.1 h.ok).1
  have ka := headA_iff.1 (imgOk_iff.1 h'.ok).1
  have hst' : ∀ c p, c < nConds l → p < nSt s c → p < nSt s' c := fun c p hc hp => by rw [← (hst c hc).1]; exact hp
  obtain ⟨fb, f1, f2, f3⟩ := h.cl
  obtain ⟨fb', f1', f2', f3'⟩ := h'.cl
  have tog : ∀ (l : List RuleX) (s : ByteArray), ImgFile l s → ∀ b b', b < 256 → b' < 256 → (clsN s b = clsN s b' ↔ ∀ c p, c < nConds l → p < nSt s c → leadN s c p b = leadN s c p b') := fun l s h b b' hb hb' => by
    constructor
    · intro e c p _ _
      unfold leadN; rw [e]
    · intro e
      apply Classical.byContradiction
      intro hne
      obtain ⟨c, p, hc, hp, hh⟩ := h.ca _ _ (cls_lt h.ok b hb) (cls_lt h.ok b' hb') hne
      exact hh (e c p hc hp)
  obtain ⟨hK, hc1, hfb⟩ := cls_same f1 f2 f3 (cls_lt h.ok) f1' f2' f3' (cls_lt h'.ok) (fun b b' hb hb' => by
    rw [tog l s h b b' hb hb', tog l' s' h' b b' hb hb']
    constructor
    · intro e c p hc hp
      have hc2 : c < nConds l := by rw [hs.cn]; exact hc
      have hp2 : p < nSt s c := by rw [(hst c hc2).1]; exact hp
      rw [← (hst c hc2).2.2 p b hp2 hb, ← (hst c hc2).2.2 p b' hp2 hb']
      exact e c p hc2 hp2
    · intro e c p hc hp
      rw [(hst c hc).2.2 p b hp hb, (hst c hc).2.2 p b' hp hb']
      exact e c p (by rw [← hs.cn]; exact hc) (hst' c p hc hp))
  have hat : ∀ c, c ≤ iM s → iAt s c = iAt s' c := by
    intro c
    induction c with
    | zero => intro _; show 262 + iR s = 262 + iR s'; rw [hR]
    | succ c ih =>
      intro hc
      have e := ih (by omega)
      rw [(iAt_step (img_st h.ok (by omega))).1, (iAt_step (img_st h'.ok (by omega))).1]
      have : bt s (iAt s c) = bt s' (iAt s' c) := (hst c (by omega)).1
      rw [this, e, hK]
  have hrw : ∀ c p, c < iM s → rwAt s c p = rwAt s' c p := fun c p hc => by unfold rwAt; rw [hat c (by omega), hK]
  have hz : s.size = s'.size := by rw [← g6, ← k6, ← hM, hat _ (Nat.le_refl _)]
  have hrow : ∀ c p j, c < iM s → p < nSt s c → j < iK s → bt s (rwAt s c p + 1 + j) = bt s' (rwAt s' c p + 1 + j) := fun c p j hc hp hj => by
    obtain ⟨a1, a2⟩ := f1 j hj
    have := (hst c (by omega)).2.2 p (fb j) hp a1
    unfold leadN at this
    rw [← hc1 (fb j) a1, a2] at this
    exact this
  have hpart : ∀ d, d ≤ iM s → ∀ i, i < iAt s d → bt s i = bt s' i := by
    intro d
    induction d with
    | zero =>
      intro _ i hi
      have hi : i < 262 + iR s := hi
      by_cases h1 : i < 4
      · have e3 : bt s 3 = bt s' 3 := hR
        obtain ⟨_, ⟨a0, a1, a2⟩, _⟩ := ga
        obtain ⟨_, ⟨b0, b1, b2⟩, _⟩ := ka
        have : i = 0 ∨ i = 1 ∨ i = 2 ∨ i = 3 := by omega
        rcases this with e | e | e | e <;> subst e <;> omega
      · by_cases h2 : i < 4 + iR s
        · obtain ⟨k, rfl⟩ : ∃ k, i = 4 + k := ⟨i - 4, by omega⟩
          have hk : k < l.length := by have := h.fr; omega
          have hk' : k < l'.length := by rw [← hs.len]; exact hk
          have e1 := h.fb k _ (List.getElem?_eq_getElem hk)
          have e2 := h'.fb k _ (List.getElem?_eq_getElem hk')
          have e3 := hs.be k _ _ (List.getElem?_eq_getElem hk) (List.getElem?_eq_getElem hk')
          unfold thenB at e1 e2
          omega
        · by_cases h3 : i = 4 + iR s
          · have e : bt s (4 + iR s) = bt s' (4 + iR s') := hM
            rw [h3, e, hR]
          · by_cases h4 : i = 5 + iR s
            · have e : bt s (5 + iR s) + 1 = bt s' (5 + iR s') + 1 := hK
              rw [h4]
              rw [hR] at e ⊢
              omega
            · obtain ⟨k, rfl⟩ : ∃ k, i = 6 + iR s + k := ⟨i - 6 - iR s, by omega⟩
              have := hc1 k (by omega)
              unfold clsN at this
              rw [this, hR]
    | succ d ih =>
      intro hd i hi
      by_cases h1 : i < iAt s d
      · exact ih (by omega) i h1
      · rw [(iAt_step (img_st h.ok (by omega))).1] at hi
        by_cases h2 : i = iAt s d
        · have e : bt s (iAt s d) = bt s' (iAt s' d) := (hst d (by omega)).1
          rw [h2, e, hat d (by omega)]
        · obtain ⟨k, rfl⟩ : ∃ k, i = iAt s d + 1 + k := ⟨i - iAt s d - 1, by omega⟩
          have hk : k < bt s (iAt s d) * (1 + iK s) := by omega
          have hp : k / (1 + iK s) < nSt s d := (Nat.div_lt_iff_lt_mul (by omega)).2 hk
          have hdm := Nat.div_add_mod k (1 + iK s)
          have hml := Nat.mod_lt k (show 0 < 1 + iK s by omega)
          rw [Nat.mul_comm] at hdm
          by_cases h3 : k % (1 + iK s) = 0
          · have e := (hst d (by omega)).2.1 _ hp
            unfold markN at e
            rw [← hrw d _ (by omega)] at e
            rw [show iAt s d + 1 + k = rwAt s d (k / (1 + iK s)) by unfold rwAt; omega]
            exact e
          · have e := hrow d _ (k % (1 + iK s) - 1) (by omega) hp (by omega)
            rw [← hrw d _ (by omega)] at e
            rw [show iAt s d + 1 + k = rwAt s d (k / (1 + iK s)) + 1 + (k % (1 + iK s) - 1) by unfold rwAt; omega]
            exact e
  exact bytes_ext hz (fun i hi => hpart (iM s) (Nat.le_refl _) i (by rw [g6]; exact hi))
end Go.Stn

/- Plain mathematics: a condition has too many states just where another spelling has, and never with six places or fewer. -/
namespace Go.Stn
open Go.Proofs.Ytgjgjgihceijnaa (netN netF netL fileSt compP)
theorem pigeon2 : ∀ (m n : Nat) (f : Nat → Nat), (∀ i, i < n → f i < m) → m < n → ∃ i j, i < j ∧ j < n ∧ f i = f j := by
  intro m
  induction m with
  | zero => intro n f h hn; have := h 0 hn; omega
  | succ m ih =>
    intro n f h hn
    obtain ⟨k, rfl⟩ : ∃ k, n = k + 1 := ⟨n - 1, by omega⟩
    by_cases e : ∃ i, i < k ∧ f i = f k
    · obtain ⟨i, h1, h2⟩ := e
      exact ⟨i, k, h1, by omega, h2⟩
    · obtain ⟨i, j, h1, h2, h3⟩ := ih k (fun i => if f i = m then f k else f i) (fun i hi => by
        have hi1 := h i (by omega)
        have hk1 := h k (by omega)
        have hne : f i ≠ f k := fun hh => e ⟨i, hi, hh⟩
        show (if f i = m then f k else f i) < m
        split <;> omega) (by omega)
      refine ⟨i, j, h1, by omega, ?_⟩
      have hi : f i ≠ f k := fun hh => e ⟨i, by omega, hh⟩
      have hj : f j ≠ f k := fun hh => e ⟨j, by omega, hh⟩
      split at h3 <;> split at h3 <;> omega

section
variable {l : List RuleX} {c : Nat} {A : Nat → Nat → Bool} {next : Nat → Int} {begin : Int} {la G : List Int} {of_ : Nat → Nat}
/-- Each raw state has a text. -/
theorem CondNet.text (h : CondNet l c A next begin la G of_) : ∀ q, q < rawN next begin G → ∃ u, lets 256 u ∧ runA (rawX next begin G) 0 (u.map of_) = some q ∧ (q = 0 → u = []) := by
  intro q
  induction q using Nat.strongRecOn with
  | ind q ih =>
    intro hq
    by_cases h0 : q = 0
    · subst h0; exact ⟨[], lets_nil _, rfl, fun _ => rfl⟩
    · obtain ⟨p, g, h1, h2, h3⟩ := (raw_order next begin G).d2 q (by omega) hq
      obtain ⟨u, u1, u2, _⟩ := ih p h1 (by omega)
      obtain ⟨b, b1, b2⟩ := h.gn g h2
      refine ⟨u ++ [b], lets_app u1 (lets_one b1), ?_, fun e => absurd e h0⟩
      rw [List.map_append, List.map_cons, List.map_nil, runA_snoc u2, b2, if_neg (by omega), h3]
      rfl
end
theorem many_other {l l' : List RuleX} {s' : ByteArray} (hl : ∀ x ∈ l, RuleOk x) (hn : sumNp l ≤ 10) (hs : SameTok l l') (h' : ImgFile l' s') {c : Nat} (hc : c < nConds l) : ¬ TooMany l c := by
  intro hm
  have hc4 : c < 4 := by have := (nConds_ok l hl hn).2.1; omega
  have hcn := cond_net l hl hn c hc4
  have hau := raw_auto (netN (putRules st0 l).nodes) (begC4 l c) (grpG l)
  have hor := raw_order (netN (putRules st0 l).nodes) (begC4 l c) (grpG l)
  have hli := hcn.lively
  have htx := hcn.text
  have hob : ∀ w, lets 256 w → obsA (rawT (netN (putRules st0 l).nodes) (begC4 l c) (netL (putRules st0 l).nodes (putRules st0 l).rules) (grpG l)) (rawX (netN (putRules st0 l).nodes) (begC4 l c) (grpG l)) 0 (w.map (ofB l)) = obsA (markN s' c) (fun p b => leadI (leadN s' c p b)) 0 w := fun w hw => by
    have hc' : c < nConds l' := by rw [← hs.cn]; exact hc
    cases w with
    | nil => exact hcn.zero.trans (h'.z c hc').symm
    | cons b u => exact isTok_one (hcn.tok b u hw) ((hs.tok _ _ _).2 (h'.tok c hc' b u hw))
  have hgn := hcn.gn
  have hgl := hcn.gl
  unfold TooMany at hm
  generalize rawT (netN (putRules st0 l).nodes) (begC4 l c) (netL (putRules st0 l).nodes (putRules st0 l).rules) (grpG l) = tk at *
  generalize rawN (netN (putRules st0 l).nodes) (begC4 l c) (grpG l) = n at *
  generalize rawX (netN (putRules st0 l).nodes) (begC4 l c) (grpG l) = nx at *
  have hc' : c < nConds l' := by rw [← hs.cn]; exact hc
  have hcan := h'.cn c hc'
  have hfew := (nSt_le h'.ok (c := c) (by rw [h'.fm]; exact hc')).1
  obtain ⟨f, r, hf, hne⟩ := hm
  have hz : ∀ z, lets (grpG l).length z → ∃ w, lets 256 w ∧ w.map (ofB l) = z := fun z => by
    induction z with
    | nil => intro _; exact ⟨[], lets_nil _, rfl⟩
    | cons g z ih =>
      intro hz
      obtain ⟨w, w1, w2⟩ := ih (fun x hx => hz x (List.mem_cons_of_mem _ hx))
      obtain ⟨b, b1, b2⟩ := hgn g (hz g List.mem_cons_self)
      exact ⟨b :: w, lets_cons b1 w1, by rw [List.map_cons, b2, w2]⟩
  have hrun : ∀ q, q < n → ∃ p, p < nSt s' c ∧ ∀ z, lets 256 z → obsA tk nx q (z.map (ofB l)) = obsA (markN s' c) (fun p b => leadI (leadN s' c p b)) p z := fun q hq => by
    obtain ⟨u, u1, u2, u3⟩ := htx q hq
    cases e : runA (fun p b => leadI (leadN s' c p b)) 0 u with
    | some p =>
      refine ⟨p, runA_lt hcan.au u 0 p hcan.au.pos u1 e, fun z hz => ?_⟩
      have := hob (u ++ z) (lets_app u1 hz)
      rw [List.map_append, obsA_app u2, obsA_app e] at this
      exact this
    | none =>
      exfalso
      by_cases h0 : q = 0
      · rw [u3 h0, runA] at e; cases e
      · obtain ⟨p, g, h1, h2, h3⟩ := hor.d2 q (by omega) hq
        obtain ⟨z, z1, z2⟩ := hli p g (by omega) h2 (by omega)
        rw [h3, Int.toNat_natCast] at z2
        obtain ⟨w, w1, w2⟩ := hz z z1
        have := hob (u ++ w) (lets_app u1 w1)
        rw [List.map_append, obsA_app u2, w2] at this
        have hno : obsA (markN s' c) (fun p b => leadI (leadN s' c p b)) 0 (u ++ w) = 0 := by
          unfold obsA; rw [runA_app, e]
        rw [hno] at this
        exact z2 this
  have hg : ∃ g : Nat → Nat, ∀ q, q < n → g q < nSt s' c ∧ ∀ z, lets 256 z → obsA tk nx q (z.map (ofB l)) = obsA (markN s' c) (fun p b => leadI (leadN s' c p b)) (g q) z :=
    ⟨fun q => if h : q < n then Classical.choose (hrun q h) else 0, fun q hq => by simp only [dif_pos hq]; exact Classical.choose_spec (hrun q hq)⟩
  obtain ⟨g, hg⟩ := hg
  obtain ⟨i, j, h1, h2, h3⟩ := pigeon2 100 101 (fun i => g (f i)) (fun i hi => by have := (hg (f i) (hf i hi)).1; omega) (by omega)
  have hnE := hne i j (by omega) h2 (by omega)
  obtain ⟨z, z1, z2⟩ := told_apart hau hli r (f i) (f j) (hf i (by omega)) (hf j h2) hnE
  obtain ⟨w, w1, w2⟩ := hz z z1
  refine z2 ?_
  rw [← w2, (hg (f i) (hf i (by omega))).2 w w1, (hg (f j) (hf j h2)).2 w w1, h3]
theorem few_sets {l : List RuleX} {c : Nat} {A : Nat → Nat → Bool} {next : Nat → Int} {begin : Int} {la G : List Int} {of_ : Nat → Nat} (h : CondNet l c A next begin la G of_) (hn : sumNp l ≤ 6) {q : Nat} (hq : q < rawN next begin G) : (rawS next begin G q).toNat < 2 ^ 6 := by
  by_cases h0 : q = 0
  · have hz := (spreadP_ok next begin G).1.zero
    have : rawS next begin G q = 0 := by
      unfold rawS; rw [h0, List.getD_eq_getElem?_getD, hz]; rfl
    rw [this]; decide
  · obtain ⟨p, g, h1, h2, h3⟩ := (raw_order next begin G).d2 q (by omega) hq
    have hr := raw_row next begin G (p := p) (g := g) (by omega) h2
    rcases hr with ⟨e, _⟩ | ⟨q', e1, _, e2, _, _⟩
    · omega
    · have eq : q' = q := by omega
      subst eq
      have e3 : rawS next begin G q' = _ := e2
      have hsa : isSet (if p = 0 then begin else behP next (rawS next begin G p)) := by
        split
        · exact h.bs
        · exact behP_set (fun p _ => h.ns p) _
      rw [e3]
      apply Nat.lt_pow_two_of_testBit
      intro i hi
      have hin := inS_and hsa (h.gs g h2) i
      unfold inS at hin
      rw [hin]
      have : inS (G.getD g 0) i = false := by
        cases hh : inS (G.getD g 0) i with
        | false => rfl
        | true =>
          obtain ⟨b, b1, b2⟩ := h.gn g h2
          rw [← b2] at hh
          have := h.far i b b1 ((h.gf b b1 i).1 hh)
          omega
      unfold inS at this
      rw [this, Bool.and_false]
theorem many_few {l : List RuleX} (hl : ∀ x ∈ l, RuleOk x) (hn : sumNp l ≤ 6) {c : Nat} (hc : c < 4) : ¬ TooMany l c := by
  intro hm
  have hcn := cond_net l hl (by omega) c hc
  obtain ⟨f, r, hf, hne⟩ := hm
  obtain ⟨i, j, h1, h2, h3⟩ := pigeon2 (2 ^ 6) 101 (fun i => (rawS (netN (putRules st0 l).nodes) (begC4 l c) (grpG l) (f i)).toNat) (fun i hi => few_sets hcn hn (hf i hi)) (by decide)
  have hij := hne i j (by omega) h2 (by omega)
  have s1 := hcn.state (hf i (by omega))
  have s2 := hcn.state (hf j h2)
  have e : rawS (netN (putRules st0 l).nodes) (begC4 l c) (grpG l) (f i) = rawS (netN (putRules st0 l).nodes) (begC4 l c) (grpG l) (f j) := by
    have := s1.1
    have := s2.1
    omega
  have hnd := (spreadP_ok (netN (putRules st0 l).nodes) (begC4 l c) (grpG l)).1.nd
  have a1 := hf i (by omega)
  have a2 := hf j h2
  have : f i = f j := by
    unfold rawS at e
    unfold rawN at a1 a2
    rw [List.getD_eq_getElem?_getD, List.getD_eq_getElem?_getD, List.getElem?_eq_getElem a1, List.getElem?_eq_getElem a2] at e
    exact (List.getElem_inj hnd).1 e
  rw [this] at hij
  exact hij (Eqv.refl _ _)
end Go.Stn

/- Plain mathematics: what Compile makes of a file of trees; both spellings have the same image. -/
namespace Go.Stn
open Go.Proofs.Ytgjgjgihceijnaa (netN netF netL fileSt compP)
theorem aF_zero : aF 0 = true := rfl
theorem aF_pos {j : Nat} (h : 0 < j) : aF j = false := by unfold aF set1 zeroF; rw [if_neg (by omega)]
theorem cntR_aF {x : (Nat → Bool) × Int × Int} (h1 : x.1 = aF) (h2 : x.2.1 = 0) : cntR x 1 = 1 := by
  obtain ⟨a, b, c⟩ := x
  simp only at h1 h2
  subst h1 h2
  rfl
theorem fileConds_aF : ∀ (l : List ((Nat → Bool) × Int × Int)), (∀ x ∈ l, x.1 = aF ∧ x.2.1 = 0) → fileConds l 1 = 1
  | [], _ => rfl
  | x :: l, h => by
    rw [fileConds, cntR_aF (h x List.mem_cons_self).1 (h x List.mem_cons_self).2]
    exact fileConds_aF l (fun y hy => h y (List.mem_cons_of_mem _ hy))
theorem nConds_tr {o : Bool} {rs : List Tr} (hn : sumNp (rulesOf o rs) ≤ 10) : nConds (rulesOf o rs) = 1 := by
  unfold nConds
  refine fileConds_aF _ (fun x hx => ?_)
  have hru := (net_ok (rulesOf o rs) hn).2
  have : (x.1, x.2.1) ∈ (putRules st0 (rulesOf o rs)).rules.map (fun x => (x.1, x.2.1)) := List.mem_map.2 ⟨x, hx, rfl⟩
  rw [hru, List.mem_map] at this
  obtain ⟨y, hy, e⟩ := this
  unfold rulesOf at hy
  rw [List.mem_map] at hy
  obtain ⟨r, _, rfl⟩ := hy
  injection e with e1 e2
  exact ⟨e1.symm, e2.symm⟩
theorem tok_tr {rs : List Tr} (hg : ∀ r ∈ rs, r.good) {c : Nat} {w : List Nat} {v : Nat} (h : isTok (rulesOf false rs) c w v) : isTok (rulesOf true rs) c w v := by
  have hget : ∀ (o : Bool) (r : Nat) (x : RuleX), (rulesOf o rs)[r]? = some x → ∃ q, rs[r]? = some q ∧ x = ruleOfT o q := fun o r x hx => by
    unfold rulesOf at hx
    rw [List.getElem?_map] at hx
    cases e : rs[r]? with
    | none => rw [e] at hx; cases hx
    | some q => rw [e] at hx; injection hx with hx; exact ⟨q, rfl, hx.symm⟩
  have hput : ∀ (o : Bool) (r : Nat) (q : Tr), rs[r]? = some q → (rulesOf o rs)[r]? = some (ruleOfT o q) := fun o r q hq => by
    unfold rulesOf; rw [List.getElem?_map, hq]; rfl
  have hw : ∀ (r : Nat) (q : Tr), rs[r]? = some q → (((ruleOfT false q).1 c = true ∧ W (ruleOfT false q).2.2 w) ↔ ((ruleOfT true q).1 c = true ∧ W (ruleOfT true q).2.2 w)) := fun r q hq => by
    have := q.same_W (hg q (List.mem_of_getElem? hq)) w
    show (aF c = true ∧ W q.rxT w) ↔ (aF c = true ∧ W q.rxO w)
    rw [this]
  rcases h with ⟨h1, h2⟩ | ⟨r, x, h1, h2, h3, h4⟩
  · refine .inl ⟨h1, fun r x hx hh => ?_⟩
    obtain ⟨q, q1, rfl⟩ := hget true r x hx
    exact h2 r _ (hput false r q q1) ((hw r q q1).2 hh)
  · obtain ⟨q, q1, rfl⟩ := hget false r x h2
    refine .inr ⟨r, ruleOfT true q, h1, hput true r q q1, (hw r q q1).1 h3, fun r' x' hr hx' hh => ?_⟩
    obtain ⟨q', q1', rfl⟩ := hget true r' x' hx'
    exact h4 r' _ hr (hput false r' q' q1') ((hw r' q' q1').2 hh)
theorem isTok_ex (l : List RuleX) (c : Nat) (w : List Nat) : ∃ v, isTok l c w v := by
  by_cases h : ∃ (r : Nat) (x : RuleX), l[r]? = some x ∧ (x.1 c = true ∧ W x.2.2 w)
  · have : ∀ n, (∃ (r : Nat) (x : RuleX), r < n ∧ l[r]? = some x ∧ (x.1 c = true ∧ W x.2.2 w)) → ∃ v, isTok l c w v := by
      intro n
      induction n with
      | zero => rintro ⟨r, x, h, _⟩; omega
      | succ n ih =>
        rintro ⟨r, x, h1, h2, h3⟩
        by_cases e : ∃ (r : Nat) (x : RuleX), r < n ∧ l[r]? = some x ∧ (x.1 c = true ∧ W x.2.2 w)
        · exact ih e
        · exact ⟨r + 1, .inr ⟨r, x, rfl, h2, h3, fun r' x' hr hx' hh => e ⟨r', x', by omega, hx', hh⟩⟩⟩
    obtain ⟨r, x, h1, h2⟩ := h
    exact this (r + 1) ⟨r, x, by omega, h1, h2⟩
  · exact ⟨0, .inl ⟨rfl, fun r x hx hh => h ⟨r, x, hx, hh⟩⟩⟩
theorem same_tr {rs : List Tr} (hg : ∀ r ∈ rs, r.good) (h1 : sumC false rs ≤ 10) (h2 : sumC true rs ≤ 10) : SameTok (rulesOf false rs) (rulesOf true rs) := by
  refine ⟨by simp [rulesOf], by rw [nConds_tr (by rw [sumNp_tr]; exact h1), nConds_tr (by rw [sumNp_tr]; exact h2)], fun i x x' hx hx' => ?_, fun c w v => ⟨tok_tr hg, fun h => ?_⟩⟩
  · have : ∀ (o : Bool) (x : RuleX), (rulesOf o rs)[i]? = some x → x.2.1 = 0 := fun o x hx => by
      have := List.mem_of_getElem? hx
      unfold rulesOf at this
      rw [List.mem_map] at this
      obtain ⟨r, _, rfl⟩ := this
      rfl
    rw [this false x hx, this true x' hx']
  · obtain ⟨v', hv'⟩ := isTok_ex (rulesOf false rs) c w
    rw [isTok_one h (tok_tr hg hv')]
    exact hv'

/-- A file of trees, in one of its spellings. -/
structure TrText (o : Bool) (rs : List Tr) (t : ByteArray) : Prop where
  g : ∀ r ∈ rs, r.good
  ne : rs ≠ []
  st : Stands t 0 (fileTx (rs.map (Tr.sp o)))
  sz : t.size = (fileTx (rs.map (Tr.sp o))).length

theorem comp_bad {t : ByteArray} {k : Int} (h : parseC t = k) (hk : k ≠ 0) : compP t = ([], k) := by
  unfold Go.Proofs.Ytgjgjgihceijnaa.compP
  rw [if_neg (by rw [h]; exact hk), h]
theorem comp_tr {o : Bool} {rs : List Tr} {t : ByteArray} (h : TrText o rs t) : (120 < t.size → compP t = ([], 1)) ∧ (t.size ≤ 120 → 8 < rs.length → compP t = ([], 2)) ∧ (t.size ≤ 120 → rs.length ≤ 8 → 10 < sumC o rs → compP t = ([], 3)) ∧
    (t.size ≤ 120 → rs.length ≤ 8 → sumC o rs ≤ 10 → (compP t = ([], 4) ∧ 6 < sumC o rs ∧ TooMany (rulesOf o rs) 0) ∨ ((compP t).2 = 0 ∧ (compP t).1 ≠ [] ∧ ImgFile (rulesOf o rs) ⟨(compP t).1.toArray⟩)) := by
  have hp := parse_tr h.g h.ne h.st h.sz
  refine ⟨fun h1 => comp_bad (by rw [hp, if_pos h1]) (by decide), fun h1 h2 => comp_bad (by rw [hp, if_neg (by omega), if_pos h2]) (by decide), fun h1 h2 h3 => comp_bad (by rw [hp, if_neg (by omega), if_neg (by omega), if_pos h3]) (by decide), fun h1 h2 h3 => ?_⟩
  rw [if_neg (by omega), if_neg (by omega), if_neg (by omega)] at hp
  have hf := file_tr h.g h.ne h.st h.sz
  rw [if_pos h2] at hf
  have hok := fileX_ok hf
  rcases comp_cases t with ⟨e, _⟩ | ⟨_, l, hl, hn, hc⟩
  · exact absurd hp e
  · rw [hf] at hl
    injection hl with hl
    subst hl
    have hn1 := nConds_tr hn
    rcases hc with ⟨e1, c, hc, hm⟩ | ⟨ls, ht, e⟩
    · have hc0 : c = 0 := by omega
      subst hc0
      refine .inl ⟨e1, ?_, hm⟩
      apply Classical.byContradiction
      intro hcon
      exact many_few hok.1 (by rw [sumNp_tr]; omega) (by omega) hm
    · right
      have hi := img_file hok.1 hok.2.1 hok.2.2 hn ht
      rw [e]
      refine ⟨rfl, fun hnil => ?_, hi⟩
      have hz := (img_head hi.ok).2.2.2.2
      simp only at hnil
      rw [hnil] at hz
      have : (⟨([] : List UInt8).toArray⟩ : ByteArray).size = 0 := rfl
      omega
/-- Two spellings, one image. -/
theorem comp_alike {rs : List Tr} {t t' : ByteArray} (h : TrText false rs t) (h' : TrText true rs t') (h1 : t.size ≤ 120) (h2 : t'.size ≤ 120) (h8 : rs.length ≤ 8) (h3 : sumC false rs ≤ 10) (h4 : sumC true rs ≤ 10) : compP t = compP t' := by
  have hs := same_tr h.g h3 h4
  have hok : ∀ o t, TrText o rs t → ∀ x ∈ rulesOf o rs, RuleOk x := fun o t h => by
    have hf := file_tr h.g h.ne h.st h.sz
    rw [if_pos h8] at hf
    exact (fileX_ok hf).1
  have hn := nConds_tr (o := false) (rs := rs) (by rw [sumNp_tr]; exact h3)
  have hn' := nConds_tr (o := true) (rs := rs) (by rw [sumNp_tr]; exact h4)
  rcases (comp_tr h).2.2.2 h1 h8 h3 with ⟨e, _, m⟩ | ⟨e1, e2, i⟩ <;> rcases (comp_tr h').2.2.2 h2 h8 h4 with ⟨e', _, m'⟩ | ⟨e1', e2', i'⟩
  · rw [e, e']
  · exact absurd m (many_other (hok false t h) (by rw [sumNp_tr]; exact h3) hs i' (by omega))
  · exact absurd m' (many_other (hok true t' h') (by rw [sumNp_tr]; exact h4) hs.symm i (by omega))
  · have hi := img_same hs i i'
    injection hi with hi
    have hi := congrArg Array.toList hi
    simp only at hi
    exact Prod.ext hi (by rw [e1, e1'])
end Go.Stn

/- Plain mathematics: what stencilkeep's built puts together is a file of trees, within bounds. -/
namespace Go.Stn
theorem buildK_ne {ops : List OpK} {k : Nat} (h : k < ops.length) : (buildK ops (k + 1)).2 ≠ [] := by
  rw [buildK_succ (List.getElem?_eq_getElem h)]
  unfold stepP
  simp
/-- The trees that some steps put together. -/
def opTrees (ops : List OpK) : List Tr := treesOf (builtP ops).1 (builtP ops).2
theorem opTrees_len (ops : List OpK) : (opTrees ops).length = (builtP ops).2.length := treesOf_len _ _
theorem opTrees_ok (ops : List OpK) : opTrees ops ≠ [] ∧ (∀ r ∈ opTrees ops, r.good) ∧ pileL (opTrees ops) ≤ 500 * ops.length + 10 ∧ (opTrees ops).length ≤ ops.length + 1 ∧ (builtP ops).1.length ≤ ops.length + 1 := by
  have h := buildK_ok ops ops.length (Nat.le_refl _)
  by_cases h0 : (buildK ops ops.length).2.length = 0
  · have hz : ops.length = 0 := by
      apply Classical.byContradiction
      intro hc
      obtain ⟨k, hk⟩ : ∃ k, ops.length = k + 1 := ⟨ops.length - 1, by omega⟩
      have := buildK_ne (ops := ops) (k := k) (by omega)
      rw [← hk] at this
      exact this (List.length_eq_zero_iff.1 h0)
    have hops : ops = [] := List.length_eq_zero_iff.1 hz
    subst hops
    have e : opTrees [] = [(leafP ⟨0, 0, 0⟩).tr] := rfl
    have e2 : (builtP []).1.length = 1 := rfl
    rw [e, e2]
    refine ⟨by simp, fun r hr => ?_, ?_, by simp, by simp⟩
    · rw [List.mem_singleton] at hr; rw [hr]; exact leafP_good _
    · have := leafP_len ⟨0, 0, 0⟩
      show (leafP ⟨0, 0, 0⟩).tr.oth.length + 0 ≤ _
      omega
  · have e : builtP ops = buildK ops ops.length := by unfold builtP; rw [if_neg h0]
    have e2 : opTrees ops = treesOf (buildK ops ops.length).1 (buildK ops ops.length).2 := by unfold opTrees; rw [e]
    have hl : (opTrees ops).length = (buildK ops ops.length).2.length := by rw [e2, treesOf_len]
    refine ⟨fun hc => ?_, fun r hr => ?_, ?_, ?_, ?_⟩
    · rw [hc] at hl; simp at hl; omega
    · rw [e2] at hr
      unfold treesOf at hr
      rw [List.mem_map] at hr
      obtain ⟨t, ht, rfl⟩ := hr
      obtain ⟨j, hj, ej⟩ := List.getElem_of_mem ht
      have hlt := h.ok j t (by rw [List.getElem?_eq_getElem hj, ej])
      rw [List.getD_eq_getElem?_getD, List.getElem?_eq_getElem hlt]
      exact h.g _ (List.getElem_mem hlt)
    · rw [e2]; have := h.pl; omega
    · have := h.tl; omega
    · rw [e]; have := h.al; omega
/-- All letters of a tree's spellings are bytes. -/
theorem Tr.bytes : ∀ r : Tr, r.good → (∀ b ∈ r.txt, b < 256) ∧ ∀ b ∈ r.oth, b < 256
  | .let1 a, h => by
    have h : lowL a := h
    unfold lowL at h
    refine ⟨fun b hb => ?_, fun b hb => ?_⟩
    · simp [Tr.txt] at hb; omega
    · simp [Tr.oth] at hb; omega
  | .two a c, h => by
    obtain ⟨h1, h2⟩ := h
    unfold lowL at h1 h2
    refine ⟨fun b hb => ?_, fun b hb => ?_⟩
    · simp [Tr.txt] at hb; omega
    · simp [Tr.oth] at hb; omega
  | .any, _ => by
    refine ⟨fun b hb => ?_, fun b hb => ?_⟩
    · simp [Tr.txt] at hb; omega
    · simp [Tr.oth] at hb; omega
  | .row a c, h => by
    obtain ⟨a1, a2⟩ := a.bytes h.1
    obtain ⟨c1, c2⟩ := c.bytes h.2
    refine ⟨fun b hb => ?_, fun b hb => ?_⟩
    · simp only [Tr.txt, List.mem_cons, List.mem_append, List.not_mem_nil, or_false] at hb
      rcases hb with e | e | e | e
      · omega
      · exact a1 b e
      · exact c1 b e
      · omega
    · simp only [Tr.oth, List.mem_cons, List.mem_append, List.not_mem_nil, or_false] at hb
      rcases hb with e | e | e | e | e | e
      · omega
      · exact a2 b e
      · omega
      · omega
      · exact c2 b e
      · omega
  | .or2 a c, h => by
    obtain ⟨a1, a2⟩ := a.bytes h.1
    obtain ⟨c1, c2⟩ := c.bytes h.2
    refine ⟨fun b hb => ?_, fun b hb => ?_⟩
    · simp only [Tr.txt, List.mem_cons, List.mem_append, List.not_mem_nil, or_false] at hb
      rcases hb with e | e | e | e | e
      · omega
      · exact a1 b e
      · omega
      · exact c1 b e
      · omega
    · simp only [Tr.oth, List.mem_cons, List.mem_append, List.not_mem_nil, or_false] at hb
      rcases hb with e | e | e | e | e | e | e
      · omega
      · exact c2 b e
      · omega
      · exact a2 b e
      · omega
      · exact c2 b e
      · omega
  | .many a, h => by
    obtain ⟨a1, a2⟩ := a.bytes h
    refine ⟨fun b hb => ?_, fun b hb => ?_⟩
    · simp only [Tr.txt, List.mem_cons, List.mem_append, List.not_mem_nil, or_false] at hb
      rcases hb with e | e | e | e
      · omega
      · exact a1 b e
      · omega
      · omega
    · simp only [Tr.oth, List.mem_cons, List.mem_append, List.not_mem_nil, or_false] at hb
      rcases hb with e | e | e | e | e | e | e
      · omega
      · omega
      · exact a2 b e
      all_goals omega
  | .once a, h => by
    obtain ⟨a1, a2⟩ := a.bytes h
    refine ⟨fun b hb => ?_, fun b hb => ?_⟩
    · simp only [Tr.txt, List.mem_cons, List.mem_append, List.not_mem_nil, or_false] at hb
      rcases hb with e | e | e | e
      · omega
      · exact a1 b e
      · omega
      · omega
    · simp only [Tr.oth, List.mem_cons, List.mem_append, List.not_mem_nil, or_false] at hb
      rcases hb with e | e | e | e | e | e | e
      · omega
      · exact a2 b e
      · omega
      · omega
      · exact a2 b e
      all_goals omega
  | .may a, h => by
    obtain ⟨a1, a2⟩ := a.bytes h
    refine ⟨fun b hb => ?_, fun b hb => ?_⟩
    · simp only [Tr.txt, List.mem_cons, List.mem_append, List.not_mem_nil, or_false] at hb
      rcases hb with e | e | e | e
      · omega
      · exact a1 b e
      · omega
      · omega
    · simp only [Tr.oth, List.mem_cons, List.mem_append, List.not_mem_nil, or_false] at hb
      rcases hb with e | e | e | e | e | e | e
      · omega
      · omega
      · exact a2 b e
      all_goals omega
theorem Tr.sp_bytes (o : Bool) (r : Tr) (h : r.good) : ∀ b ∈ r.sp o, b < 256 := by
  cases o
  · exact (r.bytes h).1
  · exact (r.bytes h).2
theorem ruleTx_bytes {e : List Nat} (h : ∀ b ∈ e, b < 256) : ∀ b ∈ ruleTx e, b < 256 := fun b hb => by
  simp only [ruleTx, List.mem_cons, List.mem_append, List.not_mem_nil, or_false] at hb
  rcases hb with e | e | e | e | e
  · omega
  · omega
  · exact h b e
  · omega
  · omega
theorem tailTx_bytes : ∀ (l : List (List Nat)), (∀ e ∈ l, ∀ b ∈ e, b < 256) → ∀ b ∈ tailTx l, b < 256
  | [], _, b, hb => absurd hb List.not_mem_nil
  | e :: l, h, b, hb => by
    simp only [tailTx, List.mem_cons, List.mem_append] at hb
    rcases hb with e1 | e1 | e1
    · omega
    · exact ruleTx_bytes (h e List.mem_cons_self) b e1
    · exact tailTx_bytes l (fun x hx => h x (List.mem_cons_of_mem _ hx)) b e1
theorem fileTx_bytes : ∀ (l : List (List Nat)), (∀ e ∈ l, ∀ b ∈ e, b < 256) → ∀ b ∈ fileTx l, b < 256
  | [], _, b, hb => absurd hb List.not_mem_nil
  | e :: l, h, b, hb => by
    simp only [fileTx, List.mem_append] at hb
    rcases hb with e1 | e1
    · exact ruleTx_bytes (h e List.mem_cons_self) b e1
    · exact tailTx_bytes l (fun x hx => h x (List.mem_cons_of_mem _ hx)) b e1
theorem bt_bA {u : List Nat} {i b : Nat} (h : u[i]? = some b) (hb : b < 256) : bt (bA u) i = b := by
  unfold bt bA
  simp only [List.getD_eq_getElem?_getD, List.getElem?_map, h, Option.map_some, Option.getD_some]
  simp
  omega
theorem stands_at {u : List Nat} (h : ∀ b ∈ u, b < 256) : ∀ (v : List Nat) (a : Nat), u.drop a = v → Stands (bA u) a v
  | [], _, _ => trivial
  | b :: v, a, e => by
    have hg : u[a]? = some b := by rw [← List.head?_drop, e]; rfl
    have ha : a < u.length := (List.getElem?_eq_some_iff.1 hg).1
    refine ⟨?_, stands_at h v (a + 1) ?_⟩
    · rw [peekP_at (by rw [bA_size]; exact ha), bt_bA hg (h b (List.mem_of_getElem? hg))]
    · rw [← List.drop_drop, e]; rfl
theorem tailTx_sum (o : Bool) : ∀ rs : List Tr, (tailTx (rs.map (Tr.sp o))).length ≤ pileL rs + 5 * rs.length
  | [] => Nat.le_refl _
  | r :: l => by
    have := tailTx_sum o l
    have h1 := txt_le r
    have h2 : (r.sp o).length ≤ r.oth.length := by cases o; exact h1.1; exact Nat.le_refl _
    simp only [List.map_cons, tailTx, List.length_cons, List.length_append, ruleTx_len, pileL]
    omega
theorem fileTx_sum (o : Bool) (rs : List Tr) : (fileTx (rs.map (Tr.sp o))).length ≤ pileL rs + 5 * rs.length := by
  have := tailTx_sum o rs
  cases rs with
  | nil => exact Nat.zero_le _
  | cons r l => simp only [List.map_cons, tailTx, fileTx, List.length_cons] at *; omega
theorem sumC_pile (o : Bool) : ∀ rs : List Tr, sumC o rs ≤ pileL rs
  | [] => Nat.le_refl _
  | r :: l => by
    have := sumC_pile o l
    have h1 := txt_le r
    have h2 : r.cnt o ≤ r.oth.length := by
      cases o
      · exact Nat.le_trans h1.2.1 h1.1
      · exact h1.2.2
    show r.cnt o + sumC o l ≤ r.oth.length + pileL l
    omega
/-- The text of the rules. -/
def opText (o : Bool) (ops : List OpK) : ByteArray := bA (fileTx ((opTrees ops).map (Tr.sp o)))
theorem opText_tr (o : Bool) (ops : List OpK) : TrText o (opTrees ops) (opText o ops) := by
  obtain ⟨h1, h2, _⟩ := opTrees_ok ops
  refine ⟨h2, h1, stands_at (fileTx_bytes _ (fun e he b hb => ?_)) _ 0 rfl, bA_size _⟩
  rw [List.mem_map] at he
  obtain ⟨r, hr, rfl⟩ := he
  exact r.sp_bytes o (h2 r hr) b hb
theorem opText_bounds (o : Bool) {ops : List OpK} (hn : ops.length ≤ 1100000) : (fileTx ((opTrees ops).map (Tr.sp o))).length ≤ 1000000000000 ∧ sumC o (opTrees ops) ≤ 1000000000000 ∧ (opTrees ops).length ≤ 2000000 := by
  obtain ⟨_, _, h3, h4, _⟩ := opTrees_ok ops
  have := fileTx_sum o (opTrees ops)
  have := sumC_pile o (opTrees ops)
  omega
end Go.Stn

