/- Texts put together: KpMem, StPure, StAlike, ScHope, ScLead, ScLongest. -/
import Derived.Test.YtgjgjgihceijnaaG05
import Derived.Test.YtgjgjgihceijnaaG01
import Derived.Test.YtgjgjgihceijnaaG02
import Derived.Test.YtgjgjgihceijnaaG03
/- Lists of numbers and tables in memory: what a later call leaves of them. -/
namespace Go.Stn
open Go.RowKit
/-- Numbers as they lie in memory. -/
def natR (n : Nat) (f : Nat → Nat) : List Value := (List.range n).map fun i => Value.int .i64 (f i : Int)
theorem natR_len (n : Nat) (f : Nat → Nat) : (natR n f).length = n := by simp [natR]
theorem natR_succ (n : Nat) (f : Nat → Nat) : natR (n + 1) f = natR n f ++ [.int .i64 (f n : Int)] := by unfold natR; rw [List.range_succ, List.map_append]; rfl
theorem natR_get {n : Nat} {f : Nat → Nat} {i : Nat} (h : i < n) : (natR n f)[i]? = some (.int .i64 (f i : Int)) := by unfold natR; rw [List.getElem?_map, List.getElem?_range h]; rfl

/-- A list that lies at the head of a block of which P holds. -/
def RowIn (w : World) (P : Nat → Prop) (v : Value) (cs : List Value) : Prop := ∃ g cap, v = .slice (some ⟨g, 0, none⟩) cs.length cap ∧ P g ∧ w.rangeAt g 0 cs
theorem RowIn.keep {w w' : World} {P P' : Nat → Prop} {v : Value} {cs : List Value} (h : RowIn w P v cs) (hk : ∀ k, P k → w'.heap[k]? = w.heap[k]? ∧ P' k) : RowIn w' P' v cs := by
  obtain ⟨g, cap, e, hp, hr⟩ := h
  exact ⟨g, cap, e, (hk g hp).2, rangeAt_block hr (hk g hp).1⟩
/-- The rows of a table. -/
def TRows (w : World) (P : Nat → Prop) (rs : List Value) (K : Nat) (dst : Nat → Nat → Nat) : Prop := ∀ i v, rs[i]? = some v → RowIn w P v (natR K (dst i))
theorem TRows.keep {w w' : World} {P P' : Nat → Prop} {rs : List Value} {K : Nat} {dst : Nat → Nat → Nat} (h : TRows w P rs K dst) (hk : ∀ k, P k → w'.heap[k]? = w.heap[k]? ∧ P' k) : TRows w' P' rs K dst := fun i v hv => (h i v hv).keep hk
theorem TRows.snoc {w : World} {P : Nat → Prop} {rs : List Value} {K : Nat} {dst : Nat → Nat → Nat} (h : TRows w P rs K dst) {v : Value} (hv : RowIn w P v (natR K (dst rs.length))) : TRows w P (rs ++ [v]) K dst := fun i u hu => by
  by_cases hi : i < rs.length
  · rw [List.getElem?_append_left hi] at hu; exact h i u hu
  · have hlen := (List.getElem?_eq_some_iff.1 hu).1
    simp at hlen
    have e : i = rs.length := by omega
    subst e
    rw [List.getElem?_append_right (Nat.le_refl _)] at hu
    simp at hu
    subst hu
    exact hv
/-- A table: its marks, its rows. -/
def TabIn (w : World) (P : Nat → Prop) (v1 v2 : Value) (n K : Nat) (mk : Nat → Nat) (dst : Nat → Nat → Nat) : Prop :=
  RowIn w P v1 (natR n mk) ∧ ∃ rs : List Value, rs.length = n ∧ RowIn w P v2 rs ∧ TRows w P rs K dst
theorem TabIn.keep {w w' : World} {P P' : Nat → Prop} {v1 v2 : Value} {n K : Nat} {mk : Nat → Nat} {dst : Nat → Nat → Nat} (h : TabIn w P v1 v2 n K mk dst) (hk : ∀ k, P k → w'.heap[k]? = w.heap[k]? ∧ P' k) : TabIn w' P' v1 v2 n K mk dst := by
  obtain ⟨h1, rs, h2, h3, h4⟩ := h
  exact ⟨h1.keep hk, rs, h2, h3.keep hk, h4.keep hk⟩
/-- Tables, one behind the other, as the cells of a list. -/
def TabsIn (w : World) (P : Nat → Prop) (ts : List Value) (m K : Nat) (n : Nat → Nat) (mk : Nat → Nat → Nat) (dst : Nat → Nat → Nat → Nat) : Prop :=
  ∀ c, c < m → ∃ v1 v2, ts[2 * c]? = some v1 ∧ ts[2 * c + 1]? = some v2 ∧ TabIn w P v1 v2 (n c) K (mk c) (dst c)
theorem TabsIn.keep {w w' : World} {P P' : Nat → Prop} {ts : List Value} {m K : Nat} {n : Nat → Nat} {mk : Nat → Nat → Nat} {dst : Nat → Nat → Nat → Nat} (h : TabsIn w P ts m K n mk dst) (hk : ∀ k, P k → w'.heap[k]? = w.heap[k]? ∧ P' k) : TabsIn w' P' ts m K n mk dst := fun c hc => by
  obtain ⟨v1, v2, h1, h2, h3⟩ := h c hc
  exact ⟨v1, v2, h1, h2, h3.keep hk⟩
theorem TabsIn.snoc {w : World} {P : Nat → Prop} {ts : List Value} {m K : Nat} {n : Nat → Nat} {mk : Nat → Nat → Nat} {dst : Nat → Nat → Nat → Nat} (h : TabsIn w P ts m K n mk dst) (hl : ts.length = 2 * m) {v1 v2 : Value} (ht : TabIn w P v1 v2 (n m) K (mk m) (dst m)) : TabsIn w P (ts ++ [v1, v2]) (m + 1) K n mk dst := fun c hc => by
  by_cases e : c < m
  · obtain ⟨u1, u2, h1, h2, h3⟩ := h c e
    exact ⟨u1, u2, by rw [List.getElem?_append_left (by omega)]; exact h1, by rw [List.getElem?_append_left (by omega)]; exact h2, h3⟩
  · have e : c = m := by omega
    subst e
    refine ⟨v1, v2, ?_, ?_, ht⟩
    · rw [List.getElem?_append_right (by omega), hl, Nat.sub_self]; rfl
    · rw [List.getElem?_append_right (by omega), hl, show 2 * c + 1 - 2 * c = 1 by omega]; rfl

/-- What an append leaves alone. -/
theorem app_keep {w w1 : World} {o : Obj} {v : Value} {g : Nat} (hgrow : (w.alloc o).grownBy w1 v.ownBlock) (hat : v.ownBlock = some g ∨ g = w.heap.size + 1) :
    w.heap.size < w1.heap.size ∧ ∀ k, k < w.heap.size → v.ownBlock ≠ some k → w1.heap[k]? = w.heap[k]? ∧ g ≠ k := by
  refine ⟨by have := hgrow.size; simp at this; omega, fun k hk hv => ⟨(hgrow.block k (by simp; omega) (fun e => hv e.symm)).trans (Below.heap_alloc w o k hk), fun e => ?_⟩⟩
  subst e
  rcases hat with h | h
  · exact hv h
  · omega
theorem set_keep (w : World) (b i : Nat) (v : Value) {k : Nat} (h : k ≠ b) : (w.setCell ⟨b, i, none⟩ v).heap[k]? = w.heap[k]? := Below.heap_setCell w ⟨b, i, none⟩ v k (by intro e; exact h e)
end Go.Stn

/- Plain functions: what states' merge computes. States by number: tk the token, nx where each group leads. -/
namespace Go.Stn
/-- The part of a state; nowhere's is nowhere. -/
def prtP (pt : Nat → Int) (x : Int) : Int := if x = -1 then -1 else pt x.toNat
/-- Do two states lead alike, up to group k? -/
def ledB (pt : Nat → Int) (nx : Nat → Nat → Int) (s t k : Nat) : Bool := decide (∀ g, g < k → prtP pt (nx s g) = prtP pt (nx t g))
def alikeB (pt : Nat → Int) (tk : Nat → Nat) (nx : Nat → Nat → Int) (K s t : Nat) : Bool := decide (pt s = pt t) && (decide (tk s = tk t) && ledB pt nx s t K)
/-- The first of these with which s is alike; how many there are, if none. -/
def firstP (q : Nat → Nat → Bool) (firsts : List Nat) (s : Nat) : Nat → Nat
  | 0 => firsts.length
  | d + 1 => if q (firsts.getD (firsts.length - (d + 1)) 0) s = true then firsts.length - (d + 1) else firstP q firsts s d
/-- The states from s on, d of them, parted: each one's part, the first of each. -/
def partL (q : Nat → Nat → Bool) : Nat → Nat → List Nat → List Nat → List Nat × List Nat
  | 0, _, fin, firsts => (fin, firsts)
  | d + 1, s, fin, firsts =>
    if firstP q firsts s firsts.length = firsts.length then
      if 100 < firsts.length + 1 then (fin, firsts ++ [s]) else partL q d (s + 1) (fin ++ [firsts.length]) (firsts ++ [s])
    else partL q d (s + 1) (fin ++ [firstP q firsts s firsts.length]) firsts
def listF (l : List Nat) : Nat → Int := fun i => ((l.getD i 0 : Nat) : Int)
def partP (n : Nat) (q : Nat → Nat → Bool) : List Nat × List Nat := partL q n 0 [] []
/-- The rounds of merge: the last parts and their firsts; none: too many. -/
def mergeL (n : Nat) (tk : Nat → Nat) (nx : Nat → Nat → Int) (K : Nat) : Nat → List Nat → Nat → Option (List Nat × List Nat)
  | 0, _, _ => none
  | f + 1, parts, count =>
    if 100 < (partP n (alikeB (listF parts) tk nx K)).2.length then none
    else if (partP n (alikeB (listF parts) tk nx K)).2.length = count then some (partP n (alikeB (listF parts) tk nx K))
    else mergeL n tk nx K f (partP n (alikeB (listF parts) tk nx K)).1 (partP n (alikeB (listF parts) tk nx K)).2.length
/-- A state of each part, out of its first. -/
def gatherP (tk : Nat → Nat) (nx : Nat → Nat → Int) (K : Nat) (fin firsts : List Nat) : List (Nat × List Int) := firsts.map fun s => (tk s, (List.range K).map fun g => prtP (listF fin) (nx s g))

theorem firstP_le (q : Nat → Nat → Bool) (firsts : List Nat) (s : Nat) : ∀ d, firstP q firsts s d ≤ firsts.length := by
  intro d; induction d with
  | zero => exact Nat.le_refl _
  | succ k ih => rw [firstP]; split
                 · omega
                 · exact ih
theorem partL_len (q : Nat → Nat → Bool) : ∀ d s fin firsts, (partL q d s fin firsts).2.length ≤ firsts.length + d ∧ (partL q d s fin firsts).1.length ≤ fin.length + d := by
  intro d; induction d with
  | zero => intro s fin firsts; simp [partL]
  | succ k ih =>
    intro s fin firsts
    rw [partL]
    split
    · split
      · simp
      · have := ih (s + 1) (fin ++ [firsts.length]) (firsts ++ [s]); simp at this ⊢; omega
    · have := ih (s + 1) (fin ++ [firstP q firsts s firsts.length]) firsts; simp at this ⊢; omega
/-- Where the parting went to its end, each state has a part, and below the firsts. -/
theorem partL_ok (q : Nat → Nat → Bool) : ∀ d s fin firsts, (∀ x ∈ fin, x < firsts.length) → (∀ x ∈ firsts, x < s) → (partL q d s fin firsts).2.length ≤ 100 →
    (partL q d s fin firsts).1.length = fin.length + d ∧ (∀ x ∈ (partL q d s fin firsts).1, x < (partL q d s fin firsts).2.length) ∧ ∀ x ∈ (partL q d s fin firsts).2, x < s + d := by
  intro d; induction d with
  | zero => intro s fin firsts h1 h2 _; exact ⟨rfl, h1, h2⟩
  | succ k ih =>
    intro s fin firsts h1 h2 h3
    rw [partL] at h3 ⊢
    split at h3
    · rename_i hf
      rw [if_pos hf]
      split at h3
      · simp at h3; omega
      · rename_i hl
        rw [if_neg hl]
        have := ih (s + 1) (fin ++ [firsts.length]) (firsts ++ [s]) (fun x hx => by
          rcases List.mem_append.1 hx with h | h
          · have := h1 x h; simp; omega
          · simp at h; simp; omega) (fun x hx => by
          rcases List.mem_append.1 hx with h | h
          · have := h2 x h; omega
          · simp at h; omega) h3
        refine ⟨by rw [this.1]; simp; omega, this.2.1, fun x hx => by have := this.2.2 x hx; omega⟩
    · rename_i hf
      rw [if_neg hf]
      have := ih (s + 1) (fin ++ [firstP q firsts s firsts.length]) firsts (fun x hx => by
          rcases List.mem_append.1 hx with h | h
          · exact h1 x h
          · simp at h
            have := firstP_le q firsts s firsts.length; omega) (fun x hx => by have := h2 x hx; omega) h3
      refine ⟨by rw [this.1]; simp; omega, this.2.1, fun x hx => by have := this.2.2 x hx; omega⟩
end Go.Stn

/- states: partOf, alike: walks. -/
namespace Go.Stn
open Go.RowKit
/-- States in memory, below top: their list lies at g. -/
structure SIn (w : World) (top g n K : Nat) (zb : Nat → Nat) (tk : Nat → Nat) (nx : Nat → Nat → Int) : Prop where
  tkc : ∀ s, s < n → w.cell? ⟨g, s * 2, none⟩ = some (.int .i64 (tk s))
  nxc : ∀ s, s < n → w.cell? ⟨g, s * 2 + 1, none⟩ = some (.slice (some ⟨zb s, 0, none⟩) K K)
  ldc : ∀ s k, s < n → k < K → w.cell? ⟨zb s, k, none⟩ = some (.int .i64 (nx s k))
  bg : g < top
  bz : ∀ s, s < n → zb s < top
theorem SIn.below {w w' : World} {top g n K B : Nat} {zb tk : Nat → Nat} {nx : Nat → Nat → Int} (h : SIn w top g n K zb tk nx) (hB : Below B w w') (hb : top ≤ B) : SIn w' top g n K zb tk nx :=
  ⟨fun s hs => (hB.cell (p := ⟨g, s * 2, none⟩) (Nat.lt_of_lt_of_le h.bg hb)).trans (h.tkc s hs), fun s hs => (hB.cell (p := ⟨g, s * 2 + 1, none⟩) (Nat.lt_of_lt_of_le h.bg hb)).trans (h.nxc s hs),
    fun s k hs hk => (hB.cell (p := ⟨zb s, k, none⟩) (Nat.lt_of_lt_of_le (h.bz s hs) hb)).trans (h.ldc s k hs hk), h.bg, h.bz⟩
theorem SIn.drewN {w : World} {top g n K : Nat} {zb tk : Nat → Nat} {nx : Nat → Nat → Int} (h : SIn w top g n K zb tk nx) (q : Nat) : SIn (w.drewN q) top g n K zb tk nx := ⟨h.tkc, h.nxc, h.ldc, h.bg, h.bz⟩
/-- Numbers in memory. -/
def NIn (w : World) (g n : Nat) (f : Nat → Int) : Prop := ∀ i, i < n → w.cell? ⟨g, i, none⟩ = some (.int .i64 (f i))
theorem NIn.below {w w' : World} {g n B : Nat} {f : Nat → Int} (h : NIn w g n f) (hB : Below B w w') (hb : g < B) : NIn w' g n f := fun i hi => (hB.cell (p := ⟨g, i, none⟩) hb).trans (h i hi)
theorem NIn.of_row {w : World} {base e g cap : Nat} {l : List Nat} (h : w.ownsRow base e 1 (.slice (some ⟨g, 0, none⟩) l.length cap) l.length (natC l)) : NIn w g l.length (listF l) := fun i hi => by
  have h1 := h.cells rfl i (.int .i64 (listF l i)) (by
    unfold natC listF
    rw [List.getElem?_map, List.getElem?_eq_getElem hi, List.getD_eq_getElem?_getD, List.getElem?_eq_getElem hi]; rfl)
  by_cases hj : i = 0
  · subst hj; simpa [Addr.add] using h1
  · simpa [Addr.add, hj] using h1
theorem ledB_no {pt : Nat → Int} {nx : Nat → Nat → Int} {s t K g : Nat} (hg : g < K) (h : prtP pt (nx s g) ≠ prtP pt (nx t g)) : ledB pt nx s t K = false := by
  unfold ledB; rw [decide_eq_false_iff_not]; intro q; exact h (q g hg)
theorem ledB_yes {pt : Nat → Int} {nx : Nat → Nat → Int} {s t K : Nat} (h : ∀ g, g < K → prtP pt (nx s g) = prtP pt (nx t g)) : ledB pt nx s t K = true := by
  unfold ledB; rw [decide_eq_true_eq]; exact h
end Go.Stn
namespace Go.Proofs.Ytgjgjgihceijnaa
open Go.RowKit Go.Stn

theorem spartOf_any (pt : Nat → Int) (g n cap : Nat) (x : Int) (w : World) (hx : x = -1 ∨ (0 ≤ x ∧ x < n)) (h : NIn w g n pt) :
    Calls Try.prog 122 #[.slice (some ⟨g, 0, none⟩) n cap, .int .i64 x] w fun e w' => e = .returned (.int .i64 (prtP pt x)) ∧ w' = w := by
  by_cases hm : x = -1
  · subst hm
    go_enter Try.func122, Try.ntmps122
    go_wp2
    go_ret
    exact ⟨rfl, rfl⟩
  · have hd : (x == -1) = false := beq_eq_false_iff_ne.2 hm
    obtain ⟨k, rfl⟩ : ∃ k : Nat, x = (k : Int) := ⟨x.toNat, by omega⟩
    have hk : k < n := by omega
    have hc := h k hk
    have HE : Hid (prtP pt (k : Int) = pt k) := by unfold Hid prtP; rw [if_neg hm]; simp
    have hkI : (0 : Int) ≤ (k : Int) ∧ (k : Int) < (n : Int) := by omega
    clear hm hx h
    go_enter Try.func122, Try.ntmps122
    go_wp2
    go_ret
    exact ⟨by rw [HE.out]; rfl, rfl⟩

set_option maxRecDepth 100000 in
set_option maxHeartbeats 1000000 in
theorem salike_any (pt : Nat → Int) (g n cap K top pg pcap : Nat) (zb tk : Nat → Nat) (nx : Nat → Nat → Int) (s t : Nat) (w : World) (hs : s < n) (ht : t < n) (hK : K ≤ 300)
    (hr : ∀ i k, i < n → k < K → nx i k = -1 ∨ (0 ≤ nx i k ∧ nx i k < n)) (hS : SIn w top g n K zb tk nx) (hP : NIn w pg n pt) :
    Calls Try.prog 121 #[.slice (some ⟨g, 0, none⟩) n cap, .slice (some ⟨pg, 0, none⟩) n pcap, .int .i64 s, .int .i64 t] w fun e w' => e = .returned (.bool (alikeB pt tk nx K s t)) ∧ ∃ q, w' = w.drewN q := by
  have p1 := hP s hs
  have p2 := hP t ht
  have t1 := hS.tkc s hs
  have t2 := hS.tkc t ht
  have n1 := hS.nxc s hs
  have n2 := hS.nxc t ht
  have hsI : (0 : Int) ≤ (s : Int) ∧ (s : Int) < (n : Int) := by omega
  have htI : (0 : Int) ≤ (t : Int) ∧ (t : Int) < (n : Int) := by omega
  have HS := hidZ hS
  have HP := hidZ hP
  have HR := hidZ hr
  clear hS hP hr
  by_cases e1 : pt s = pt t
  · have hd1 : (pt s != pt t) = false := by rw [e1]; simp
    by_cases e2 : tk s = tk t
    · have hd2 : ((tk s : Int) != (tk t : Int)) = false := by rw [e2]; simp
      have HE : Hid (alikeB pt tk nx K s t = ledB pt nx s t K) := by unfold Hid alikeB; rw [decide_eq_true e1, decide_eq_true e2]; simp
      generalize pt s = a1 at *
      generalize pt t = a2 at *
      generalize tk s = a3 at *
      generalize tk t = a4 at *
      clear e1 e2
      go_enter Try.func121, Try.ntmps121
      go_wp2_with fail
      go_quiet (fail)
      go_wp2_with fail
      go_loopw [41] (fun x wr => ∃ (k q : Nat), x = .int .i64 (k : Int) ∧ k ≤ K ∧ wr = w.drewN q ∧ ∀ j, j < k → prtP pt (nx s j) = prtP pt (nx t j)) (fun x _ => K - (intOf x).toNat)
      case atStart => exact ⟨0, nq, rfl, Nat.zero_le _, rfl, fun j hj => absurd hj (Nat.not_lt_zero _)⟩
      case round =>
        obtain ⟨k, q, rfl, hk, rfl, hall⟩ := hrel
        have HA := hidZ hall
        clear hall
        by_cases hlt : k < K
        · have c1 := HS.out.ldc s k hs hlt
          have c2 := HS.out.ldc t k ht hlt
          have HC1 := hidZ (fun W (hW : NIn W pg n pt) => spartOf_any pt pg n pcap (nx s k) W (HR.out s k hs hlt) hW)
          have HC2 := hidZ (fun W (hW : NIn W pg n pt) => spartOf_any pt pg n pcap (nx t k) W (HR.out t k ht hlt) hW)
          have HN := hidZ (@ledB_no pt nx s t K k hlt)
          have HL : Hid (prtP pt (nx s k) = prtP pt (nx t k) → ∀ j, j < k + 1 → prtP pt (nx s j) = prtP pt (nx t j)) := fun h j hj => by
            by_cases e : j = k
            · rw [e]; exact h
            · exact HA.out j (by omega)
          have hkI : (0 : Int) ≤ (k : Int) ∧ (k : Int) < (K : Int) := by omega
          have hd3 : decide ((k : Int) < (K : Int)) = true := by simp; omega
          generalize nx s k = x1 at *
          generalize nx t k = x2 at *
          go_wp2_with fail
          refine (HC1.out (w.drewN q) HP.out).mono ?_
          rintro e w2 ⟨rfl, rfl⟩
          go_wp2_with fail
          refine (HC2.out (w.drewN q) HP.out).mono ?_
          rintro e w2 ⟨rfl, rfl⟩
          by_cases hne : prtP pt x1 = prtP pt x2
          · have hd4 : (prtP pt x1 != prtP pt x2) = false := by rw [hne]; simp
            have HA2 := hidZ (HL.out hne)
            generalize prtP pt x1 = y1 at *
            generalize prtP pt x2 = y2 at *
            clear hne
            go_wp2
            go_roundw
            case rel => exact ⟨k + 1, q, by go_num, hlt, rfl, HA2.out⟩
            case measure => simp [intOf]; omega
          · have hd4 : (prtP pt x1 != prtP pt x2) = true := by rw [bne_iff_ne]; exact hne
            have HE2 := hidZ (HN.out hne)
            generalize prtP pt x1 = y1 at *
            generalize prtP pt x2 = y2 at *
            clear hne
            go_wp2
            go_ret
            exact ⟨by rw [HE.out, HE2.out]; rfl, _, rfl⟩
        · have e : k = K := by omega
          subst e
          have HE2 : Hid (ledB pt nx s t k = true) := ledB_yes HA.out
          have hd3 : decide ((k : Int) < (k : Int)) = false := by simp
          go_wp2
          go_ret
          exact ⟨by rw [HE.out, HE2.out]; rfl, _, rfl⟩
    · have hd2 : ((tk s : Int) != (tk t : Int)) = true := by rw [bne_iff_ne]; omega
      have HE : Hid (alikeB pt tk nx K s t = false) := by unfold Hid alikeB; rw [decide_eq_false e2]; simp
      generalize pt s = a1 at *
      generalize pt t = a2 at *
      generalize tk s = a3 at *
      generalize tk t = a4 at *
      clear e1 e2
      go_enter Try.func121, Try.ntmps121
      go_wp2_with fail
      go_quiet (fail)
      go_wp2
      go_ret
      exact ⟨by rw [HE.out]; rfl, _, rfl⟩
  · have hd1 : (pt s != pt t) = true := by rw [bne_iff_ne]; exact e1
    have HE : Hid (alikeB pt tk nx K s t = false) := by unfold Hid alikeB; rw [decide_eq_false e1]; simp
    generalize pt s = a1 at *
    generalize pt t = a2 at *
    clear e1
    go_enter Try.func121, Try.ntmps121
    go_wp2_with fail
    go_quiet (fail)
    go_wp2
    go_ret
    exact ⟨by rw [HE.out]; rfl, _, rfl⟩
end Go.Proofs.Ytgjgjgihceijnaa

/- Plain mathematics: what is hopeless leads to no token; so looking that stops there finds the longest. -/
namespace Go.Stn

/-- The state behind d bytes from a stand on. -/
def stepFrom (s inp : ByteArray) (c : Nat) : Nat → Nat → Nat → Option Nat
  | st, _, 0 => some st
  | st, i, d + 1 => if leadN s c st (bt inp i) = 255 then none else stepFrom s inp c (leadN s c st (bt inp i)) (i + 1) d

theorem stepFrom_snoc (s inp : ByteArray) (c : Nat) : ∀ d st i, stepFrom s inp c st i (d + 1) =
    match stepFrom s inp c st i d with
    | none => none
    | some t => if leadN s c t (bt inp (i + d)) = 255 then none else some (leadN s c t (bt inp (i + d))) := by
  intro d
  induction d with
  | zero => intro st i; simp [stepFrom]
  | succ e ih =>
    intro st i
    rw [stepFrom]
    split
    · rename_i h; rw [stepFrom, if_pos h]
    · rename_i h
      rw [ih, stepFrom, if_neg h]
      have : i + 1 + e = i + (e + 1) := by omega
      rw [this]

theorem stepTo_from (s inp : ByteArray) (c p : Nat) : ∀ d, stepTo s inp c p d = stepFrom s inp c 0 p d := by
  intro d
  induction d with
  | zero => rfl
  | succ e ih => rw [stepTo, ih, stepFrom_snoc]; cases stepFrom s inp c 0 p e <;> rfl

/-- From this stand on no token comes. -/
def dead (s inp : ByteArray) (c st i : Nat) : Prop := ∀ d t, 1 ≤ d → i + d ≤ inp.size → stepFrom s inp c st i d = some t → markN s c t = 0

/-- All of these are dead. -/
def allDead (s inp : ByteArray) (H : List (Int × Int × Int)) : Prop := ∀ c st i, std c st i ∈ H → dead s inp c st i

theorem dead_end {s inp : ByteArray} {c st i : Nat} (h : ¬ i < inp.size) : dead s inp c st i := by
  intro d t hd hi; omega
theorem dead_nowhere {s inp : ByteArray} {c st i : Nat} (h : leadN s c st (bt inp i) = 255) : dead s inp c st i := by
  intro d t hd hi hs
  obtain ⟨e, rfl⟩ : ∃ e, d = e + 1 := ⟨d - 1, by omega⟩
  rw [stepFrom, if_pos h] at hs; cases hs
theorem dead_step {s inp : ByteArray} {c st i : Nat} (h : leadN s c st (bt inp i) ≠ 255) (hm : markN s c (leadN s c st (bt inp i)) = 0) (hd : dead s inp c (leadN s c st (bt inp i)) (i + 1)) : dead s inp c st i := by
  intro d t h1 hi hs
  obtain ⟨e, rfl⟩ : ∃ e, d = e + 1 := ⟨d - 1, by omega⟩
  rw [stepFrom, if_neg h] at hs
  cases e with
  | zero => rw [stepFrom] at hs; injection hs with hs; rw [← hs]; exact hm
  | succ f => exact hd (f + 1) t (by omega) (by omega) hs

/-- Looking on: the token that is found last; best: that of before. -/
def lookT (s inp : ByteArray) (c : Nat) (H : List (Int × Int × Int)) : Nat → Nat → Nat → Option (Nat × Nat) → Option (Nat × Nat)
  | 0, _, _, best => best
  | d + 1, st, i, best =>
    if memB H (std c st i) = true then best
    else if leadN s c st (bt inp i) = 255 then best
    else lookT s inp c H d (leadN s c st (bt inp i)) (i + 1) (if 0 < markN s c (leadN s c st (bt inp i)) then some (markN s c (leadN s c st (bt inp i)) - 1, i + 1) else best)

/-- Where nothing comes, nothing is found. -/
theorem lookT_dead {s inp : ByteArray} {c : Nat} : ∀ d st i best, i + d ≤ inp.size → dead s inp c st i → lookT s inp c [] d st i best = best := by
  intro d
  induction d with
  | zero => intro st i best _ _; rfl
  | succ e ih =>
    intro st i best hi hd
    rw [lookT, if_neg (by simp [memB])]
    split
    · rfl
    · rename_i h
      have hm : markN s c (leadN s c st (bt inp i)) = 0 := hd 1 _ (by omega) (by omega) (by rw [stepFrom, if_neg h, stepFrom])
      rw [if_neg (by omega)]
      refine ih _ _ _ (by omega) ?_
      intro d t h1 h2 h3
      exact hd (d + 1) t (by omega) (by omega) (by rw [stepFrom, if_neg h]; exact h3)

/-- What is hopeless may be passed by. -/
theorem lookT_hope {s inp : ByteArray} {c : Nat} {H : List (Int × Int × Int)} (hH : allDead s inp H) : ∀ d st i best, i + d ≤ inp.size → lookT s inp c H d st i best = lookT s inp c [] d st i best := by
  intro d
  induction d with
  | zero => intro st i best _; rfl
  | succ e ih =>
    intro st i best hi
    by_cases hm : memB H (std c st i) = true
    · rw [lookT, if_pos hm]
      have hin : std c st i ∈ H := by unfold memB at hm; exact List.contains_iff_mem.1 hm
      exact (lookT_dead (e + 1) st i best hi (hH c st i hin)).symm
    · rw [lookT, if_neg hm]
      conv => rhs; rw [lookT, if_neg (by simp [memB])]
      split
      · rfl
      · exact ih _ _ _ (by omega)

/-- The longest token from a stand on. -/
def longG (s inp : ByteArray) (c st i : Nat) : Nat → Option (Nat × Nat)
  | 0 => none
  | d + 1 => match stepFrom s inp c st i (d + 1) with
    | none => longG s inp c st i d
    | some t => if 0 < markN s c t then some (markN s c t - 1, i + (d + 1)) else longG s inp c st i d

theorem longG_nowhere {s inp : ByteArray} {c st i : Nat} (h : leadN s c st (bt inp i) = 255) : ∀ d, longG s inp c st i d = none := by
  intro d
  induction d with
  | zero => rfl
  | succ e ih =>
    have hs : stepFrom s inp c st i (e + 1) = none := by rw [stepFrom, if_pos h]
    rw [longG, hs]; exact ih

theorem longG_cons {s inp : ByteArray} {c st i : Nat} (h : leadN s c st (bt inp i) ≠ 255) : ∀ d, longG s inp c st i (d + 1) =
    (longG s inp c (leadN s c st (bt inp i)) (i + 1) d).or (if 0 < markN s c (leadN s c st (bt inp i)) then some (markN s c (leadN s c st (bt inp i)) - 1, i + 1) else none) := by
  intro d
  induction d with
  | zero =>
    have hs : stepFrom s inp c st i (0 + 1) = some (leadN s c st (bt inp i)) := by
      conv => lhs; rw [stepFrom, if_neg h]
      rfl
    conv => lhs; rw [longG, hs]
    simp [longG]
  | succ e ih =>
    have hs : stepFrom s inp c st i (e + 1 + 1) = stepFrom s inp c (leadN s c st (bt inp i)) (i + 1) (e + 1) := by
      conv => lhs; rw [stepFrom, if_neg h]
    rw [longG, hs]
    conv => rhs; rw [longG]
    cases stepFrom s inp c (leadN s c st (bt inp i)) (i + 1) (e + 1) with
    | none => exact ih
    | some t =>
      simp only
      by_cases hm : 0 < markN s c t
      · rw [if_pos hm, if_pos hm]; simp; omega
      · rw [if_neg hm, if_neg hm]; exact ih

theorem lookT_long {s inp : ByteArray} {c : Nat} : ∀ d st i best, lookT s inp c [] d st i best = (longG s inp c st i d).or best := by
  intro d
  induction d with
  | zero => intro st i best; simp [lookT, longG]
  | succ e ih =>
    intro st i best
    rw [lookT, if_neg (by simp [memB])]
    by_cases h : leadN s c st (bt inp i) = 255
    · rw [if_pos h, longG_nowhere h]; simp
    · rw [if_neg h, ih, longG_cons h]
      by_cases hm : 0 < markN s c (leadN s c st (bt inp i))
      · rw [if_pos hm, if_pos hm]; cases longG s inp c (leadN s c st (bt inp i)) (i + 1) e <;> simp
      · rw [if_neg hm, if_neg hm]; cases longG s inp c (leadN s c st (bt inp i)) (i + 1) e <;> simp

theorem longD_G (s inp : ByteArray) (c p : Nat) : ∀ d, longD s inp c p d = match longG s inp c 0 p d with
    | none => (-1, p)
    | some x => ((x.1 : Int), x.2) := by
  intro d
  induction d with
  | zero => rfl
  | succ e ih =>
    rw [longD, longG]
    unfold tokAt
    rw [stepTo_from]
    cases h : stepFrom s inp c 0 p (e + 1) with
    | none => simp only; exact ih
    | some t =>
      simp only
      by_cases hm : 0 < markN s c t
      · rw [if_pos hm, if_pos hm]
      · rw [if_neg hm, if_neg hm]; exact ih

/-- LOOKING FINDS THE LONGEST, whatever hopeless is known. -/
theorem look_finds {s inp : ByteArray} {c p : Nat} {H : List (Int × Int × Int)} (hH : allDead s inp H) (hp : p ≤ inp.size) :
    lng s inp c p = match lookT s inp c H (inp.size - p) 0 p none with
      | none => (-1, p)
      | some x => ((x.1 : Int), x.2) := by
  unfold lng
  rw [lookT_hope hH _ _ _ _ (by omega), lookT_long, longD_G]
  cases longG s inp c 0 p (inp.size - p) <;> simp

theorem std_inj {c st i c' st' i' : Nat} (h : std c st i = std c' st' i') : c = c' ∧ st = st' ∧ i = i' := by
  unfold std at h
  injection h with h1 h2
  injection h2 with h2 h3
  omega

/-- What stood since the last token is dead. -/
theorem lookP_dead {s inp : ByteArray} {c : Nat} {H : List (Int × Int × Int)} (hH : allDead s inp H) : ∀ d st i S n, i + d = inp.size →
    (∀ c' st' i', std c' st' i' ∈ S → dead s inp c st i → dead s inp c' st' i') → allDead s inp (lookP s inp c H d st i S n).1 := by
  intro d
  induction d with
  | zero =>
    intro st i S n hi hS c' st' i' hin
    exact hS c' st' i' hin (dead_end (by omega))
  | succ e ih =>
    intro st i S n hi hS
    by_cases hk : memB H (std c st i) = true
    · rw [lookP_known hk]
      intro c' st' i' hin
      exact hS c' st' i' hin (hH c st i (by unfold memB at hk; exact List.contains_iff_mem.1 hk))
    · have hk : memB H (std c st i) = false := by simpa using hk
      by_cases hl : leadN s c st (bt inp i) = 255
      · rw [lookP_nowhere hk hl]
        intro c' st' i' hin
        rcases List.mem_append.1 hin with h | h
        · exact hS c' st' i' h (dead_nowhere hl)
        · rw [List.mem_singleton] at h
          obtain ⟨rfl, rfl, rfl⟩ := std_inj h
          exact dead_nowhere hl
      · by_cases hm : 0 < markN s c (leadN s c st (bt inp i))
        · rw [lookP_token hk hl hm]
          exact ih _ _ _ _ (by omega) (fun c' st' i' h => by cases h)
        · rw [lookP_step hk hl (by omega)]
          refine ih _ _ _ _ (by omega) (fun c' st' i' h hd => ?_)
          have hd2 := dead_step hl (by omega) hd
          rcases List.mem_append.1 h with h | h
          · exact hS c' st' i' h hd2
          · rw [List.mem_singleton] at h
            obtain ⟨rfl, rfl, rfl⟩ := std_inj h
            exact hd2

theorem look_dead {s inp : ByteArray} {c p : Nat} {H : List (Int × Int × Int)} (hH : allDead s inp H) (hp : p ≤ inp.size) : allDead s inp (H ++ (lookFrom s inp c H p).1) := by
  intro c' st' i' hin
  rcases List.mem_append.1 hin with h | h
  · exact hH c' st' i' h
  · exact lookP_dead hH _ 0 p [] 0 (by omega) (fun _ _ _ h => by cases h) c' st' i' h

end Go.Stn

/- (*stencilref.Image).lead, mark: walks. -/
namespace Go.Proofs.Ytgjgjgihceijnaa
open Go.RowKit Go.Stn

/-- An image that is only read. -/
structure ImgRd (w : World) (B b g cap : Nat) (s : ByteArray) : Prop where
  c0 : w.cell? ⟨b, 0, none⟩ = some (.string s)
  c3 : w.cell? ⟨b, 3, none⟩ = some (.int .i64 ((6 + iR s : Nat) : Int))
  c4 : w.cell? ⟨b, 4, none⟩ = some (.int .i64 (iK s))
  c5 : w.cell? ⟨b, 5, none⟩ = some (.slice (some ⟨g, 0, none⟩) (iM s) cap)
  at_ : ∀ i, i < iM s → w.cell? ⟨g, i, none⟩ = some (.int .i64 ((iAt s i + 1 : Nat) : Int))
  hb : b < B
  hg : g < B

theorem ImgRd.below {w w' : World} {B B' b g cap : Nat} {s : ByteArray} (h : ImgRd w B b g cap s) (hB : Below B' w w') (hle : B ≤ B') : ImgRd w' B b g cap s := by
  have hb := h.hb
  have hg := h.hg
  exact ⟨(hB.cell (p := ⟨b, 0, none⟩) (by show b < B'; omega)).trans h.c0, (hB.cell (p := ⟨b, 3, none⟩) (by show b < B'; omega)).trans h.c3, (hB.cell (p := ⟨b, 4, none⟩) (by show b < B'; omega)).trans h.c4,
    (hB.cell (p := ⟨b, 5, none⟩) (by show b < B'; omega)).trans h.c5, fun i hi => (hB.cell (p := ⟨g, i, none⟩) (by show g < B'; omega)).trans (h.at_ i hi), hb, hg⟩

theorem ImgRd.drewN {w : World} {B b g cap : Nat} {s : ByteArray} (h : ImgRd w B b g cap s) (q : Nat) : ImgRd (w.drewN q) B b g cap s :=
  ⟨h.c0, h.c3, h.c4, h.c5, h.at_, h.hb, h.hg⟩

/-- What Parse laid can be read. -/
theorem ImgAt.rd {w : World} {b base : Nat} {s : ByteArray} {va vs : Value} (h : ImgAt w b base s (iM s) (iM s) va vs) (hm : 1 ≤ iM s) : ∃ g cap, ImgRd w w.heap.size b g cap s := by
  obtain ⟨g, cap, rfl, hbg, hgz⟩ := h.ra.form (by omega)
  have hb := h.hb
  refine ⟨g, cap, h.c0, h.c3, h.c4, h.c5, fun i hi => ?_, by omega, hgz⟩
  have := h.ra.cells (g := g) rfl i (.int .i64 ((iAt s i + 1 : Nat) : Int)) (by unfold atRow; rw [List.getElem?_map, List.getElem?_range hi]; rfl)
  have hadd : (⟨g, 0, none⟩ : Addr).add i = ⟨g, i, none⟩ := by unfold Addr.add; split <;> simp_all
  rw [hadd] at this
  exact this

/-- Where a byte leads, as lead answers. -/
def leadZ (s : ByteArray) (c st v : Nat) : Int := if leadN s c st v = 255 then -1 else leadN s c st v

set_option maxRecDepth 100000 in
set_option maxHeartbeats 1000000 in
theorem mark_any (s : ByteArray) (B b g cap c st : Nat) (w : World) (hi : imgOk s = true) (hs : s.size ≤ 120000) (hc : c < iM s) (hst : st < nSt s c) (hw : ImgRd w B b g cap s) :
    Calls Try.prog 100 #[.pointer (some ⟨b, 0, none⟩), .int .i64 c, .int .i64 st] w fun e w' => e = .returned (.int .i64 (markN s c st)) ∧ ∃ q, w' = w.drewN q := by
  obtain ⟨k0, k3, k4, k5, kat, _, _⟩ := hw
  have kc := kat c hc
  clear kat
  have hrow := row_in hi hc hst
  have hrI := rwAt_int s c st
  have hAt : iAt s c ≤ 120000 := by unfold rwAt at hrow; omega
  have hK := iK_le s
  have hn := nSt_le hi hc
  have hmul := mul_small (a := st) (b := 1 + iK s) (by omega) (by omega)
  have hmI : (0 : Int) ≤ (st : Int) * (1 + (iK s : Int)) ∧ (st : Int) * (1 + (iK s : Int)) ≤ 65535 := by
    have e : ((st * (1 + iK s) : Nat) : Int) = (st : Int) * (1 + (iK s : Int)) := by simp
    omega
  have hm4 := (img_head hi).2.2.2.1
  have hcI : (0 : Int) ≤ (c : Int) ∧ (c : Int) < (iM s : Int) := by omega
  obtain ⟨r, hr⟩ : ∃ r, rwAt s c st = r := ⟨_, rfl⟩
  have E : Hid (markN s c st = bt s r) := by unfold Hid markN; rw [hr]
  rw [hr] at hrow hrI
  clear hmul hn hi hst hr
  have hbe := bt_eq s r (by omega)
  have hbl := bt_lt s r
  have hw1 : IntKind.i64.wrap (1 + (iK s : Int)) = 1 + (iK s : Int) := IntWalk.i64_in _ (by omega)
  have hw2 : IntKind.i64.wrap ((st : Int) * (1 + (iK s : Int))) = (st : Int) * (1 + (iK s : Int)) := IntWalk.i64_in _ (by omega)
  have hw3 : IntKind.i64.wrap ((iAt s c : Int) + 1 + (st : Int) * (1 + (iK s : Int))) = (r : Int) := by
    rw [← hrI]; simp only [Int.natCast_add, Int.natCast_one]; exact IntWalk.i64_in _ (by omega)
  clear hrI hmI
  go_enter Try.func100, Try.ntmps100
  go_wp2
  go_quiet (fail)
  go_wp2
  go_ret
  exact ⟨by rw [E.out]; rfl, _, rfl⟩

set_option maxRecDepth 100000 in
set_option maxHeartbeats 1000000 in
theorem lead_any (s : ByteArray) (B b g cap c st v : Nat) (w : World) (hi : imgOk s = true) (hs : s.size ≤ 120000) (hc : c < iM s) (hst : st < nSt s c) (hv : v < 256) (hw : ImgRd w B b g cap s) :
    Calls Try.prog 99 #[.pointer (some ⟨b, 0, none⟩), .int .i64 c, .int .i64 st, .int .u8 v] w fun e w' => e = .returned (.int .i64 (leadZ s c st v)) ∧ ∃ q, w' = w.drewN q := by
  obtain ⟨k0, k3, k4, k5, kat, _, _⟩ := hw
  have kc := kat c hc
  clear kat
  have hlead := lead_in hi hc hst hv
  have hrow := row_in hi hc hst
  have hcls := cls_lt hi v hv
  have hrI := rwAt_int s c st
  have hAt : iAt s c ≤ 120000 := by unfold rwAt at hrow; omega
  have hK := iK_le s
  have hn := nSt_le hi hc
  have hmul := mul_small (a := st) (b := 1 + iK s) (by omega) (by omega)
  have hmI : (0 : Int) ≤ (st : Int) * (1 + (iK s : Int)) ∧ (st : Int) * (1 + (iK s : Int)) ≤ 65535 := by
    have e : ((st * (1 + iK s) : Nat) : Int) = (st : Int) * (1 + (iK s : Int)) := by simp
    omega
  have hm4 := (img_head hi).2.2.2.1
  have hR := (img_head hi).1
  have h256 := (img_head hi).2.2.2.2
  have hcI : (0 : Int) ≤ (c : Int) ∧ (c : Int) < (iM s : Int) := by omega
  obtain ⟨r, hr⟩ : ∃ r, rwAt s c st = r := ⟨_, rfl⟩
  obtain ⟨k, hk⟩ : ∃ k, clsN s v = k := ⟨_, rfl⟩
  obtain ⟨t, ht⟩ : ∃ t, r + 1 + k = t := ⟨_, rfl⟩
  obtain ⟨a, ha⟩ : ∃ a, 6 + iR s + v = a := ⟨_, rfl⟩
  have E : Hid (leadZ s c st v = if bt s t = 255 then -1 else (bt s t : Int)) := by unfold Hid leadZ leadN; rw [hr, hk, ht]
  rw [hr] at hrow hrI hlead
  rw [hk] at hlead hcls
  rw [ht] at hlead
  have hk2 : bt s a = k := by rw [← ha]; exact hk
  have hal : a < s.size := by omega
  have hw0 : IntKind.i64.wrap (6 + (iR s : Int) + (v : Int)) = (a : Int) := by rw [← ha]; simp only [Int.natCast_add]; exact IntWalk.i64_in _ (by omega)
  have hw5 : IntKind.i64.wrap ((r : Int) + 1 + (k : Int)) = (t : Int) := by rw [← ht]; simp only [Int.natCast_add]; exact IntWalk.i64_in _ (by omega)
  have hr2 : r ≤ 120000 ∧ k < 256 := by omega
  clear hmul hn hi hst hr hk ht ha
  have hbc := bt_eq s a hal
  rw [hk2] at hbc
  clear hk2
  have hbe := bt_eq s t hlead
  have hbl := bt_lt s t
  have hwv : IntKind.i64.wrap (v : Int) = (v : Int) := IntWalk.i64_in _ (by omega)
  have hwk : IntKind.i64.wrap (k : Int) = (k : Int) := IntWalk.i64_in _ (by omega)
  have hwb : IntKind.i64.wrap (bt s t : Int) = (bt s t : Int) := IntWalk.i64_in _ (by omega)
  have hw1 : IntKind.i64.wrap (1 + (iK s : Int)) = 1 + (iK s : Int) := IntWalk.i64_in _ (by omega)
  have hw2 : IntKind.i64.wrap ((st : Int) * (1 + (iK s : Int))) = (st : Int) * (1 + (iK s : Int)) := IntWalk.i64_in _ (by omega)
  have hw3 : IntKind.i64.wrap ((iAt s c : Int) + 1 + (st : Int) * (1 + (iK s : Int))) = (r : Int) := by
    rw [← hrI]; simp only [Int.natCast_add, Int.natCast_one]; exact IntWalk.i64_in _ (by omega)
  have hw4 : IntKind.i64.wrap ((r : Int) + 1) = (r : Int) + 1 := IntWalk.i64_in _ (by omega)
  clear hrI hmI
  by_cases h255 : bt s t = 255
  · go_enter Try.func99, Try.ntmps99
    go_wp2
    go_quiet (fail)
    go_wp2
    go_quiet (fail)
    go_wp2
    go_ret
    exact ⟨by rw [E.out, if_pos h255]; rfl, _, rfl⟩
  · have hd : ((bt s t : Int) == 255) = false := beq_eq_false_iff_ne.2 (by omega)
    go_enter Try.func99, Try.ntmps99
    go_wp2
    go_quiet (fail)
    go_wp2
    go_quiet (fail)
    go_wp2
    go_ret
    exact ⟨by rw [E.out, if_neg h255]; rfl, _, rfl⟩
end Go.Proofs.Ytgjgjgihceijnaa

/- (*stencilref.Image).longest: a walk. -/
namespace Go.Proofs.Ytgjgjgihceijnaa
open Go.RowKit Go.Stn

set_option maxRecDepth 100000 in
set_option maxHeartbeats 1000000 in
theorem longest_any (s inp : ByteArray) (B b g cap c p : Nat) (w : World) (hi : imgOk s = true) (hs : s.size ≤ 120000) (hin : inp.size ≤ 300) (hp : p ≤ inp.size) (hc : c < iM s) (hw : ImgRd w B b g cap s) :
    Calls Try.prog 74 #[.pointer (some ⟨b, 0, none⟩), .string inp, .int .i64 p, .int .i64 c] w fun e w' =>
      e = .returned (.tuple #[.int .i64 (lng s inp c p).1, .int .i64 (lng s inp c p).2]) ∧ ∃ q, w' = w.drewN q := by
  have HL : Hid (lng s inp c p = longD s inp c p (inp.size - p)) := rfl
  go_enter Try.func74, Try.ntmps74
  go_wp2_with fail
  go_loopw [10] (fun x w' => ∃ d q : Nat, p + d ≤ inp.size ∧ x = .int .i64 ((p : Int) + (d : Int)) ∧ w' = w.drewN q ∧ lng s inp c p = longD s inp c p d) (fun x _ => (intOf x).toNat)
  case atStart => exact ⟨inp.size - p, 0, by omega, by congr 1; omega, rfl, HL.out⟩
  case round =>
    obtain ⟨d, q, hd, rfl, rfl, hlg⟩ := hrel
    have HG : Hid (lng s inp c p = longD s inp c p d) := hlg
    clear hlg
    by_cases hlt : 0 < d
    · obtain ⟨e, he⟩ : ∃ e, d = e + 1 := ⟨d - 1, by omega⟩
      have HE : Hid (d = e + 1) := he
      have hed : e < d := by omega
      clear he
      have hdec : decide ((p : Int) < (p : Int) + (d : Int)) = true := by simp; omega
      go_wp2_with fail
      go_loopw [11, 12] (fun x y w' => ∃ j q : Nat, j ≤ d ∧ y = .int .i64 ((p : Int) + (j : Int)) ∧ w' = w.drewN q ∧ ((∃ st : Nat, stepTo s inp c p j = some st ∧ x = .int .i64 (st : Int)) ∨ (stepTo s inp c p d = none ∧ x = .int .i64 (-1)))) (fun _ y _ => inp.size - (intOf y).toNat)
      case atStart => exact ⟨0, q, by omega, by simp, rfl, .inl ⟨0, rfl, rfl⟩⟩
      case round =>
        obtain ⟨j, q2, hj, rfl, rfl, hcase⟩ := hrel
        rcases hcase with ⟨st, hst, rfl⟩ | ⟨hno, rfl⟩
        · have HS : Hid (stepTo s inp c p j = some st) := hst
          clear hst
          by_cases hlt2 : j < d
          · have hbe := bt_eq inp (p + j) (by omega)
            have hbl := bt_lt inp (p + j)
            go_wp2_with fail
            refine (lead_any s B b g cap c st (bt inp (p + j)) _ hi hs hc (stepTo_lt hi hc j st HS.out) hbl (hw.drewN _)).mono ?_
            rintro e' w2 ⟨rfl, q3, rfl⟩
            go_wp2_with fail
            go_roundw
            case rel =>
              refine ⟨j + 1, q2 + q3, hlt2, by go_num, by simp, ?_⟩
              have hst1 := stepTo_succ HS.out
              by_cases h255 : leadN s c st (bt inp (p + j)) = 255
              · rw [if_pos h255] at hst1
                exact .inr ⟨stepTo_none hst1 _ hlt2, by unfold leadZ; rw [if_pos h255]⟩
              · rw [if_neg h255] at hst1
                exact .inl ⟨_, hst1, by unfold leadZ; rw [if_neg h255]⟩
            case measure => simp [intOf]; omega
          · have ej : j = d := by omega
            subst ej
            by_cases hm : 0 < markN s c st
            · have hml := mark_le hi hc (stepTo_lt hi hc _ st HS.out)
              have hR := (img_head hi).1
              have hfin := longD_some (d := e) (by rw [← HE.out]; exact tokAt_yes HS.out hm)
              have HF : Hid (longD s inp c p j = (((markN s c st - 1 : Nat) : Int), p + j)) := by rw [← HE.out] at hfin; exact hfin
              clear hfin
              go_wp2_with fail
              refine (mark_any s B b g cap c st _ hi hs hc (stepTo_lt hi hc _ st HS.out) (hw.drewN _)).mono ?_
              rintro e' w2 ⟨rfl, q3, rfl⟩
              go_wp2
              go_ret2
              refine ⟨?_, q2 + q3, by simp⟩
              rw [HG.out, HF.out]
              simp
              omega
            · have hm0 : markN s c st = 0 := by omega
              have hfin := longD_none (d := e) (by rw [← HE.out]; exact tokAt_no HS.out hm0)
              have HF : Hid (longD s inp c p j = longD s inp c p e) := by rw [← HE.out] at hfin; exact hfin
              clear hfin
              go_wp2_with fail
              refine (mark_any s B b g cap c st _ hi hs hc (stepTo_lt hi hc _ st HS.out) (hw.drewN _)).mono ?_
              rintro e' w2 ⟨rfl, q3, rfl⟩
              rw [hm0]
              go_wp2
              go_roundw
              case rel => exact ⟨e, q2 + q3, by omega, by have := HE.out; go_num, by simp, by rw [HG.out, HF.out]⟩
              case measure => simp [intOf]; omega
        · have hfin := longD_none (d := e) (by rw [← HE.out]; exact tokAt_none hno)
          have HF : Hid (longD s inp c p d = longD s inp c p e) := by rw [← HE.out] at hfin; exact hfin
          clear hfin hno
          go_wp2_with fail
          all_goals
            go_roundw
            case rel => exact ⟨e, q2, by omega, by have := HE.out; go_num, rfl, by rw [HG.out, HF.out]⟩
            case measure => simp [intOf]; omega
    · have e0 : d = 0 := by omega
      subst e0
      go_wp2
      go_ret2
      refine ⟨?_, q, rfl⟩
      rw [HG.out]
      rfl
end Go.Proofs.Ytgjgjgihceijnaa

