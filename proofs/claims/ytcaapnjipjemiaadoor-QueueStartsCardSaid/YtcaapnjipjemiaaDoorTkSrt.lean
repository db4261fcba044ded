/- The stable sort as plain mathematics: what changes places only where it is strictly less keeps the order of equals; just one list is sorted and keeps it. -/
import Derived.Sort.LotA
namespace Go.Proofs.YtcaapnjipjemiaaDoor.P
open Go.Sort
set_option linter.unusedVariables false
set_option linter.unusedSectionVars false
section
variable {α : Type} [Inhabited α]

theorem arr_ext {x y : Array α} (h : x.size = y.size) (hk : ∀ k, k < x.size → x[k]! = y[k]!) : x = y := by
  apply Array.ext h
  intro i h1 h2
  have := hk i h1
  rwa [getElem!_pos x i h1, getElem!_pos y i h2] at this
theorem get_out (d : Array α) (k : Nat) (h : d.size ≤ k) : d[k]! = default := getElem!_neg d k (by omega)

/-- Two parts change places: [a, m) and [m, b). -/
def rotA (d : Array α) (a m b : Nat) : Array α :=
  (Array.range d.size).map fun k => if k < a ∨ b ≤ k then d[k]! else if k < a + (b - m) then d[k - a + m]! else d[k - (b - m)]!
theorem rotA_size (d : Array α) (a m b : Nat) : (rotA d a m b).size = d.size := by simp [rotA]
theorem rotA_get (d : Array α) (a m b k : Nat) (hb : b ≤ d.size) :
    (rotA d a m b)[k]! = if k < a ∨ b ≤ k then d[k]! else if k < a + (b - m) then d[k - a + m]! else d[k - (b - m)]! := by
  by_cases hk : k < d.size
  · rw [getElem!_pos _ k (by rw [rotA_size]; exact hk)]
    simp [rotA]
  · rw [get_out _ k (by rw [rotA_size]; omega), if_pos (by omega), get_out d k (by omega)]
theorem rot_out (d : Array α) (a m b k : Nat) (hb : b ≤ d.size) (h : k < a ∨ b ≤ k) : (rotA d a m b)[k]! = d[k]! := by rw [rotA_get d a m b k hb, if_pos h]
theorem rot_lo (d : Array α) (a m b k : Nat) (hb : b ≤ d.size) (hm : m ≤ b) (h : a ≤ k) (h2 : k < a + (b - m)) (ham : a ≤ m) : (rotA d a m b)[k]! = d[k - a + m]! := by
  rw [rotA_get d a m b k hb, if_neg (by omega), if_pos h2]
theorem rot_hi (d : Array α) (a m b k : Nat) (hb : b ≤ d.size) (ham : a ≤ m) (h : a + (b - m) ≤ k) (h2 : k < b) : (rotA d a m b)[k]! = d[k - (b - m)]! := by
  rw [rotA_get d a m b k hb, if_neg (by omega), if_neg (by omega)]
theorem rot_none (d : Array α) (a m b : Nat) (hb : b ≤ d.size) (ham : a ≤ m) (hmb : m ≤ b) (h : a = m ∨ m = b) : rotA d a m b = d := by
  refine arr_ext (rotA_size _ _ _ _) fun k hk => ?_
  rw [rotA_size] at hk
  rw [rotA_get d a m b k hb]
  split
  · rfl
  · split
    · congr 1; omega
    · congr 1; omega

/-- A thing goes on past one more. -/
theorem swp_rot1 (d : Array α) (a k : Nat) (hak : a ≤ k) (hk : k + 2 ≤ d.size) : swp (rotA d a (a + 1) (k + 1)) k (k + 1) = rotA d a (a + 1) (k + 2) := by
  refine arr_ext (by rw [swp_size, rotA_size, rotA_size]) fun j hj => ?_
  rw [swp_size, rotA_size] at hj
  rw [swp_get _ (by rw [rotA_size]; omega) (by rw [rotA_size]; omega), rotA_get d a (a + 1) (k + 1) _ (by omega), rotA_get d a (a + 1) (k + 1) _ (by omega), rotA_get d a (a + 1) (k + 1) _ (by omega), rotA_get d a (a + 1) (k + 2) _ (by omega)]
  by_cases h1 : j = k + 1
  · rw [if_pos h1, if_neg (by omega), if_neg (by omega), if_neg (by omega), if_neg (by omega)]; congr 1; omega
  · rw [if_neg h1]
    by_cases h2 : j = k
    · rw [if_pos h2, if_pos (by omega), if_neg (by omega), if_pos (by omega)]; congr 1; omega
    · rw [if_neg h2]
      by_cases h3 : j < a ∨ k + 1 ≤ j
      · rw [if_pos h3, if_pos (by omega)]
      · rw [if_neg h3, if_pos (by omega), if_neg (by omega), if_pos (by omega)]
theorem swp_rot2 (d : Array α) (k m : Nat) (hkm : k + 1 ≤ m) (hm : m + 1 ≤ d.size) : swp (rotA d (k + 1) m (m + 1)) (k + 1) k = rotA d k m (m + 1) := by
  refine arr_ext (by rw [swp_size, rotA_size, rotA_size]) fun j hj => ?_
  rw [swp_size, rotA_size] at hj
  rw [swp_get _ (by rw [rotA_size]; omega) (by rw [rotA_size]; omega), rotA_get d (k + 1) m (m + 1) _ (by omega), rotA_get d (k + 1) m (m + 1) _ (by omega), rotA_get d (k + 1) m (m + 1) _ (by omega), rotA_get d k m (m + 1) _ (by omega)]
  by_cases h1 : j = k
  · rw [if_pos h1, if_neg (by omega), if_pos (by omega), if_neg (by omega), if_pos (by omega)]; congr 1; omega
  · rw [if_neg h1]
    by_cases h2 : j = k + 1
    · rw [if_pos h2, if_pos (by omega), if_neg (by omega), if_neg (by omega)]; congr 1; omega
    · rw [if_neg h2]
      by_cases h3 : j < k + 1 ∨ m + 1 ≤ j
      · rw [if_pos h3, if_pos (by omega)]
      · rw [if_neg h3, if_neg (by omega), if_neg (by omega), if_neg (by omega)]

/-- Two parts of the same length, exchanged thing by thing. -/
def swpN (d : Array α) (x y : Nat) : Nat → Array α
  | 0 => d
  | n + 1 => swp (swpN d x y n) (x + n) (y + n)
theorem swpN_size (d : Array α) (x y : Nat) : ∀ n, (swpN d x y n).size = d.size
  | 0 => rfl
  | n + 1 => by rw [swpN, swp_size, swpN_size d x y n]
theorem swpN_get (d : Array α) (x y : Nat) : ∀ n, x + n ≤ y → y + n ≤ d.size → ∀ k, (swpN d x y n)[k]! = if x ≤ k ∧ k < x + n then d[k - x + y]! else if y ≤ k ∧ k < y + n then d[k - y + x]! else d[k]!
  | 0, _, _, k => by rw [if_neg (by omega), if_neg (by omega)]; rfl
  | n + 1, h, hs, k => by
    have ih := swpN_get d x y n (by omega) (by omega)
    rw [swpN, swp_get _ (by rw [swpN_size]; omega) (by rw [swpN_size]; omega), ih, ih, ih]
    by_cases h1 : k = y + n
    · rw [if_pos h1, if_neg (by omega), if_neg (by omega), if_neg (by omega), if_pos (by omega)]; congr 1; omega
    · rw [if_neg h1]
      by_cases h2 : k = x + n
      · rw [if_pos h2, if_neg (by omega), if_neg (by omega), if_pos (by omega)]; congr 1; omega
      · rw [if_neg h2]
        by_cases h3 : x ≤ k ∧ k < x + n
        · rw [if_pos h3, if_pos (by omega)]
        · rw [if_neg h3]
          by_cases h4 : y ≤ k ∧ k < y + n
          · rw [if_pos h4, if_neg (by omega), if_pos (by omega)]
          · rw [if_neg h4, if_neg (by omega), if_neg (by omega)]
theorem rot_big (d : Array α) (m i j : Nat) (hji : j < i) (him : i ≤ m) (hs : m + j ≤ d.size) : rotA (swpN d (m - i) m j) (m - i + j) m (m + j) = rotA d (m - i) m (m + j) := by
  refine arr_ext (by rw [rotA_size, rotA_size, swpN_size]) fun k hk => ?_
  have g := swpN_get d (m - i) m j (by omega) (by omega)
  rw [rotA_get _ _ _ _ _ (by rw [swpN_size]; omega), rotA_get _ _ _ _ _ hs, g, g, g]
  by_cases h1 : k < m - i ∨ m + j ≤ k
  · rw [if_pos (by omega), if_pos h1, if_neg (by omega), if_neg (by omega)]
  · rw [if_neg h1]
    by_cases h2 : k < m - i + j
    · rw [if_pos (by omega), if_pos (by omega), if_pos (by omega)]
    · rw [if_neg (by omega)]
      by_cases h3 : k < m - i + j + (m + j - m)
      · rw [if_pos h3, if_neg (by omega), if_pos (by omega), if_neg (by omega)]; congr 1; omega
      · rw [if_neg h3, if_neg (by omega), if_neg (by omega), if_neg (by omega)]
theorem rot_less (d : Array α) (m i j : Nat) (hij : i < j) (him : i ≤ m) (hs : m + j ≤ d.size) : rotA (swpN d (m - i) (m + j - i) i) (m - i) m (m + (j - i)) = rotA d (m - i) m (m + j) := by
  refine arr_ext (by rw [rotA_size, rotA_size, swpN_size]) fun k hk => ?_
  have g := swpN_get d (m - i) (m + j - i) i (by omega) (by omega)
  rw [rotA_get _ _ _ _ _ (by rw [swpN_size]; omega), rotA_get _ _ _ _ _ hs, g, g, g]
  by_cases h1 : k < m - i ∨ m + (j - i) ≤ k
  · rw [if_pos h1]
    by_cases h2 : k < m - i ∨ m + j ≤ k
    · rw [if_pos h2, if_neg (by omega), if_neg (by omega)]
    · rw [if_neg h2, if_neg (by omega), if_pos (by omega), if_neg (by omega)]; congr 1; omega
  · rw [if_neg h1, if_neg (by omega : ¬ (k < m - i ∨ m + j ≤ k))]
    by_cases h3 : k < m - i + (m + (j - i) - m)
    · rw [if_pos h3, if_neg (by omega), if_neg (by omega), if_pos (by omega)]
    · rw [if_neg h3, if_pos (by omega), if_pos (by omega)]; congr 1; omega
theorem rot_even (d : Array α) (m i : Nat) (him : i ≤ m) (hs : m + i ≤ d.size) : swpN d (m - i) m i = rotA d (m - i) m (m + i) := by
  refine arr_ext (by rw [rotA_size, swpN_size]) fun k hk => ?_
  have g := swpN_get d (m - i) m i (by omega) (by omega)
  rw [rotA_get _ _ _ _ _ hs, g]
  by_cases h1 : m - i ≤ k ∧ k < m - i + i
  · rw [if_pos h1, if_neg (by omega), if_pos (by omega)]
  · rw [if_neg h1]
    by_cases h2 : m ≤ k ∧ k < m + i
    · rw [if_pos h2, if_neg (by omega), if_neg (by omega)]; congr 1; omega
    · rw [if_neg h2, if_pos (by omega)]

/-! Parts as lists. -/
def seg (d : Array α) (a n : Nat) : List α := (List.range' a n).map fun i => d[i]!
theorem seg_all (d : Array α) : seg d 0 d.size = d.toList := by
  apply List.ext_getElem
  · simp [seg]
  · intro k h1 h2
    simp only [Array.length_toList] at h2
    simp [seg, getElem!_pos d k h2]
theorem seg_split (d : Array α) (a n k : Nat) (h : k ≤ n) : seg d a n = seg d a k ++ seg d (a + k) (n - k) := by
  unfold seg
  rw [← List.map_append, List.range'_append_1, show k + (n - k) = n by omega]
theorem seg_congr (d e : Array α) (a b n : Nat) (h : ∀ i, i < n → d[a + i]! = e[b + i]!) : seg d a n = seg e b n := by
  apply List.ext_getElem
  · simp [seg]
  · intro k h1 h2
    simp only [seg, List.length_map, List.length_range'] at h1
    simpa [seg] using h k h1
theorem seg_rot (d : Array α) (a m b : Nat) (ham : a ≤ m) (hmb : m ≤ b) (hb : b ≤ d.size) : seg (rotA d a m b) a (b - a) = seg d m (b - m) ++ seg d a (m - a) := by
  rw [seg_split _ a (b - a) (b - m) (by omega), seg_congr (rotA d a m b) d a m (b - m) (fun i hi => by rw [rot_lo d a m b (a + i) hb hmb (by omega) (by omega) ham]; congr 1; omega),
    show b - a - (b - m) = m - a by omega, seg_congr (rotA d a m b) d (a + (b - m)) a (m - a) (fun i hi => by rw [rot_hi d a m b _ hb ham (by omega) (by omega)]; congr 1; omega)]
theorem seg_parts (d : Array α) (a b : Nat) (hab : a ≤ b) (hb : b ≤ d.size) : d.toList = seg d 0 a ++ seg d a (b - a) ++ seg d b (d.size - b) := by
  rw [← seg_all, seg_split d 0 d.size b hb, seg_split d 0 b a hab, Nat.zero_add, Nat.zero_add]
theorem permIn_rot (d : Array α) (a m b : Nat) (ham : a ≤ m) (hmb : m ≤ b) (hb : b ≤ d.size) : PermIn a b d (rotA d a m b) := by
  refine ⟨rotA_size _ _ _ _, fun i hi => rot_out d a m b i hb hi, ?_⟩
  rw [extract_toList _ _ _ (by rw [rotA_size]; exact hb), extract_toList _ _ _ hb]
  show (seg (rotA d a m b) a (b - a)).Perm (seg d a (b - a))
  rw [seg_rot d a m b ham hmb hb, seg_split d a (b - a) (m - a) (by omega), show a + (m - a) = m by omega, show b - a - (m - a) = b - m by omega]
  exact List.perm_append_comm

/-! The order of equals. -/
variable (lt : α → α → Bool)
def eqvB (c x : α) : Bool := !lt c x && !lt x c
def Stab (d d' : Array α) : Prop := ∀ c, d'.toList.filter (eqvB lt c) = d.toList.filter (eqvB lt c)
variable {lt}
theorem Stab.refl (d : Array α) : Stab lt d d := fun _ => rfl
theorem Stab.trans {d e f : Array α} (h : Stab lt d e) (k : Stab lt e f) : Stab lt d f := fun c => (k c).trans (h c)
theorem eqv_not (hS : SWO lt) {c x y : α} (h : lt y x = true) (hx : eqvB lt c x = true) : eqvB lt c y = false := by
  simp only [eqvB, Bool.and_eq_true, Bool.not_eq_true'] at hx
  cases hy : eqvB lt c y with
  | false => rfl
  | true =>
    simp only [eqvB, Bool.and_eq_true, Bool.not_eq_true'] at hy
    have := hS.ntrans y c x hy.2 hx.1
    rw [h] at this; cases this
theorem stab_rot (hS : SWO lt) (d : Array α) (a m b : Nat) (ham : a ≤ m) (hmb : m ≤ b) (hb : b ≤ d.size) (h : ∀ i j, a ≤ i → i < m → m ≤ j → j < b → lt d[j]! d[i]! = true) : Stab lt d (rotA d a m b) := by
  intro c
  rw [seg_parts d a b (by omega) hb, seg_parts (rotA d a m b) a b (by omega) (by rw [rotA_size]; exact hb), seg_rot d a m b ham hmb hb, rotA_size,
    seg_congr (rotA d a m b) d 0 0 a (fun i hi => rot_out d a m b _ hb (by omega)), seg_congr (rotA d a m b) d b b (d.size - b) (fun i hi => rot_out d a m b _ hb (by omega)),
    seg_split d a (b - a) (m - a) (by omega), show a + (m - a) = m by omega, show b - a - (m - a) = b - m by omega]
  simp only [List.filter_append]
  congr 2
  by_cases hx : ∃ x ∈ seg d a (m - a), eqvB lt c x = true
  · obtain ⟨x, hx, hc⟩ := hx
    have e : (seg d m (b - m)).filter (eqvB lt c) = [] := by
      rw [List.filter_eq_nil_iff]
      intro y hy
      obtain ⟨i, hi, rfl⟩ := List.mem_map.1 hx
      obtain ⟨j, hj, rfl⟩ := List.mem_map.1 hy
      have hi' := List.mem_range'_1.1 hi
      have hj' := List.mem_range'_1.1 hj
      rw [eqv_not hS (h i j (by omega) (by omega) (by omega) (by omega)) hc]; simp
    rw [e]; simp
  · have e : (seg d a (m - a)).filter (eqvB lt c) = [] := by
      rw [List.filter_eq_nil_iff]
      intro x hx' hc
      exact hx ⟨x, hx', hc⟩
    rw [e]; simp
theorem stab_swp (hS : SWO lt) (d : Array α) (j : Nat) (hj : j + 1 < d.size) (h : lt d[j + 1]! d[j]! = true) : Stab lt d (swp d (j + 1) j) := by
  have e : swp d (j + 1) j = rotA d j (j + 1) (j + 2) := by
    have := swp_rot2 d j (j + 1) (by omega) (by omega)
    rw [rot_none d (j + 1) (j + 1) (j + 1 + 1) (by omega) (by omega) (by omega) (.inl rfl)] at this
    exact this
  rw [e]
  refine stab_rot hS d j (j + 1) (j + 2) (by omega) (by omega) (by omega) fun i k h1 h2 h3 h4 => ?_
  obtain rfl : i = j := by omega
  obtain rfl : k = i + 1 := by omega
  exact h
theorem stab_inner (hS : SWO lt) (a : Nat) : ∀ (j : Nat) (d : Array α), j < d.size → Stab lt d (insInner lt a j d)
  | 0, d, _ => by unfold insInner; exact Stab.refl d
  | j + 1, d, hj => by
    unfold insInner
    split
    · rename_i hc
      simp only [Bool.and_eq_true, decide_eq_true_eq] at hc
      exact (stab_swp hS d j hj hc.2).trans (stab_inner hS a j _ (by rw [swp_size]; omega))
    · exact Stab.refl d
theorem inner_size (a : Nat) : ∀ (j : Nat) (d : Array α), (insInner lt a j d).size = d.size
  | 0, d => by unfold insInner; rfl
  | j + 1, d => by
    unfold insInner
    split
    · rw [inner_size a j, swp_size]
    · rfl
theorem stab_outer (hS : SWO lt) (a b : Nat) : ∀ (n i : Nat) (d : Array α), b - i = n → b ≤ d.size → Stab lt d (insOuter lt a b i d)
  | 0, i, d, hn, _ => by rw [insOuter, if_neg (by omega)]; exact Stab.refl d
  | n + 1, i, d, hn, hb => by
    rw [insOuter, if_pos (by omega)]
    exact (stab_inner hS a i d (by omega)).trans (stab_outer hS a b n (i + 1) _ (by omega) (by rw [inner_size]; exact hb))
theorem stab_insertion (hS : SWO lt) (d : Array α) (a b : Nat) (hb : b ≤ d.size) : Stab lt d (insertionSort lt d a b) := stab_outer hS a b _ _ d rfl hb

/-! Merging by a rotation. -/
theorem sorted_join {d : Array α} {a m b : Nat} (h1 : SortedIn lt a m d) (h2 : SortedIn lt m b d) (hx : ∀ i j, a ≤ i → i < m → m ≤ j → j < b → lt d[j]! d[i]! = false) : SortedIn lt a b d := by
  intro i j hi hij hj
  by_cases h : j < m
  · exact h1 i j hi hij h
  · by_cases h' : m ≤ i
    · exact h2 i j h' hij hj
    · exact hx i j hi (by omega) (by omega) hj
theorem sorted_part {d : Array α} {a b x y : Nat} (h : SortedIn lt a b d) (hx : a ≤ x) (hy : y ≤ b) : SortedIn lt x y d := fun i j h1 h2 h3 => h i j (by omega) h2 (by omega)
theorem sorted_congr {d e : Array α} {a b : Nat} (h : SortedIn lt a b d) (he : ∀ i, a ≤ i → i < b → e[i]! = d[i]!) : SortedIn lt a b e := fun i j h1 h2 h3 => by
  rw [he i h1 (by omega), he j (by omega) h3]; exact h i j h1 h2 h3
theorem sorted_less {d : Array α} {a b : Nat} (h : b ≤ a + 1) : SortedIn lt a b d := fun i j h1 h2 h3 => by omega

/-- What a merge's rotation leaves: four parts that are sorted, nothing on the right below anything on the left. -/
structure Turned (lt : α → α → Bool) (d : Array α) (a s mid e b : Nat) : Prop where
  p1 : SortedIn lt a s d
  p2 : SortedIn lt s mid d
  p3 : SortedIn lt mid e d
  p4 : SortedIn lt e b d
  cross : ∀ i j, a ≤ i → i < mid → mid ≤ j → j < b → lt d[j]! d[i]! = false
theorem turned (hS : SWO lt) (d : Array α) (a s m e b : Nat) (has : a ≤ s) (hsm : s ≤ m) (hme : m ≤ e) (heb : e ≤ b) (hb : b ≤ d.size) (h1 : SortedIn lt a m d) (h2 : SortedIn lt m b d)
    (hlt : ∀ i j, s ≤ i → i < m → m ≤ j → j < e → lt d[j]! d[i]! = true) (hge : ∀ i j, a ≤ i → i < s → e ≤ j → j < b → lt d[j]! d[i]! = false) :
    Turned lt (rotA d s m e) a s (s + (e - m)) e b := by
  have he : e ≤ d.size := by omega
  have lo : ∀ i, a ≤ i → i < s + (e - m) → (i < s ∧ (rotA d s m e)[i]! = d[i]!) ∨ (s ≤ i ∧ m ≤ i - s + m ∧ i - s + m < e ∧ (rotA d s m e)[i]! = d[i - s + m]!) := fun i hi h => by
    by_cases h' : i < s
    · exact .inl ⟨h', rot_out d s m e i he (.inl h')⟩
    · exact .inr ⟨by omega, by omega, by omega, rot_lo d s m e i he hme (by omega) h hsm⟩
  have hi : ∀ j, s + (e - m) ≤ j → j < b → (j < e ∧ s ≤ j - (e - m) ∧ j - (e - m) < m ∧ (rotA d s m e)[j]! = d[j - (e - m)]!) ∨ (e ≤ j ∧ (rotA d s m e)[j]! = d[j]!) := fun j hj h => by
    by_cases h' : j < e
    · exact .inl ⟨h', by omega, by omega, rot_hi d s m e j he hsm hj h'⟩
    · exact .inr ⟨by omega, rot_out d s m e j he (.inr (by omega))⟩
  refine ⟨sorted_congr (sorted_part h1 (Nat.le_refl _) hsm) fun i h h' => rot_out d s m e i he (.inl h'), fun i j q1 q2 q3 => ?_, fun i j q1 q2 q3 => ?_, sorted_congr (sorted_part h2 hme (Nat.le_refl _)) fun i h h' => rot_out d s m e i he (.inr h), fun i j q1 q2 q3 q4 => ?_⟩
  · rw [rot_lo d s m e i he hme (by omega) (by omega) hsm, rot_lo d s m e j he hme (by omega) (by omega) hsm]
    exact h2 _ _ (by omega) (by omega) (by omega)
  · rw [rot_hi d s m e i he hsm (by omega) (by omega), rot_hi d s m e j he hsm (by omega) (by omega)]
    exact h1 _ _ (by omega) (by omega) (by omega)
  · rcases lo i q1 q2 with ⟨l1, l2⟩ | ⟨l1, l2, l3, l4⟩
    · rcases hi j q3 q4 with ⟨k1, k2, k3, k4⟩ | ⟨k1, k2⟩
      · rw [l2, k4]; exact h1 _ _ q1 (by omega) k3
      · rw [l2, k2]; exact hge _ _ q1 l1 k1 q4
    · rcases hi j q3 q4 with ⟨k1, k2, k3, k4⟩ | ⟨k1, k2⟩
      · rw [l4, k4]; exact hS.asymmA (hlt _ _ k2 k3 l2 l3)
      · rw [l4, k2]; exact h2 _ _ l2 (by omega) q4
/-- What the recursion makes of the halves. -/
theorem halves {d e f : Array α} {a mid b : Nat} (hab : a ≤ mid) (hmb : mid ≤ b) (hb : b ≤ d.size) (hx : ∀ i j, a ≤ i → i < mid → mid ≤ j → j < b → lt d[j]! d[i]! = false)
    (p1 : PermIn a mid d e) (s1 : SortedIn lt a mid e) (p2 : PermIn mid b e f) (s2 : SortedIn lt mid b f) : SortedIn lt a b f := by
  refine sorted_join (m := mid) (sorted_congr s1 fun i h1 h2 => p2.2.1 i (.inl h2)) s2 fun i j h1 h2 h3 h4 => ?_
  rw [p2.2.1 i (.inl h2)]
  have hb' : b ≤ e.size := by rw [p1.1]; exact hb
  refine permIn_all e f mid b (fun x => lt x e[i]! = false) hb' p2 (fun k k1 k2 => ?_) j h3 h4
  rw [p1.2.1 k (.inr k1)]
  exact permIn_all d e a mid (fun x => lt d[k]! x = false) (by omega) p1 (fun q q1 q2 => hx q k q1 q2 k1 k2) i h1 h2

/-! The one list. -/
def insL (lt : α → α → Bool) (x : α) : List α → List α
  | [] => [x]
  | y :: r => if lt x y then x :: y :: r else y :: insL lt x r
def ordL (lt : α → α → Bool) (l : List α) : List α := l.foldl (fun o x => insL lt x o) []
def SortL (lt : α → α → Bool) (l : List α) : Prop := l.Pairwise fun x y => lt y x = false
theorem insL_mem {x z : α} : ∀ {l : List α}, z ∈ insL lt x l ↔ z = x ∨ z ∈ l
  | [] => by simp [insL]
  | y :: r => by
    unfold insL
    split
    · simp
    · simp only [List.mem_cons, insL_mem (l := r)]
      constructor
      · rintro (h | h | h)
        · exact .inr (.inl h)
        · exact .inl h
        · exact .inr (.inr h)
      · rintro (h | h | h)
        · exact .inr (.inl h)
        · exact .inl h
        · exact .inr (.inr h)
theorem insL_len (x : α) : ∀ l : List α, (insL lt x l).length = l.length + 1
  | [] => rfl
  | y :: r => by unfold insL; split <;> simp [insL_len x r]
theorem insL_sort (hS : SWO lt) (x : α) : ∀ l : List α, SortL lt l → SortL lt (insL lt x l)
  | [], _ => by simp [insL, SortL]
  | y :: r, h => by
    unfold insL
    have h' := List.pairwise_cons.1 h
    split
    · rename_i hxy
      refine List.pairwise_cons.2 ⟨fun z hz => ?_, h⟩
      rcases List.mem_cons.1 hz with rfl | hz
      · exact hS.asymmA hxy
      · cases hzx : lt z x with
        | false => rfl
        | true =>
          have := hS.trans z x y hzx hxy
          rw [h'.1 z hz] at this; cases this
    · rename_i hxy
      refine List.pairwise_cons.2 ⟨fun z hz => ?_, insL_sort hS x r h'.2⟩
      rcases insL_mem.1 hz with rfl | hz
      · simpa using hxy
      · exact h'.1 z hz
theorem insL_filter (hS : SWO lt) (x c : α) : ∀ l : List α, SortL lt l → (insL lt x l).filter (eqvB lt c) = l.filter (eqvB lt c) ++ [x].filter (eqvB lt c)
  | [], _ => by simp [insL]
  | y :: r, h => by
    unfold insL
    have h' := List.pairwise_cons.1 h
    split
    · rename_i hxy
      cases hc : eqvB lt c x with
      | false => simp [List.filter_cons, hc]
      | true =>
        have e : (y :: r).filter (eqvB lt c) = [] := by
          rw [List.filter_eq_nil_iff]
          intro z hz hcz
          have hxz : lt x z = true := by
            rcases List.mem_cons.1 hz with rfl | hz
            · exact hxy
            · cases hxz : lt x z with
              | true => rfl
              | false =>
                have := hS.ntrans x z y hxz (h'.1 z hz)
                rw [hxy] at this; cases this
          have := eqv_not hS hxz hcz
          rw [hc] at this; cases this
        rw [List.filter_cons, hc, if_pos rfl, e]
        simp [hc]
    · rw [List.filter_cons, insL_filter hS x c r h'.2]
      split
      · rename_i hc; simp [List.filter_cons, hc]
      · rename_i hc; simp [List.filter_cons, hc]
theorem ordL_snoc (l : List α) (x : α) : ordL lt (l ++ [x]) = insL lt x (ordL lt l) := by simp [ordL]
theorem foldl_ins (hS : SWO lt) : ∀ (l o : List α), SortL lt o → SortL lt (l.foldl (fun o x => insL lt x o) o) ∧ ∀ c, (l.foldl (fun o x => insL lt x o) o).filter (eqvB lt c) = o.filter (eqvB lt c) ++ l.filter (eqvB lt c)
  | [], o, h => ⟨h, fun c => by simp⟩
  | x :: r, o, h => by
    have ih := foldl_ins hS r (insL lt x o) (insL_sort hS x o h)
    refine ⟨ih.1, fun c => ?_⟩
    rw [List.foldl_cons, ih.2 c, insL_filter hS x c o h, List.append_assoc, ← List.filter_append]; rfl
theorem ordL_sort (hS : SWO lt) (l : List α) : SortL lt (ordL lt l) := (foldl_ins hS l [] List.Pairwise.nil).1
theorem ordL_filter (hS : SWO lt) (l : List α) (c : α) : (ordL lt l).filter (eqvB lt c) = l.filter (eqvB lt c) := by
  have := (foldl_ins hS l [] List.Pairwise.nil).2 c
  rw [List.filter_nil, List.nil_append] at this
  exact this
theorem ordL_len (l : List α) : (ordL lt l).length = l.length := by
  have : ∀ (l o : List α), (l.foldl (fun o x => insL lt x o) o).length = o.length + l.length := by
    intro l
    induction l with
    | nil => intro o; rfl
    | cons x r ih => intro o; rw [List.foldl_cons, ih, insL_len, List.length_cons]; omega
  rw [ordL, this]; simp
theorem eqv_self (hS : SWO lt) (x : α) : eqvB lt x x = true := by simp [eqvB, hS.irrefl]
theorem one_list (hS : SWO lt) : ∀ (l m : List α), SortL lt l → SortL lt m → (∀ c, l.filter (eqvB lt c) = m.filter (eqvB lt c)) → l = m
  | [], [], _, _, _ => rfl
  | [], y :: s, _, _, h => by
    have := h y
    rw [List.filter_cons, if_pos (eqv_self hS y)] at this
    simp at this
  | x :: r, [], _, _, h => by
    have := h x
    rw [List.filter_cons, if_pos (eqv_self hS x)] at this
    simp at this
  | x :: r, y :: s, hl, hm, h => by
    have hl' := List.pairwise_cons.1 hl
    have hm' := List.pairwise_cons.1 hm
    have mem : ∀ z ∈ x :: r, ∃ z' ∈ y :: s, eqvB lt z z' = true := fun z hz => by
      have hz' : z ∈ (x :: r).filter (eqvB lt z) := List.mem_filter.2 ⟨hz, eqv_self hS z⟩
      rw [h z] at hz'
      exact ⟨z, (List.mem_filter.1 hz').1, eqv_self hS z⟩
    have mem' : ∀ z ∈ y :: s, z ∈ x :: r := fun z hz => by
      have hz' : z ∈ (y :: s).filter (eqvB lt z) := List.mem_filter.2 ⟨hz, eqv_self hS z⟩
      rw [← h z] at hz'
      exact (List.mem_filter.1 hz').1
    have mem2 : ∀ z ∈ x :: r, z ∈ y :: s := fun z hz => by
      have hz' : z ∈ (x :: r).filter (eqvB lt z) := List.mem_filter.2 ⟨hz, eqv_self hS z⟩
      rw [h z] at hz'
      exact (List.mem_filter.1 hz').1
    have yx : lt y x = false := by
      rcases List.mem_cons.1 (mem' y (List.mem_cons_self)) with e | e
      · rw [e]; exact hS.irrefl x
      · exact hl'.1 y e
    have xy : lt x y = false := by
      rcases List.mem_cons.1 (mem2 x (List.mem_cons_self)) with e | e
      · rw [e]; exact hS.irrefl y
      · exact hm'.1 x e
    have hxy := h x
    rw [List.filter_cons, List.filter_cons, if_pos (eqv_self hS x), if_pos (by simp [eqvB, xy, yx])] at hxy
    injection hxy with e1 e2
    subst e1
    congr 1
    refine one_list hS r s hl'.2 hm'.2 fun c => ?_
    have := h c
    rw [List.filter_cons, List.filter_cons] at this
    split at this
    · injection this
    · exact this
theorem sortL_of {d : Array α} (h : SortedIn lt 0 d.size d) : SortL lt d.toList := by
  rw [SortL, List.pairwise_iff_getElem]
  intro i j hi hj hij
  simp only [Array.length_toList] at hi hj
  have := h i j (Nat.zero_le _) hij hj
  rw [getElem!_pos d i hi, getElem!_pos d j hj] at this
  simpa using this
theorem stable_eq (hS : SWO lt) {d d' : Array α} (h : SortedIn lt 0 d'.size d') (hs : Stab lt d d') : d'.toList = ordL lt d.toList :=
  one_list hS _ _ (sortL_of h) (ordL_sort hS _) fun c => (hs c).trans (ordL_filter hS _ c).symm
/-! What a merge is, and how it is come by. -/
structure Merged (lt : α → α → Bool) (a b : Nat) (d d' : Array α) : Prop where
  perm : PermIn a b d d'
  sort : SortedIn lt a b d'
  stab : Stab lt d d'
theorem sorted_le (hS : SWO lt) {d : Array α} {a b i j : Nat} (h : SortedIn lt a b d) (hi : a ≤ i) (hij : i ≤ j) (hj : j < b) : lt d[j]! d[i]! = false := by
  by_cases e : i = j
  · subst e; exact hS.irrefl _
  · exact h i j hi (by omega) hj
theorem search_up (hS : SWO lt) {x y z : α} (h : lt y z = true) (hxy : lt y x = false) : lt x z = true := by
  cases hxz : lt x z with
  | true => rfl
  | false => have := hS.ntrans y x z hxy hxz; rw [h] at this; cases this
theorem permIn_mono {d d' : Array α} {a b a' b' : Nat} (h : PermIn a b d d') (ha : a' ≤ a) (hab : a ≤ b) (hb : b ≤ b') (hs : b' ≤ d.size) : PermIn a' b' d d' := by
  refine ⟨h.1, fun i hi => h.2.1 i (by omega), ?_⟩
  rw [extract_toList _ _ _ (by rw [h.1]; exact hs), extract_toList _ _ _ hs]
  show (seg d' a' (b' - a')).Perm (seg d a' (b' - a'))
  have h3 := h.2.2
  rw [extract_toList _ _ _ (by rw [h.1]; omega), extract_toList _ _ _ (by omega)] at h3
  have e : ∀ x : Array α, seg x a' (b' - a') = seg x a' (a - a') ++ (seg x a (b - a) ++ seg x b (b' - b)) := fun x => by
    rw [seg_split x a' (b' - a') (a - a') (by omega), show a' + (a - a') = a by omega, seg_split x a (b' - a' - (a - a')) (b - a) (by omega), show a + (b - a) = b by omega, show b' - a' - (a - a') - (b - a) = b' - b by omega]
  rw [e, e, seg_congr d' d a' a' (a - a') (fun i hi => h.2.1 _ (by omega)), seg_congr d' d b b (b' - b) (fun i hi => h.2.1 _ (by omega))]
  exact List.Perm.append_left _ (List.Perm.append_right _ h3)
theorem Merged.same {d : Array α} {a b : Nat} (h : SortedIn lt a b d) : Merged lt a b d d := ⟨permIn_refl d a b, h, Stab.refl d⟩
theorem merged_all (hS : SWO lt) {d f g : Array α} {a s m e b mid : Nat} (has : a ≤ s) (hsm : s ≤ m) (hme : m ≤ e) (heb : e ≤ b) (hb : b ≤ d.size) (hmid : mid = s + (e - m))
    (hlt : ∀ i j, s ≤ i → i < m → m ≤ j → j < e → lt d[j]! d[i]! = true) (T : Turned lt (rotA d s m e) a s mid e b) (h1 : Merged lt a mid (rotA d s m e) f) (h2 : Merged lt mid b f g) : Merged lt a b d g := by
  have hs : (rotA d s m e).size = d.size := rotA_size _ _ _ _
  have hf : f.size = d.size := h1.perm.1.trans hs
  refine ⟨permIn_trans _ _ _ _ _ (permIn_mono (permIn_rot d s m e hsm hme (by omega)) has (by omega) heb hb) (permIn_trans _ _ _ _ _ (permIn_mono h1.perm (Nat.le_refl _) (by omega) (by omega) (by omega)) (permIn_mono h2.perm (by omega) (by omega) (Nat.le_refl _) (by omega))), ?_, ?_⟩
  · exact halves (by omega) (by omega) (by omega) T.cross h1.perm h1.sort h2.perm h2.sort
  · exact ((stab_rot hS d s m e hsm hme (by omega) hlt).trans h1.stab).trans h2.stab
theorem left_half {d : Array α} {a s mid e b : Nat} (T : Turned lt d a s mid e b) (has : a ≤ s) (hsm : s ≤ mid) (h : ¬ (a < s ∧ s < mid)) : SortedIn lt a mid d := by
  by_cases h1 : a = s
  · subst h1; exact T.p2
  · obtain rfl : s = mid := by omega
    exact T.p1
theorem right_half {d : Array α} {a s mid e b : Nat} (T : Turned lt d a s mid e b) (hme : mid ≤ e) (heb : e ≤ b) (h : ¬ (mid < e ∧ e < b)) : SortedIn lt mid b d := by
  by_cases h1 : mid = e
  · subst h1; exact T.p4
  · obtain rfl : e = b := by omega
    exact T.p3
/-- One thing ahead of a sorted part, laid where it belongs. -/
theorem merged_one (hS : SWO lt) {d : Array α} {a b i : Nat} (hi : a + 1 ≤ i) (hib : i ≤ b) (hb : b ≤ d.size) (h2 : SortedIn lt (a + 1) b d)
    (lo : ∀ t, a + 1 ≤ t → t < i → lt d[t]! d[a]! = true) (hi' : ∀ t, i ≤ t → t < b → lt d[t]! d[a]! = false) : Merged lt a b d (rotA d a (a + 1) i) := by
  have hlt : ∀ x y, a ≤ x → x < a + 1 → a + 1 ≤ y → y < i → lt d[y]! d[x]! = true := fun x y q1 q2 q3 q4 => by
    obtain rfl : x = a := by omega
    exact lo y q3 q4
  have T := turned hS d a a (a + 1) i b (Nat.le_refl _) (by omega) hi hib hb (sorted_less (by omega)) h2 hlt (fun x y q1 q2 q3 q4 => by omega)
  refine merged_all hS (mid := a + (i - (a + 1))) (Nat.le_refl _) (by omega) hi hib hb rfl hlt T (Merged.same (left_half T (Nat.le_refl _) (by omega) (by omega))) (Merged.same ?_)
  refine sorted_join T.p3 T.p4 fun x y q1 q2 q3 q4 => ?_
  rw [rot_hi d a (a + 1) i x (by omega) (by omega) q1 q2, rot_out d a (a + 1) i y (by omega) (.inr q3), show x - (i - (a + 1)) = a by omega]
  exact hi' y q3 q4
/-- One thing behind a sorted part. -/
theorem merged_last (hS : SWO lt) {d : Array α} {a m i : Nat} (hi : a ≤ i) (him : i ≤ m) (hb : m + 1 ≤ d.size) (h1 : SortedIn lt a m d)
    (lo : ∀ t, a ≤ t → t < i → lt d[m]! d[t]! = false) (hi' : ∀ t, i ≤ t → t < m → lt d[m]! d[t]! = true) : Merged lt a (m + 1) d (rotA d i m (m + 1)) := by
  have hlt : ∀ x y, i ≤ x → x < m → m ≤ y → y < m + 1 → lt d[y]! d[x]! = true := fun x y q1 q2 q3 q4 => by
    obtain rfl : y = m := by omega
    exact hi' x q1 q2
  have T := turned hS d a i m (m + 1) (m + 1) hi him (by omega) (Nat.le_refl _) hb h1 (sorted_less (by omega)) hlt (fun x y q1 q2 q3 q4 => by omega)
  refine merged_all hS (mid := i + (m + 1 - m)) hi him (by omega) (Nat.le_refl _) hb rfl hlt T (Merged.same ?_) (Merged.same (right_half T (by omega) (Nat.le_refl _) (by omega)))
  refine sorted_join T.p1 T.p2 fun x y q1 q2 q3 q4 => ?_
  rw [rot_out d i m (m + 1) x (by omega) (.inl q2), rot_lo d i m (m + 1) y (by omega) (by omega) q3 q4 him, show y - i + m = m by omega]
  exact lo x q1 q2
/-- Where the search for the cut ends. -/
theorem found (hS : SWO lt) {d : Array α} {a m b mid s s0 r0 : Nat} (ham : a < m) (hmb : m < b) (hmid : mid = (a + b) / 2) (h1 : SortedIn lt a m d) (h2 : SortedIn lt m b d)
    (hc : (mid < m ∧ s0 = mid + m - b ∧ r0 = mid) ∨ (m ≤ mid ∧ s0 = a ∧ r0 = m)) (hs0 : s0 ≤ s) (hsr : s ≤ r0)
    (lo : ∀ c, s0 ≤ c → c < s → lt d[mid + m - 1 - c]! d[c]! = false) (hi : ∀ c, s ≤ c → c < r0 → lt d[mid + m - 1 - c]! d[c]! = true) :
    (a ≤ s ∧ s ≤ m ∧ m ≤ mid + m - s ∧ mid + m - s ≤ b ∧ s ≤ mid) ∧ (∀ i j, s ≤ i → i < m → m ≤ j → j < mid + m - s → lt d[j]! d[i]! = true) ∧ (∀ i j, a ≤ i → i < s → mid + m - s ≤ j → j < b → lt d[j]! d[i]! = false) := by
  have bd : a ≤ s ∧ s ≤ m ∧ m ≤ mid + m - s ∧ mid + m - s ≤ b ∧ s ≤ mid := by omega
  refine ⟨bd, fun i j q1 q2 q3 q4 => ?_, fun i j q1 q2 q3 q4 => ?_⟩
  · have hsr' : s < r0 := by omega
    have e := hi s (Nat.le_refl _) hsr'
    have e1 : lt d[mid + m - 1 - s]! d[j]! = false := sorted_le hS h2 q3 (by omega) (by omega)
    have e2 : lt d[i]! d[s]! = false := sorted_le hS h1 bd.1 q1 q2
    exact search_up hS (by
      cases h : lt d[mid + m - 1 - s]! d[i]! with
      | true => rfl
      | false => have := hS.ntrans _ _ _ h e2; rw [e] at this; cases this) e1
  · have hs0' : s0 < s := by omega
    have e := lo (s - 1) (by omega) (by omega)
    have e1 : lt d[j]! d[mid + m - 1 - (s - 1)]! = false := sorted_le hS h2 (by omega) (by omega) q4
    have e2 : lt d[s - 1]! d[i]! = false := sorted_le hS h1 q1 (by omega) (by omega)
    exact hS.ntrans _ _ _ (hS.ntrans _ _ _ e1 e) e2
theorem cut_lo (hS : SWO lt) {d : Array α} {a m b p s0 h : Nat} (h1 : SortedIn lt a m d) (h2 : SortedIn lt m b d) (has : a ≤ s0) (hm : h < m) (hp : m + h ≤ p) (hpb : p < b + s0) (hs : s0 ≤ h) (e : lt d[p - h]! d[h]! = false) :
    ∀ c, s0 ≤ c → c < h + 1 → lt d[p - c]! d[c]! = false := fun c q1 q2 =>
  hS.ntrans _ _ _ (hS.ntrans _ _ _ (sorted_le hS h2 (by omega) (by omega) (by omega)) e) (sorted_le hS h1 (by omega) (by omega) hm)
theorem cut_hi (hS : SWO lt) {d : Array α} {a m b p r0 h : Nat} (h1 : SortedIn lt a m d) (h2 : SortedIn lt m b d) (hah : a ≤ h) (hr : r0 ≤ m) (hp : m + r0 ≤ p + 1) (hpb : p < b + h) (e : lt d[p - h]! d[h]! = true) :
    ∀ c, h ≤ c → c < r0 → lt d[p - c]! d[c]! = true := fun c q1 q2 => by
  have e1 : lt d[p - h]! d[p - c]! = false := sorted_le hS h2 (by omega) (by omega) (by omega)
  have e2 : lt d[c]! d[h]! = false := sorted_le hS h1 hah q1 (by omega)
  exact search_up hS (by
    cases h : lt d[p - h]! d[c]! with
    | true => rfl
    | false => have := hS.ntrans _ _ _ h e2; rw [e] at this; cases this) e1
/-! Blocks. -/
/-- From a on, up to n, each block of bs is sorted. -/
inductive Blk (lt : α → α → Bool) (bs n : Nat) (d : Array α) : Nat → Prop where
  | last : ∀ a, n ≤ a + bs → SortedIn lt a n d → Blk lt bs n d a
  | step : ∀ a, a + bs < n → SortedIn lt a (a + bs) d → Blk lt bs n d (a + bs) → Blk lt bs n d a
/-- Each block up to a. -/
inductive Pre (lt : α → α → Bool) (bs : Nat) (d : Array α) : Nat → Prop where
  | zero : Pre lt bs d 0
  | step : ∀ a, Pre lt bs d a → SortedIn lt a (a + bs) d → Pre lt bs d (a + bs)
theorem Pre.all {bs n : Nat} {d : Array α} {a : Nat} (h : Pre lt bs d a) : a ≤ n → Blk lt bs n d a → Blk lt bs n d 0 := by
  induction h with
  | zero => intro _ hb; exact hb
  | step a hp hs ih =>
    intro han hb
    refine ih (by omega) ?_
    by_cases he : a + bs < n
    · exact .step a he hs hb
    · refine .last a (by omega) ?_
      have : a + bs = n := by omega
      rw [← this]; exact hs
theorem Pre.congr {bs : Nat} {d e : Array α} {a : Nat} (h : Pre lt bs d a) : (∀ i, i < a → e[i]! = d[i]!) → Pre lt bs e a := by
  induction h with
  | zero => intro _; exact .zero
  | step a hp hs ih => intro he; exact .step a (ih fun i hi => he i (by omega)) (sorted_congr hs fun i _ h2 => he i h2)
theorem Blk.congr {bs n : Nat} {d e : Array α} {a : Nat} (h : Blk lt bs n d a) : (∀ i, a ≤ i → i < n → e[i]! = d[i]!) → Blk lt bs n e a := by
  induction h with
  | last a hn hs => intro he; exact .last a hn (sorted_congr hs fun i h1 h2 => he i h1 h2)
  | step a hn hs hb ih => intro he; exact .step a hn (sorted_congr hs fun i h1 h2 => he i h1 (by omega)) (ih fun i h1 h2 => he i (by omega) h2)
theorem Blk.two {bs n : Nat} {d : Array α} {a : Nat} (h : Blk lt bs n d a) (hb : 0 < bs) (hn : a + bs + bs ≤ n) : SortedIn lt a (a + bs) d ∧ SortedIn lt (a + bs) (a + bs + bs) d ∧ Blk lt bs n d (a + bs + bs) := by
  cases h with
  | last _ h1 h2 => omega
  | step _ h1 h2 h3 =>
    cases h3 with
    | last _ k1 k2 =>
      have : a + bs + bs = n := by omega
      exact ⟨h2, by rw [this]; exact k2, .last _ (by omega) (sorted_less (by omega))⟩
    | step _ k1 k2 k3 => exact ⟨h2, k2, k3⟩
theorem Blk.one {bs n : Nat} {d : Array α} {a : Nat} (h : Blk lt bs n d a) (hb : 0 < bs) (h1 : a + bs < n) (h2 : n < a + bs + bs) : SortedIn lt a (a + bs) d ∧ SortedIn lt (a + bs) n d := by
  cases h with
  | last _ k1 k2 => omega
  | step _ k1 k2 k3 =>
    cases k3 with
    | last _ j1 j2 => exact ⟨k2, j2⟩
    | step _ j1 j2 j3 => omega
theorem Blk.end_ {bs n : Nat} {d : Array α} {a : Nat} (h : Blk lt bs n d a) (h1 : n ≤ a + bs) : SortedIn lt a n d := by
  cases h with
  | last _ k1 k2 => exact k2
  | step _ k1 k2 k3 => omega
end
end Go.Proofs.YtcaapnjipjemiaaDoor.P
