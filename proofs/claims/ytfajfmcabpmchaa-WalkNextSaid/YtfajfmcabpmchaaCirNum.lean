/- Peers as lists: circles, owners, what is put in between. Nothing of the program is named here but places. -/
import Derived.Test.YtfajfmcabpmchaaIdOps
namespace Go.Proofs.Ytfajfmcabpmchaa
set_option maxRecDepth 100000
open Go.RowKit

/-- a peer: its address, and its place -/
abbrev Pe : Type := Int × Nat
/-- a peer's cells -/
def peC (x : Pe) : List Value := .int .i64 x.1 :: (row (dig 20 x.2)).toList
theorem peC_length (x : Pe) : (peC x).length = 21 := by
  unfold peC
  rw [List.length_cons, Array.length_toList, row_size, dig_length]
def flat : List Pe → List Value
  | [] => []
  | x :: L => peC x ++ flat L
theorem flat_length (L : List Pe) : (flat L).length = L.length * 21 := by
  induction L with
  | nil => rfl
  | cons x L ih => rw [flat, List.length_append, ih, peC_length, List.length_cons]; omega
theorem flat_append (L K : List Pe) : flat (L ++ K) = flat L ++ flat K := by
  induction L with
  | nil => rfl
  | cons x L ih => rw [List.cons_append, flat, flat, ih, List.append_assoc]
theorem flat_single (x : Pe) : flat [x] = peC x := List.append_nil _
theorem flat_take (L : List Pe) (i : Nat) : (flat L).take (i * 21) = flat (L.take i) := by
  induction L generalizing i with
  | nil => simp [flat]
  | cons x L ih =>
    cases i with
    | zero => simp [flat]
    | succ i =>
      rw [flat, List.take_append, peC_length, show (i + 1) * 21 - 21 = i * 21 by omega, ih, List.take_of_length_le (by rw [peC_length]; omega), List.take_succ_cons, flat]
theorem flat_drop (L : List Pe) (i : Nat) : (flat L).drop (i * 21) = flat (L.drop i) := by
  induction L generalizing i with
  | nil => simp [flat]
  | cons x L ih =>
    cases i with
    | zero => simp [flat]
    | succ i =>
      rw [flat, List.drop_append, peC_length, show (i + 1) * 21 - 21 = i * 21 by omega, ih, List.drop_eq_nil_of_le (by rw [peC_length]; omega), List.nil_append, List.drop_succ_cons]
theorem flat_get {L : List Pe} {j : Nat} {x : Pe} (h : L[j]? = some x) (k : Nat) (hk : k < 21) : (flat L)[j * 21 + k]? = (peC x)[k]? := by
  induction L generalizing j with
  | nil => simp at h
  | cons y L ih =>
    cases j with
    | zero =>
      simp only [List.getElem?_cons_zero, Option.some.injEq] at h
      subst h
      rw [flat, Nat.zero_mul, Nat.zero_add, List.getElem?_append_left (by rw [peC_length]; exact hk)]
    | succ j =>
      rw [flat, List.getElem?_append_right (by rw [peC_length]; omega), peC_length, show (j + 1) * 21 + k - 21 = j * 21 + k by omega]
      exact ih (by simpa using h)
theorem peC_one (x : Pe) : ∀ v ∈ peC x, v.oneCell' = true := by
  intro v hv
  simp only [peC, row, List.mem_cons, List.mem_map, List.toList_toArray] at hv
  rcases hv with rfl | ⟨n, _, rfl⟩
  · rfl
  · rfl
theorem flat_one (L : List Pe) : ∀ v ∈ flat L, v.oneCell' = true := by
  induction L with
  | nil => intro v hv; simp [flat] at hv
  | cons x L ih =>
    intro v hv
    rw [flat, List.mem_append] at hv
    rcases hv with hv | hv
    · exact peC_one x v hv
    · exact ih v hv

/-! circles -/
def ad (L : List Pe) (i : Nat) : Int := (L.getD i (0, 0)).1
def pn (L : List Pe) (i : Nat) : Nat := (L.getD i (0, 0)).2
theorem at_get {L : List Pe} {i : Nat} (h : i < L.length) : L[i]? = some (ad L i, pn L i) := by
  unfold ad pn
  rw [List.getElem?_eq_getElem h, List.getD_eq_getElem?_getD, List.getElem?_eq_getElem h]
  rfl
theorem ad_of {L : List Pe} {i : Nat} {x : Pe} (h : L[i]? = some x) : ad L i = x.1 := by unfold ad; rw [List.getD_eq_getElem?_getD, h]; rfl
theorem pn_of {L : List Pe} {i : Nat} {x : Pe} (h : L[i]? = some x) : pn L i = x.2 := by unfold pn; rw [List.getD_eq_getElem?_getD, h]; rfl
/-- all places are places -/
def Wf (L : List Pe) : Prop := ∀ x ∈ L, x.2 < M
theorem Wf.pn {L : List Pe} (h : Wf L) (i : Nat) : pn L i < M := by
  by_cases hi : i < L.length
  · have := at_get hi
    exact h _ (List.mem_of_getElem? this)
  · unfold Go.Proofs.Ytfajfmcabpmchaa.pn
    rw [List.getD_eq_getElem?_getD, List.getElem?_eq_none (by omega)]
    exact M_pos
def okAt (L : List Pe) (i : Nat) : Prop := 0 ≤ ad L i ∧ ad L i ≤ 999 ∧ (∀ j, j < i → ad L j ≠ ad L i) ∧ (0 < i → pn L (i - 1) < pn L i)
instance (L : List Pe) (i : Nat) : Decidable (okAt L i) := by unfold okAt; exact inferInstance
def Circ (L : List Pe) : Prop := (1 ≤ L.length ∧ L.length ≤ 16) ∧ ∀ i, i < L.length → okAt L i
instance (L : List Pe) : Decidable (Circ L) := by unfold Circ; exact inferInstance
def isB (L : List Pe) : Bool := decide (Circ L)
def Rise (L : List Pe) : Prop := ∀ i j, i < j → j < L.length → pn L i < pn L j
theorem Circ.rise {L : List Pe} (h : Circ L) : Rise L := by
  intro i j hij hj
  induction j with
  | zero => omega
  | succ j ih =>
    have h1 := (h.2 (j + 1) hj).2.2.2 (by omega)
    rw [Nat.add_sub_cancel] at h1
    rcases Nat.lt_or_ge i j with h2 | h2
    · have := ih h2 (by omega)
      omega
    · obtain rfl : i = j := by omega
      exact h1
/-- the first one whose place is not below id -/
def firstN : List Pe → Nat → Nat
  | [], _ => 0
  | x :: L, id => if x.2 < id then firstN L id + 1 else 0
theorem first_le (L : List Pe) (id : Nat) : firstN L id ≤ L.length := by
  induction L with
  | nil => exact Nat.le_refl _
  | cons x L ih => unfold firstN; split <;> simp <;> omega
theorem pn_succ (x : Pe) (L : List Pe) (i : Nat) : pn (x :: L) (i + 1) = pn L i := rfl
theorem ad_succ (x : Pe) (L : List Pe) (i : Nat) : ad (x :: L) (i + 1) = ad L i := rfl
theorem first_lt {L : List Pe} {id i : Nat} (h : i < firstN L id) : pn L i < id := by
  induction L generalizing i with
  | nil => simp [firstN] at h
  | cons x L ih =>
    unfold firstN at h
    split at h
    · cases i with
      | zero => assumption
      | succ i => rw [pn_succ]; exact ih (by omega)
    · omega
theorem first_at {L : List Pe} {id : Nat} (h : firstN L id < L.length) : ¬ pn L (firstN L id) < id := by
  induction L with
  | nil => simp at h
  | cons x L ih =>
    unfold firstN at h ⊢
    split
    · rename_i hx
      rw [if_pos hx] at h
      rw [pn_succ]
      exact ih (by simpa using h)
    · rename_i hx; exact hx
theorem first_of {L : List Pe} {id k : Nat} (hk : k ≤ L.length) (h1 : ∀ i, i < k → pn L i < id) (h2 : k < L.length → ¬ pn L k < id) : firstN L id = k := by
  have a := first_le L id
  rcases Nat.lt_trichotomy (firstN L id) k with h | h | h
  · exact absurd (h1 _ h) (first_at (by omega))
  · exact h
  · exact absurd (first_lt h) (h2 (by omega))
/-- the owner -/
def ownN (L : List Pe) (id : Nat) : Nat := firstN L id % L.length
theorem own_if (L : List Pe) (id : Nat) : ownN L id = if firstN L id < L.length then firstN L id else 0 := by
  unfold ownN
  have := first_le L id
  split
  · rename_i h; exact Nat.mod_eq_of_lt h
  · rw [show firstN L id = L.length by omega, Nat.mod_self]
theorem own_lt {L : List Pe} (h : 0 < L.length) (id : Nat) : ownN L id < L.length := Nat.mod_lt _ h

/-! places, one behind the other -/
theorem sub_mod {a b : Nat} (ha : a < M) (hb : b < M) : sub a b % M = if b ≤ a then a - b else a + M - b := by
  unfold sub
  rw [Nat.mod_eq_of_lt hb]
  split
  · rw [show a + M - b = (a - b) + M by omega, Nat.add_mod_right, Nat.mod_eq_of_lt (by omega)]
  · rw [Nat.mod_eq_of_lt (by omega)]
theorem eqB_lt {a b : Nat} (ha : a < M) (hb : b < M) : eqB a b = decide (a = b) := by unfold eqB; rw [Nat.mod_eq_of_lt ha, Nat.mod_eq_of_lt hb]
theorem half_iff {a x b : Nat} (ha : a < M) (hx : x < M) (hb : b < M) : halfB a x b = true ↔ (a < b ∧ a < x ∧ x ≤ b) ∨ (b < a ∧ (x ≤ b ∨ a < x)) ∨ a = b := by
  unfold halfB openB lessB
  rw [eqB_lt hx hb, eqB_lt hx ha, eqB_lt ha hb, sub_mod hx ha, sub_mod hb ha]
  simp only [Bool.or_eq_true, Bool.and_eq_true, decide_eq_true_eq, Bool.not_eq_true', decide_eq_false_iff_not]
  split <;> split <;> omega
/-- each place is in the arc of its owner, and in no other one's -/
theorem arc_own {L : List Pe} (hC : Circ L) (hw : Wf L) {id i : Nat} (hid : id < M) (hi : i < L.length) : halfB (pn L ((i + L.length - 1) % L.length)) id (pn L i) = decide (i = ownN L id) := by
  have hr := hC.rise
  have f1 := first_le L id
  have f2 : ∀ j, j < firstN L id → pn L j < id := fun j hj => first_lt hj
  have f3 : firstN L id < L.length → ¬ pn L (firstN L id) < id := fun h => first_at h
  rw [Bool.eq_iff_iff, half_iff (hw.pn _) hid (hw.pn _), decide_eq_true_eq, own_if]
  rcases Nat.eq_zero_or_pos i with rfl | h0
  · rw [show (0 + L.length - 1) % L.length = L.length - 1 by rw [Nat.zero_add]; exact Nat.mod_eq_of_lt (by omega)]
    by_cases h1 : L.length = 1
    · have e : L.length - 1 = 0 := by omega
      rw [e]
      split <;> omega
    · have h2 := hr 0 (L.length - 1) (by omega) (by omega)
      constructor
      · rintro (h | ⟨_, h | h⟩ | h)
        · omega
        · have : firstN L id = 0 := first_of (by omega) (fun i hi => by omega) (fun _ => by omega)
          rw [this]; simp
        · have : firstN L id = L.length := first_of (Nat.le_refl _) (fun i hi => by
            rcases Nat.lt_or_ge i (L.length - 1) with h3 | h3
            · have := hr i _ h3 (by omega); omega
            · obtain rfl : i = L.length - 1 := by omega
              exact h) (fun h => by omega)
          rw [this]; simp
        · omega
      · intro h
        right; left
        refine ⟨h2, ?_⟩
        by_cases h3 : firstN L id < L.length
        · rw [if_pos h3] at h
          have := f3 h3
          rw [← h] at this
          left; omega
        · right
          exact f2 _ (by omega)
  · rw [show (i + L.length - 1) % L.length = i - 1 by
      rw [show i + L.length - 1 = (i - 1) + L.length by omega, Nat.add_mod_right]; exact Nat.mod_eq_of_lt (by omega)]
    have h2 := hr (i - 1) i (by omega) hi
    constructor
    · rintro (⟨_, h, h'⟩ | h | h)
      · have : firstN L id = i := first_of (by omega) (fun j hj => by
          rcases Nat.lt_or_ge j (i - 1) with h3 | h3
          · have := hr j _ h3 (by omega); omega
          · obtain rfl : j = i - 1 := by omega
            exact h) (fun _ => by omega)
        rw [this, if_pos hi]
      · omega
      · omega
    · intro h
      left
      by_cases h3 : firstN L id < L.length
      · rw [if_pos h3] at h
        have a := f3 h3
        have b := f2 (i - 1) (by omega)
        rw [← h] at a
        omega
      · rw [if_neg h3] at h; omega
/-- no peer is nearer to a place, clockwise from there, than its owner -/
theorem own_near {L : List Pe} (hC : Circ L) (hw : Wf L) {id j : Nat} (hid : id < M) (hj : j < L.length) : lessB (sub (pn L j) id) (sub (pn L (ownN L id)) id) = false := by
  have hr := hC.rise
  have f1 := first_le L id
  have f2 : ∀ j, j < firstN L id → pn L j < id := fun j hj => first_lt hj
  have f3 : firstN L id < L.length → ¬ pn L (firstN L id) < id := fun h => first_at h
  have a := hw.pn j
  have b := hw.pn (ownN L id)
  unfold lessB
  rw [decide_eq_false_iff_not, sub_mod a hid, sub_mod b hid, own_if] 
  rw [own_if] at b
  by_cases h3 : firstN L id < L.length
  · rw [if_pos h3] at b ⊢
    have h4 := f3 h3
    rw [if_pos (show id ≤ pn L (firstN L id) by omega)]
    split
    · have h5 : firstN L id ≤ j := by
        rcases Nat.lt_or_ge j (firstN L id) with h | h
        · have := f2 j h; omega
        · exact h
      rcases Nat.lt_or_ge (firstN L id) j with h6 | h6
      · have := hr _ _ h6 hj; omega
      · obtain rfl : j = firstN L id := by omega
        omega
    · omega
  · rw [if_neg h3] at b ⊢
    have e : firstN L id = L.length := by omega
    have h4 := f2 j (by omega)
    have h5 := f2 0 (by omega)
    rw [if_neg (by omega), if_neg (by omega)]
    rcases Nat.eq_zero_or_pos j with rfl | h6
    · omega
    · have := hr 0 j h6 hj; omega
/-! a peer goes -/
def less1 (L : List Pe) (i : Nat) : List Pe := L.take i ++ L.drop (i + 1)
theorem less1_length {L : List Pe} {i : Nat} (hi : i < L.length) : (less1 L i).length = L.length - 1 := by
  unfold less1
  rw [List.length_append, List.length_take, List.length_drop]; omega
theorem less1_get {L : List Pe} {i : Nat} (hi : i < L.length) (j : Nat) : (less1 L i).getD j (0, 0) = L.getD (if j < i then j else j + 1) (0, 0) := by
  unfold less1
  rw [List.getD_eq_getElem?_getD, List.getD_eq_getElem?_getD]
  split
  · rename_i h
    rw [List.getElem?_append_left (by rw [List.length_take]; omega), List.getElem?_take, if_pos h]
  · rename_i h
    rw [List.getElem?_append_right (by rw [List.length_take]; omega), List.length_take, Nat.min_eq_left (by omega), List.getElem?_drop, show i + 1 + (j - i) = j + 1 by omega]
theorem less1_ad {L : List Pe} {i : Nat} (hi : i < L.length) (j : Nat) : ad (less1 L i) j = ad L (if j < i then j else j + 1) := by unfold ad; rw [less1_get hi]
theorem less1_pn {L : List Pe} {i : Nat} (hi : i < L.length) (j : Nat) : pn (less1 L i) j = pn L (if j < i then j else j + 1) := by unfold pn; rw [less1_get hi]
theorem Circ.ne {L : List Pe} (h : Circ L) {i j : Nat} (hij : i < j) (hj : j < L.length) : ad L i ≠ ad L j := (h.2 j hj).2.2.1 i hij
theorem less1_circ {L : List Pe} (hC : Circ L) {i : Nat} (hi : i < L.length) (h2 : 2 ≤ L.length) : Circ (less1 L i) := by
  have hl := less1_length hi
  refine ⟨by have := hC.1; omega, fun j hj => ?_⟩
  rw [hl] at hj
  have a := hC.2 (if j < i then j else j + 1) (by split <;> omega)
  refine ⟨?_, ?_, fun k hk => ?_, fun h0 => ?_⟩
  · rw [less1_ad hi]; exact a.1
  · rw [less1_ad hi]; exact a.2.1
  · rw [less1_ad hi, less1_ad hi]
    exact hC.ne (by split <;> split <;> omega) (by split <;> omega)
  · rw [less1_pn hi, less1_pn hi]
    exact hC.rise _ _ (by split <;> split <;> omega) (by split <;> omega)
theorem goes {L : List Pe} (hC : Circ L) {i id : Nat} (hi : i < L.length) (h2 : 2 ≤ L.length) :
    (less1 L i).getD (ownN (less1 L i) id) (0, 0) = L.getD (if ownN L id = i then (ownN L id + 1) % L.length else ownN L id) (0, 0) := by
  have hl := less1_length hi
  have f1 := first_le L id
  have f2 : ∀ j, j < firstN L id → pn L j < id := fun j hj => first_lt hj
  have f3 : firstN L id < L.length → ¬ pn L (firstN L id) < id := fun h => first_at h
  have key : firstN (less1 L i) id = if firstN L id ≤ i then firstN L id else firstN L id - 1 := by
    refine first_of (by rw [hl]; split <;> omega) (fun j hj => ?_) (fun hj => ?_)
    · rw [less1_pn hi]
      split at hj
      · rw [if_pos (by omega)]; exact f2 _ hj
      · split
        · exact f2 _ (by omega)
        · exact f2 _ (by omega)
    · rw [less1_pn hi]
      rw [hl] at hj
      split at hj
      · rename_i h
        rw [if_pos h]
        split
        · exact f3 (by omega)
        · have a := f3 (by omega)
          have b := hC.rise (firstN L id) (firstN L id + 1) (by omega) (by omega)
          omega
      · rename_i h
        rw [if_neg h, if_neg (by omega), show firstN L id - 1 + 1 = firstN L id by omega]
        exact f3 (by omega)
  rw [less1_get hi, own_if, own_if, hl, key]
  congr 1
  by_cases h1 : firstN L id ≤ i
  · rw [if_pos h1, if_pos (show firstN L id < L.length by omega)]
    by_cases h3 : firstN L id = i
    · rw [if_pos h3]
      by_cases h4 : firstN L id < L.length - 1
      · rw [if_pos h4, if_neg (by omega), Nat.mod_eq_of_lt (by omega)]
      · rw [if_neg h4, if_pos (by omega), show firstN L id + 1 = L.length by omega, Nat.mod_self]
    · rw [if_neg h3, if_pos (show firstN L id < L.length - 1 by omega), if_pos (by omega)]
  · rw [if_neg h1]
    by_cases h3 : firstN L id < L.length
    · rw [if_pos h3, if_neg (show ¬ firstN L id = i by omega), if_pos (show firstN L id - 1 < L.length - 1 by omega), if_neg (by omega)]
      omega
    · rw [if_neg h3, if_neg (show ¬ firstN L id - 1 < L.length - 1 by omega)]
      by_cases h4 : i = 0
      · subst h4
        rw [if_neg (by omega), if_pos rfl, Nat.mod_eq_of_lt (by omega)]
      · rw [if_pos (by omega), if_neg (by omega)]
end Go.Proofs.Ytfajfmcabpmchaa
