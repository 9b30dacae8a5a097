/- Rows as functions: swapped, rotated, sorted by address, stably. Nothing of the program is named here. -/
import Derived.Test.YtkcljbolopephaaCirMem
namespace Go.Proofs.Ytkcljbolopephaa
set_option maxRecDepth 100000
open Go.RowKit

/-- the places from a up to b -/
def seg (f : Nat → Pe) (a b : Nat) : List Pe := (List.range (b - a)).map fun i => f (a + i)
theorem seg_length (f : Nat → Pe) (a b : Nat) : (seg f a b).length = b - a := by simp [seg]
theorem seg_get (f : Nat → Pe) (a b i : Nat) (h : i < b - a) : (seg f a b)[i]? = some (f (a + i)) := by simp [seg, h]
theorem seg_none (f : Nat → Pe) {a b : Nat} (h : b ≤ a) : seg f a b = [] := by unfold seg; rw [Nat.sub_eq_zero_of_le h]; rfl
theorem seg_split (f : Nat → Pe) {a m b : Nat} (h1 : a ≤ m) (h2 : m ≤ b) : seg f a b = seg f a m ++ seg f m b := by
  apply List.ext_getElem?
  intro i
  by_cases h : i < b - a
  · rw [seg_get f a b i h]
    by_cases h3 : i < m - a
    · rw [List.getElem?_append_left (by rw [seg_length]; exact h3), seg_get f a m i h3]
    · rw [List.getElem?_append_right (by rw [seg_length]; omega), seg_length, seg_get f m b _ (by omega)]
      congr 2; omega
  · rw [List.getElem?_eq_none (by rw [seg_length]; omega), List.getElem?_eq_none (by rw [List.length_append, seg_length, seg_length]; omega)]
theorem seg_one (f : Nat → Pe) (a : Nat) : seg f a (a + 1) = [f a] := by unfold seg; rw [show a + 1 - a = 1 by omega]; rfl
theorem seg_congr {f g : Nat → Pe} {a b : Nat} (h : ∀ i, a ≤ i → i < b → f i = g i) : seg f a b = seg g a b := by
  unfold seg
  apply List.map_congr_left
  intro i hi
  rw [List.mem_range] at hi
  exact h _ (by omega) (by omega)
theorem seg_shift {f g : Nat → Pe} {a b c d : Nat} (hl : b - a = d - c) (h : ∀ i, i < b - a → f (a + i) = g (c + i)) : seg f a b = seg g c d := by
  unfold seg
  rw [← hl]
  apply List.map_congr_left
  intro i hi
  rw [List.mem_range] at hi
  exact h _ hi
theorem seg_mem {f : Nat → Pe} {a b : Nat} {x : Pe} (h : x ∈ seg f a b) : ∃ i, a ≤ i ∧ i < b ∧ f i = x := by
  simp only [seg, List.mem_map, List.mem_range] at h
  obtain ⟨i, hi, rfl⟩ := h
  exact ⟨a + i, by omega, by omega, rfl⟩
theorem mem_seg {f : Nat → Pe} {a b i : Nat} (h1 : a ≤ i) (h2 : i < b) : f i ∈ seg f a b := by
  simp only [seg, List.mem_map, List.mem_range]
  exact ⟨i - a, by omega, by congr 1; omega⟩
/-- a list as a function -/
def fun' (L : List Pe) (i : Nat) : Pe := L.getD i (0, 0)
theorem seg_fun (L : List Pe) : seg (fun' L) 0 L.length = L := by
  apply List.ext_getElem?
  intro i
  by_cases h : i < L.length
  · rw [seg_get _ _ _ _ (by omega), Nat.zero_add]
    unfold fun'
    rw [List.getD_eq_getElem?_getD, List.getElem?_eq_getElem h]; rfl
  · rw [List.getElem?_eq_none (by rw [seg_length]; omega), List.getElem?_eq_none (by omega)]

/-- two places change -/
def swp (f : Nat → Pe) (p q : Nat) : Nat → Pe := fun i => if i = q then f p else if i = p then f q else f i
/-- n places from a on change with those from b on -/
def swpR (f : Nat → Pe) (a b n : Nat) : Nat → Pe := fun i => if a ≤ i ∧ i < a + n then f (i - a + b) else if b ≤ i ∧ i < b + n then f (i - b + a) else f i
/-- the places from a to m go behind those from m to b -/
def rot (f : Nat → Pe) (a m b : Nat) : Nat → Pe := fun i => if a ≤ i ∧ i < a + (b - m) then f (i - a + m) else if a + (b - m) ≤ i ∧ i < b then f (i - (b - m)) else f i
theorem swpR_zero (f : Nat → Pe) (a b : Nat) : swpR f a b 0 = f := by
  funext i; unfold swpR; rw [if_neg (by omega), if_neg (by omega)]
theorem swpR_succ (f : Nat → Pe) {a b n : Nat} (h : a + n + 1 ≤ b) : swp (swpR f a b n) (a + n) (b + n) = swpR f a b (n + 1) := by
  funext i
  unfold swp swpR
  by_cases h1 : i = b + n
  · subst h1
    rw [if_pos rfl, if_neg (by omega), if_neg (by omega), if_neg (by omega), if_pos (by omega)]
    congr 1; omega
  · rw [if_neg h1]
    by_cases h2 : i = a + n
    · subst h2
      rw [if_pos rfl, if_neg (by omega), if_neg (by omega), if_pos (by omega)]
      congr 1; omega
    · rw [if_neg h2]
      by_cases h3 : a ≤ i ∧ i < a + n
      · rw [if_pos h3, if_pos (by omega)]
      · rw [if_neg h3]
        by_cases h4 : b ≤ i ∧ i < b + n
        · rw [if_pos h4, if_neg (by omega), if_pos (by omega)]
        · rw [if_neg h4, if_neg (by omega), if_neg (by omega)]
theorem rot_more (f : Nat → Pe) {m i j : Nat} (hi : i ≤ m) (h : j < i) : rot (swpR f (m - i) m j) (m - (i - j)) m (m + j) = rot f (m - i) m (m + j) := by
  funext x
  unfold rot swpR
  have e : m + j - m = j := by omega
  rw [e]
  by_cases h1 : m - i ≤ x ∧ x < m - i + j
  · rw [if_neg (by omega), if_neg (by omega), if_pos h1, if_pos h1]
  · by_cases h2 : m - i + j ≤ x ∧ x < m + j
    · rw [if_neg (show ¬ (m - i ≤ x ∧ x < m - i + j) by omega), if_neg (show ¬ (m - i ≤ x ∧ x < m - i + j) by omega), if_pos h2]
      by_cases h3 : x < m - i + j + j
      · rw [if_pos (show m - (i - j) ≤ x ∧ x < m - (i - j) + j by omega), if_neg (show ¬ (m - i ≤ x - (m - (i - j)) + m ∧ x - (m - (i - j)) + m < m - i + j) by omega), if_pos (show m ≤ x - (m - (i - j)) + m ∧ x - (m - (i - j)) + m < m + j by omega)]
        congr 1; omega
      · rw [if_neg (show ¬ (m - (i - j) ≤ x ∧ x < m - (i - j) + j) by omega), if_pos (show m - (i - j) + j ≤ x ∧ x < m + j by omega), if_neg (show ¬ (m - i ≤ x - j ∧ x - j < m - i + j) by omega), if_neg (show ¬ (m ≤ x - j ∧ x - j < m + j) by omega)]
    · rw [if_neg (by omega), if_neg (by omega), if_neg h1, if_neg (by omega), if_neg h1, if_neg h2]
theorem rot_less (f : Nat → Pe) {m i j : Nat} (hi : i ≤ m) (h : i < j) : rot (swpR f (m - i) (m + j - i) i) (m - i) m (m + (j - i)) = rot f (m - i) m (m + j) := by
  funext x
  unfold rot swpR
  have e : m + j - m = j := by omega
  have e2 : m + (j - i) - m = j - i := by omega
  rw [e, e2]
  by_cases h1 : m - i ≤ x ∧ x < m - i + j
  · rw [if_pos h1]
    by_cases h2 : x < m - i + (j - i)
    · rw [if_pos (by omega), if_neg (by omega), if_neg (by omega)]
    · rw [if_neg (by omega)]
      by_cases h3 : m - i + (j - i) ≤ x ∧ x < m + (j - i)
      · rw [if_pos h3, if_pos (by omega)]
        congr 1; omega
      · exact absurd h1 (by omega)
  · rw [if_neg h1]
    by_cases h2 : m - i + j ≤ x ∧ x < m + j
    · rw [if_pos h2, if_neg (by omega), if_neg (by omega), if_neg (by omega), if_pos (by omega)]
      congr 1; omega
    · rw [if_neg h2, if_neg (by omega), if_neg (by omega), if_neg (by omega), if_neg (by omega)]
theorem rot_same (f : Nat → Pe) {m i : Nat} (hi : i ≤ m) : swpR f (m - i) m i = rot f (m - i) m (m + i) := by
  funext x
  unfold rot swpR
  have e : m + i - m = i := by omega
  rw [e]
  by_cases h1 : m - i ≤ x ∧ x < m - i + i
  · rw [if_pos h1, if_pos h1]
  · rw [if_neg h1, if_neg h1]
    by_cases h2 : m ≤ x ∧ x < m + i
    · rw [if_pos h2, if_pos (by omega)]
      congr 1; omega
    · rw [if_neg h2, if_neg (by omega)]
theorem rot_out (f : Nat → Pe) {a m b x : Nat} (h1 : a ≤ m) (h2 : m ≤ b) (h : x < a ∨ b ≤ x) : rot f a m b x = f x := by
  unfold rot; rw [if_neg (by omega), if_neg (by omega)]
theorem rot_fst (f : Nat → Pe) {a m b : Nat} (h2 : m ≤ b) : seg (rot f a m b) a (a + (b - m)) = seg f m b :=
  seg_shift (by omega) fun i hi => by unfold rot; rw [if_pos (by omega)]; congr 1; omega
theorem rot_snd (f : Nat → Pe) {a m b : Nat} (h1 : a ≤ m) (h2 : m ≤ b) : seg (rot f a m b) (a + (b - m)) b = seg f a m :=
  seg_shift (by omega) fun i hi => by unfold rot; rw [if_neg (by omega), if_pos (by omega)]; congr 1; omega
theorem rot_none (f : Nat → Pe) {a m b : Nat} (h1 : a ≤ m) (h2 : m ≤ b) (h : a = m ∨ m = b) : rot f a m b = f := by
  funext x
  unfold rot
  rcases h with rfl | rfl
  · by_cases h3 : a ≤ x ∧ x < a + (b - a)
    · rw [if_pos h3]; congr 1; omega
    · rw [if_neg h3, if_neg (by omega)]
  · rw [if_neg (by omega)]
    by_cases h3 : a + (m - m) ≤ x ∧ x < m
    · rw [if_pos h3]; congr 1; omega
    · rw [if_neg h3]

/-! sorted, stably -/
def fl (k : Int) (L : List Pe) : List Pe := L.filter fun x => decide (x.1 = k)
theorem fl_append (k : Int) (A B : List Pe) : fl k (A ++ B) = fl k A ++ fl k B := List.filter_append ..
def Up (L : List Pe) : Prop := L.Pairwise fun x y => x.1 ≤ y.1
structure SO (l R : List Pe) : Prop where
  len : R.length = l.length
  up : Up R
  same : ∀ k, fl k R = fl k l
theorem SO.self {l : List Pe} (h : Up l) : SO l l := ⟨rfl, h, fun _ => rfl⟩
theorem SO.mem {l R : List Pe} (h : SO l R) {x : Pe} : x ∈ R ↔ x ∈ l := by
  have e := h.same x.1
  have a : x ∈ fl x.1 R ↔ x ∈ R := by simp [fl]
  have b : x ∈ fl x.1 l ↔ x ∈ l := by simp [fl]
  rw [← a, e, b]
theorem SO.trans {l R Q : List Pe} (h : SO l R) (k : SO R Q) : SO l Q := ⟨k.len.trans h.len, k.up, fun i => (k.same i).trans (h.same i)⟩
theorem fl_none {k : Int} {L : List Pe} (h : ∀ x ∈ L, x.1 ≠ k) : fl k L = [] := by
  unfold fl
  rw [List.filter_eq_nil_iff]
  intro x hx
  simpa using h x hx
/-- rows no address of which is in both may change places -/
theorem fl_swap (k : Int) {A B : List Pe} (h : ∀ x ∈ A, ∀ y ∈ B, y.1 < x.1) : fl k (A ++ B) = fl k (B ++ A) := by
  rw [fl_append, fl_append]
  by_cases ha : ∃ x ∈ A, x.1 = k
  · obtain ⟨x, hx, hk⟩ := ha
    rw [fl_none (L := B) (fun y hy e => by have := h x hx y hy; omega)]; simp
  · rw [fl_none (L := A) (fun x hx e => ha ⟨x, hx, e⟩)]; simp
theorem up_append {A B : List Pe} : Up (A ++ B) ↔ Up A ∧ Up B ∧ ∀ x ∈ A, ∀ y ∈ B, x.1 ≤ y.1 := List.pairwise_append
theorem SO.merge {A1 A2 B1 B2 R1 R2 : List Pe} (h1 : SO (A1 ++ B1) R1) (h2 : SO (A2 ++ B2) R2) (a : ∀ x ∈ A1, ∀ y ∈ A2, x.1 ≤ y.1) (b : ∀ x ∈ B1, ∀ y ∈ B2, x.1 ≤ y.1)
    (c : ∀ x ∈ A1, ∀ y ∈ B2, x.1 ≤ y.1) (d : ∀ x ∈ A2, ∀ y ∈ B1, y.1 < x.1) : SO ((A1 ++ A2) ++ (B1 ++ B2)) (R1 ++ R2) := by
  refine ⟨by have := h1.len; have := h2.len; simp only [List.length_append] at *; omega, up_append.2 ⟨h1.up, h2.up, fun x hx y hy => ?_⟩, fun k => ?_⟩
  · rw [h1.mem, List.mem_append] at hx
    rw [h2.mem, List.mem_append] at hy
    rcases hx with hx | hx <;> rcases hy with hy | hy
    · exact a x hx y hy
    · exact c x hx y hy
    · exact Int.le_of_lt (d y hy x hx)
    · exact b x hx y hy
  · rw [fl_append, h1.same, h2.same]
    have e := fl_swap k d
    simp only [fl_append] at e ⊢
    rw [List.append_assoc, List.append_assoc, ← List.append_assoc (fl k B1), ← e, List.append_assoc]
theorem up_seg {f : Nat → Pe} {a b : Nat} : Up (seg f a b) ↔ ∀ i j, a ≤ i → i < j → j < b → (f i).1 ≤ (f j).1 := by
  unfold Up
  rw [List.pairwise_iff_getElem]
  constructor
  · intro h i j h1 h2 h3
    have := h (i - a) (j - a) (by rw [seg_length]; omega) (by rw [seg_length]; omega) (by omega)
    simp only [seg, List.getElem_map, List.getElem_range] at this
    rwa [show a + (i - a) = i by omega, show a + (j - a) = j by omega] at this
  · intro h i j hi hj hij
    rw [seg_length] at hi hj
    simp only [seg, List.getElem_map, List.getElem_range]
    exact h _ _ (by omega) (by omega) (by omega)
/-- one is put in where it belongs -/
theorem SO.ins {l P : List Pe} (h : SO l P) {x : Pe} {k : Nat} (h1 : ∀ y ∈ P.drop k, x.1 < y.1) (h2 : ∀ y ∈ P.take k, y.1 ≤ x.1) : SO (l ++ [x]) (P.take k ++ x :: P.drop k) := by
  have hu := h.up
  rw [← List.take_append_drop k P, up_append] at hu
  refine ⟨by have := h.len; simp only [List.length_append, List.length_take, List.length_cons, List.length_drop, List.length_nil]; omega, ?_, fun i => ?_⟩
  · refine up_append.2 ⟨hu.1, ?_, fun y hy z hz => ?_⟩
    · exact List.pairwise_cons.2 ⟨fun y hy => Int.le_of_lt (h1 y hy), hu.2.1⟩
    · rcases List.mem_cons.1 hz with rfl | hz
      · exact h2 y hy
      · exact hu.2.2 y hy z hz
  · rw [show x :: P.drop k = [x] ++ P.drop k from rfl, fl_append, ← fl_swap i (A := P.drop k) (B := [x]) (fun y hy z hz => by
      obtain rfl : z = x := by simpa using hz
      exact h1 y hy), ← fl_append, ← List.append_assoc, List.take_append_drop, fl_append, fl_append, h.same]
end Go.Proofs.Ytkcljbolopephaa
