/- Texts of mine in one: maps in order. -/
import Derived.Test.YtkicndengkcojaaPkA
import Derived.Deep.MidRow
import Derived.Maps.AppendAt
import Derived.Laws.OwnMore
import Derived.Laws.CopyRow
import Derived.Deep.Cut
import Derived.Deep.RegionHeld3
import Derived.Deep.RegionWith
import Derived.Laws.StructEq
import Derived.Lib.Hide
import Derived.BigQuiet
import Derived.Lib.UnsafeStr
import Derived.Lib.AppendZerosOnto
import Derived.Lib.Overlaps
import Derived.Deep.Slices
import Derived.SizedLaws

/- A map as a row of items that rise by their keys, in plain lists. Nothing of the program is named here. -/
namespace Go.Proofs.Ytkicndengkcojaa
set_option maxRecDepth 100000
open Go.RowKit

/-- an item: a key, and its value -/
abbrev It : Type := Nat × ByteArray
/-- the cells of items, one behind the other -/
def flat : List It → List Value
  | [] => []
  | x :: L => .int .u64 (x.1 : Int) :: .string x.2 :: flat L
theorem flat_length (L : List It) : (flat L).length = L.length * 2 := by
  induction L with
  | nil => rfl
  | cons x L ih => simp [flat, ih]; omega
theorem flat_append (L K : List It) : flat (L ++ K) = flat L ++ flat K := by
  induction L with
  | nil => rfl
  | cons x L ih => simp [flat, ih]
theorem flat_take (L : List It) (i : Nat) : (flat L).take (i * 2) = flat (L.take i) := by
  induction L generalizing i with
  | nil => simp [flat]
  | cons x L ih =>
    cases i with
    | zero => simp [flat]
    | succ i => rw [show (i + 1) * 2 = i * 2 + 1 + 1 by omega]; simp [flat, ih]
theorem flat_drop (L : List It) (i : Nat) : (flat L).drop (i * 2) = flat (L.drop i) := by
  induction L generalizing i with
  | nil => simp [flat]
  | cons x L ih =>
    cases i with
    | zero => simp [flat]
    | succ i => rw [show (i + 1) * 2 = i * 2 + 1 + 1 by omega]; simp [flat, ih]
theorem flat_get {L : List It} {j : Nat} {x : It} (h : L[j]? = some x) : (flat L)[j * 2]? = some (.int .u64 (x.1 : Int)) ∧ (flat L)[j * 2 + 1]? = some (.string x.2) := by
  induction L generalizing j with
  | nil => simp at h
  | cons y L ih =>
    cases j with
    | zero => simp only [List.getElem?_cons_zero, Option.some.injEq] at h; subst h; exact ⟨rfl, rfl⟩
    | succ j => rw [show (j + 1) * 2 = j * 2 + 1 + 1 by omega]; simpa [flat] using ih (by simpa using h)
theorem flat_one (L : List It) : ∀ v ∈ flat L, v.oneCell' = true := by
  induction L with
  | nil => intro v hv; simp [flat] at hv
  | cons x L ih =>
    intro v hv
    simp only [flat, List.mem_cons] at hv
    rcases hv with rfl | rfl | hv
    · rfl
    · rfl
    · exact ih v hv
theorem flat_set {L : List It} {j : Nat} {x : It} (s : ByteArray) (h : L[j]? = some x) : (flat L).set (j * 2 + 1) (.string s) = flat (L.set j (x.1, s)) := by
  induction L generalizing j with
  | nil => simp at h
  | cons y L ih =>
    cases j with
    | zero => simp only [List.getElem?_cons_zero, Option.some.injEq] at h; subst h; rfl
    | succ j => rw [show (j + 1) * 2 + 1 = (j * 2 + 1) + 1 + 1 by omega]; simp [flat, ih (show L[j]? = some x by simpa using h)]
theorem flat_pair (x : It) : flat [x] = [.int .u64 (x.1 : Int), .string x.2] := rfl

/-- the keys rise -/
def Sorted (L : List It) : Prop := L.Pairwise fun a b => a.1 < b.1
def loL (L : List It) (k : Nat) : List It := L.filter fun x => decide (x.1 < k)
def hiL (L : List It) (k : Nat) : List It := L.filter fun x => decide (k < x.1)
/-- how many keys are less -/
def rankL (L : List It) (k : Nat) : Nat := (loL L k).length
def getL (L : List It) (k : Nat) : Option ByteArray := (L.find? fun x => decide (x.1 = k)).map (·.2)
def hasL (L : List It) (k : Nat) : Bool := (getL L k).isSome
def valL (L : List It) (k : Nat) : ByteArray := (getL L k).getD ⟨#[]⟩
def putL (L : List It) (k : Nat) (s : ByteArray) : List It := loL L k ++ (k, s) :: hiL L k
def dropL (L : List It) (k : Nat) : List It := L.filter fun x => decide (x.1 ≠ k)
def rangeL (L : List It) (lo hi : Nat) : List It := L.filter fun x => decide (lo ≤ x.1 ∧ x.1 ≤ hi)

theorem sorted_nil : Sorted [] := List.Pairwise.nil
theorem filter_all {L : List It} {p : It → Bool} (h : ∀ x ∈ L, p x = true) : L.filter p = L := List.filter_eq_self.2 h
theorem filter_none {L : List It} {p : It → Bool} (h : ∀ x ∈ L, p x = false) : L.filter p = [] := List.filter_eq_nil_iff.2 fun x hx => by simp [h x hx]
theorem cutL {L : List It} (h : Sorted L) (k : Nat) : (∃ s, getL L k = some s ∧ L = loL L k ++ (k, s) :: hiL L k) ∨ (getL L k = none ∧ L = loL L k ++ hiL L k) := by
  induction L with
  | nil => exact .inr ⟨rfl, rfl⟩
  | cons x L ih =>
    obtain ⟨h1, h2⟩ := List.pairwise_cons.1 h
    rcases Nat.lt_trichotomy x.1 k with hk | hk | hk
    · have e1 : loL (x :: L) k = x :: loL L k := by simp [loL, hk]
      have e2 : hiL (x :: L) k = hiL L k := by simp [hiL, show ¬ k < x.1 by omega]
      have e3 : getL (x :: L) k = getL L k := by simp [getL, show ¬ x.1 = k by omega]
      rw [e1, e2, e3]
      rcases ih h2 with ⟨s, a, b⟩ | ⟨a, b⟩
      · exact .inl ⟨s, a, by rw [List.cons_append, ← b]⟩
      · exact .inr ⟨a, by rw [List.cons_append, ← b]⟩
    · refine .inl ⟨x.2, by simp [getL, hk], ?_⟩
      have e1 : loL (x :: L) k = [] := filter_none fun y hy => by
        rcases List.mem_cons.1 hy with rfl | hy
        · simp; omega
        · have := h1 y hy; simp; omega
      have e2 : hiL (x :: L) k = L := by
        rw [hiL, List.filter_cons_of_neg (by simp; omega)]
        exact filter_all fun y hy => by have := h1 y hy; simp; omega
      rw [e1, e2, ← hk]
      rfl
    · refine .inr ⟨?_, ?_⟩
      · have : (x :: L).find? (fun y => decide (y.1 = k)) = none := List.find?_eq_none.2 fun y hy => by
          rcases List.mem_cons.1 hy with rfl | hy
          · simp; omega
          · have := h1 y hy; simp; omega
        simp [getL, this]
      · have e1 : loL (x :: L) k = [] := filter_none fun y hy => by
          rcases List.mem_cons.1 hy with rfl | hy
          · simp; omega
          · have := h1 y hy; simp; omega
        have e2 : hiL (x :: L) k = x :: L := filter_all fun y hy => by
          rcases List.mem_cons.1 hy with rfl | hy
          · simpa using hk
          · have := h1 y hy; simp; omega
        rw [e1, e2]
        rfl
theorem lo_lt {L : List It} {k : Nat} : ∀ x ∈ loL L k, x.1 < k := fun x hx => by simpa using (List.mem_filter.1 hx).2
theorem hi_gt {L : List It} {k : Nat} : ∀ x ∈ hiL L k, k < x.1 := fun x hx => by simpa using (List.mem_filter.1 hx).2
theorem sorted_filter {L : List It} (h : Sorted L) (p : It → Bool) : Sorted (L.filter p) := List.Pairwise.filter p h
theorem put_sorted {L : List It} (h : Sorted L) (k : Nat) (s : ByteArray) : Sorted (putL L k s) := by
  refine List.pairwise_append.2 ⟨sorted_filter h _, List.pairwise_cons.2 ⟨fun y hy => hi_gt y hy, sorted_filter h _⟩, fun a ha b hb => ?_⟩
  have := lo_lt a ha
  rcases List.mem_cons.1 hb with rfl | hb
  · exact this
  · have := hi_gt b hb; omega
theorem drop_sorted {L : List It} (h : Sorted L) (k : Nat) : Sorted (dropL L k) := sorted_filter h _
theorem lo_append (L K : List It) (k : Nat) : loL (L ++ K) k = loL L k ++ loL K k := List.filter_append ..
theorem hi_append (L K : List It) (k : Nat) : hiL (L ++ K) k = hiL L k ++ hiL K k := List.filter_append ..
theorem drop_append (L K : List It) (k : Nat) : dropL (L ++ K) k = dropL L k ++ dropL K k := List.filter_append ..
theorem dropL_eq {L : List It} (h : Sorted L) (k : Nat) : dropL L k = loL L k ++ hiL L k := by
  have e1 : dropL (loL L k) k = loL L k := filter_all fun x hx => by have := lo_lt x hx; simp; omega
  have e2 : dropL (hiL L k) k = hiL L k := filter_all fun x hx => by have := hi_gt x hx; simp; omega
  rcases cutL h k with ⟨s, _, b⟩ | ⟨_, b⟩
  · conv => lhs; rw [b]
    rw [drop_append, e1, dropL, List.filter_cons_of_neg (by simp), ← dropL, e2]
  · conv => lhs; rw [b]
    rw [drop_append, e1, e2]
theorem rank_le (L : List It) (k : Nat) : rankL L k ≤ L.length := List.length_filter_le ..
theorem take_rank {L : List It} (h : Sorted L) (k : Nat) : L.take (rankL L k) = loL L k := by
  rcases cutL h k with ⟨s, _, b⟩ | ⟨_, b⟩
  · conv => lhs; arg 2; rw [b]
    rw [rankL, List.take_left]
  · conv => lhs; arg 2; rw [b]
    rw [rankL, List.take_left]
theorem at_rank {L : List It} (h : Sorted L) {k : Nat} (hh : hasL L k = true) : L[rankL L k]? = some (k, valL L k) := by
  rcases cutL h k with ⟨s, a, b⟩ | ⟨a, _⟩
  · have e : valL L k = s := by simp [valL, a]
    rw [e]
    conv => lhs; arg 1; rw [b]
    rw [rankL, List.getElem?_append_right (Nat.le_refl _)]
    simp
  · simp [hasL, a] at hh
theorem rank_lt {L : List It} (h : Sorted L) {k : Nat} (hh : hasL L k = true) : rankL L k < L.length := (List.getElem?_eq_some_iff.1 (at_rank h hh)).1
theorem drop_rank {L : List It} (h : Sorted L) (k : Nat) (hh : hasL L k = false) : L.drop (rankL L k) = hiL L k := by
  rcases cutL h k with ⟨s, a, b⟩ | ⟨a, b⟩
  · simp [hasL, a] at hh
  · conv => lhs; arg 2; rw [b]
    rw [rankL, List.drop_left]
theorem drop_rank1 {L : List It} (h : Sorted L) (k : Nat) (hh : hasL L k = true) : L.drop (rankL L k + 1) = hiL L k := by
  rcases cutL h k with ⟨s, a, b⟩ | ⟨a, b⟩
  · have : L.drop (rankL L k) = (k, s) :: hiL L k := by
      conv => lhs; arg 2; rw [b]
      rw [rankL, List.drop_left]
    have h2 : L.drop (rankL L k + 1) = (L.drop (rankL L k)).drop 1 := by rw [List.drop_drop]
    rw [h2, this]
    rfl
  · simp [hasL, a] at hh
theorem put_new {L : List It} (h : Sorted L) (k : Nat) (s : ByteArray) (hh : hasL L k = false) : L.take (rankL L k) ++ (k, s) :: L.drop (rankL L k) = putL L k s := by
  rw [take_rank h, drop_rank h k hh]; rfl
theorem put_old {L : List It} (h : Sorted L) (k : Nat) (s : ByteArray) (hh : hasL L k = true) : L.set (rankL L k) (k, s) = putL L k s := by
  rw [List.set_eq_take_append_cons_drop, if_pos (rank_lt h hh), take_rank h, drop_rank1 h k hh]; rfl
theorem drop_old {L : List It} (h : Sorted L) (k : Nat) (hh : hasL L k = true) : L.take (rankL L k) ++ L.drop (rankL L k + 1) = dropL L k := by
  rw [take_rank h, drop_rank1 h k hh, dropL_eq h]
theorem drop_no {L : List It} (h : Sorted L) (k : Nat) (hh : hasL L k = false) : dropL L k = L := by
  rw [dropL_eq h]
  rcases cutL h k with ⟨s, a, b⟩ | ⟨a, b⟩
  · simp [hasL, a] at hh
  · exact b.symm
theorem val_no {L : List It} {k : Nat} (hh : hasL L k = false) : valL L k = ⟨#[]⟩ := by
  cases e : getL L k with
  | none => simp [valL, e]
  | some s => simp [hasL, e] at hh
/-- the rank is told by what is below, and what is not -/
theorem rank_of {L : List It} {k r : Nat} (hr : r ≤ L.length) (h1 : ∀ j x, j < r → L[j]? = some x → x.1 < k) (h2 : ∀ j x, r ≤ j → L[j]? = some x → k ≤ x.1) : rankL L k = r := by
  have e : L = L.take r ++ L.drop r := (List.take_append_drop r L).symm
  rw [rankL, e, lo_append]
  have e1 : loL (L.take r) k = L.take r := filter_all fun x hx => by
    obtain ⟨j, hj, rfl⟩ := List.getElem_of_mem hx
    rw [List.length_take] at hj
    have := h1 j _ (by omega) (List.getElem?_eq_getElem (show j < L.length by omega))
    simpa using this
  have e2 : loL (L.drop r) k = [] := filter_none fun x hx => by
    obtain ⟨j, hj, rfl⟩ := List.getElem_of_mem hx
    rw [List.length_drop] at hj
    have := h2 (r + j) _ (by omega) (List.getElem?_eq_getElem (show r + j < L.length by omega))
    simp; omega
  rw [e1, e2, List.append_nil, List.length_take]
  omega
theorem sorted_get {L : List It} (h : Sorted L) {i j : Nat} {x y : It} (hij : i < j) (hi : L[i]? = some x) (hj : L[j]? = some y) : x.1 < y.1 := by
  obtain ⟨hi', rfl⟩ := List.getElem?_eq_some_iff.1 hi
  obtain ⟨hj', rfl⟩ := List.getElem?_eq_some_iff.1 hj
  exact List.pairwise_iff_getElem.1 h i j hi' hj' hij
theorem has_iff {L : List It} (h : Sorted L) (k : Nat) : hasL L k = true ↔ ∃ x, L[rankL L k]? = some x ∧ x.1 = k := by
  constructor
  · intro hh; exact ⟨_, at_rank h hh, rfl⟩
  · rintro ⟨x, hx, hk⟩
    cases hc : hasL L k with
    | true => rfl
    | false =>
      have hd := drop_rank h k hc
      have : x ∈ hiL L k := by
        rw [← hd]
        refine List.mem_of_getElem? (i := 0) ?_
        rw [List.getElem?_drop]; simpa using hx
      have := hi_gt x this
      omega
theorem at_rank_ge {L : List It} (h : Sorted L) {k : Nat} {x : It} (hx : L[rankL L k]? = some x) : k ≤ x.1 := by
  cases hc : hasL L k with
  | true => rw [at_rank h hc] at hx; cases hx; exact Nat.le_refl _
  | false =>
    have hd := drop_rank h k hc
    have : x ∈ hiL L k := by
      rw [← hd]
      refine List.mem_of_getElem? (i := 0) ?_
      rw [List.getElem?_drop]; simpa using hx
    have := hi_gt x this
    omega

/-! what holds of a map that was put to, or dropped from -/
theorem get_append (L K : List It) (k : Nat) : getL (L ++ K) k = (getL L k).or (getL K k) := by
  unfold getL
  rw [List.find?_append]
  cases L.find? (fun x => decide (x.1 = k)) <;> simp
theorem get_none {L : List It} {k : Nat} (h : ∀ x ∈ L, x.1 ≠ k) : getL L k = none := by
  unfold getL
  rw [List.find?_eq_none.2 fun x hx => by simpa using h x hx]; rfl
theorem get_put (L : List It) (k : Nat) (s : ByteArray) : getL (putL L k s) k = some s := by
  rw [putL, get_append, get_none fun x hx => by have := lo_lt x hx; omega]
  simp [getL]
theorem get_put_other {L : List It} (h : Sorted L) (k j : Nat) (s : ByteArray) (hj : j ≠ k) : getL (putL L k s) j = getL L j := by
  have h1 : getL ((k, s) :: hiL L k) j = getL (hiL L k) j := by simp [getL, show ¬ k = j by omega]
  rw [putL, get_append, h1, ← get_append]
  rcases cutL h k with ⟨t, a, b⟩ | ⟨a, b⟩
  · conv => rhs; rw [b]
    have h2 : getL ((k, t) :: hiL L k) j = getL (hiL L k) j := by simp [getL, show ¬ k = j by omega]
    rw [get_append, get_append, h2]
  · conv => rhs; rw [b]
theorem get_drop {L : List It} (k : Nat) : getL (dropL L k) k = none := get_none fun x hx => by simpa using (List.mem_filter.1 hx).2
theorem lo_put (L : List It) (k : Nat) (s : ByteArray) : loL (putL L k s) k = loL L k := by
  rw [putL, lo_append]
  have e1 : loL (loL L k) k = loL L k := filter_all fun x hx => by simpa using lo_lt x hx
  have e2 : loL ((k, s) :: hiL L k) k = [] := filter_none fun x hx => by
    rcases List.mem_cons.1 hx with rfl | hx
    · simp
    · have := hi_gt x hx; simp; omega
  rw [e1, e2, List.append_nil]
theorem lo_drop (L : List It) (k : Nat) : loL (dropL L k) k = loL L k := by
  unfold loL dropL
  rw [List.filter_filter]
  congr 1
  funext x
  rw [Bool.eq_iff_iff]; simp; omega
theorem put_length {L : List It} (h : Sorted L) (k : Nat) (s : ByteArray) : (putL L k s).length = if hasL L k then L.length else L.length + 1 := by
  rcases cutL h k with ⟨t, a, b⟩ | ⟨a, b⟩
  · rw [if_pos (by simp [hasL, a])]
    conv => rhs; rw [b]
    simp [putL]
  · rw [if_neg (by simp [hasL, a])]
    conv => rhs; rw [b]
    simp [putL]; omega
theorem drop_length {L : List It} (h : Sorted L) (k : Nat) (hh : hasL L k = true) : (dropL L k).length + 1 = L.length := by
  rw [dropL_eq h]
  rcases cutL h k with ⟨t, a, b⟩ | ⟨a, b⟩
  · conv => rhs; rw [b]
    simp; omega
  · simp [hasL, a] at hh
theorem put_len_le {L : List It} (h : Sorted L) (k : Nat) (s : ByteArray) : (putL L k s).length ≤ L.length + 1 := by rw [put_length h]; split <;> omega
theorem drop_len_le (L : List It) (k : Nat) : (dropL L k).length ≤ L.length := List.length_filter_le ..
/-- how many keys are not above -/
def uptoL (L : List It) (k : Nat) : Nat := rankL L k + if hasL L k then 1 else 0
theorem range_cut {L : List It} (h : Sorted L) (lo hi : Nat) (hlh : lo ≤ hi) : (L.drop (rankL L lo)).take (uptoL L hi - rankL L lo) = rangeL L lo hi ∧ rankL L lo ≤ uptoL L hi ∧ uptoL L hi ≤ L.length := by
  have hT : L.take (uptoL L hi) = L.filter (fun x => decide (x.1 ≤ hi)) ∧ uptoL L hi ≤ L.length := by
    have e1 : (loL L hi).filter (fun x => decide (x.1 ≤ hi)) = loL L hi := filter_all fun x hx => by have := lo_lt x hx; simp; omega
    have e2 : (hiL L hi).filter (fun x => decide (x.1 ≤ hi)) = [] := filter_none fun x hx => by have := hi_gt x hx; simp; omega
    rcases cutL h hi with ⟨s, a, b⟩ | ⟨a, b⟩
    · have hu : uptoL L hi = (loL L hi ++ [(hi, s)]).length := by simp [uptoL, hasL, a, rankL]
      have hb2 : L = (loL L hi ++ [(hi, s)]) ++ hiL L hi := by rw [List.append_assoc]; exact b
      refine ⟨?_, by rw [hu]; conv => rhs; rw [hb2]
                     rw [List.length_append (bs := hiL L hi)]; omega⟩
      conv => lhs; arg 2; rw [hb2]
      rw [hu, List.take_left]
      conv => rhs; rw [hb2]
      rw [List.filter_append, List.filter_append, e1, e2]
      simp
    · have hu : uptoL L hi = (loL L hi).length := by simp [uptoL, hasL, a, rankL]
      refine ⟨?_, by rw [hu]; exact rank_le L hi⟩
      conv => lhs; arg 2; rw [b]
      rw [hu, List.take_left]
      conv => rhs; rw [b]
      rw [List.filter_append, e1, e2]
      simp
  obtain ⟨hT, hle⟩ := hT
  have hS := sorted_filter h (fun x => decide (x.1 ≤ hi))
  have hlo : loL (L.filter fun x => decide (x.1 ≤ hi)) lo = loL L lo := by
    unfold loL
    rw [List.filter_filter]
    congr 1
    funext x
    rw [Bool.eq_iff_iff]; simp; omega
  have hrk : rankL (L.filter fun x => decide (x.1 ≤ hi)) lo = rankL L lo := by rw [rankL, hlo, rankL]
  have hge : rankL L lo ≤ uptoL L hi := by
    have h1 := rank_le (L.filter fun x => decide (x.1 ≤ hi)) lo
    rw [hrk, ← hT, List.length_take] at h1
    omega
  refine ⟨?_, hge, hle⟩
  rw [← List.drop_take, hT, ← hrk]
  have hd : ∀ (K : List It), Sorted K → K.drop (rankL K lo) = K.filter fun x => decide (lo ≤ x.1) := by
    intro K hK
    have e1 : (loL K lo).filter (fun x => decide (lo ≤ x.1)) = [] := filter_none fun x hx => by have := lo_lt x hx; simp; omega
    have e2 : (hiL K lo).filter (fun x => decide (lo ≤ x.1)) = hiL K lo := filter_all fun x hx => by have := hi_gt x hx; simp; omega
    rcases cutL hK lo with ⟨s, a, b⟩ | ⟨a, b⟩
    · conv => lhs; arg 2; rw [b]
      rw [rankL, List.drop_left]
      conv => rhs; rw [b]
      rw [List.filter_append, e1, List.nil_append, List.filter_cons_of_pos (by simp), e2]
    · conv => lhs; arg 2; rw [b]
      rw [rankL, List.drop_left]
      conv => rhs; rw [b]
      rw [List.filter_append, e1, e2]; simp
  rw [hd _ hS, List.filter_filter]
  unfold rangeL
  congr 1
  funext x
  rw [Bool.eq_iff_iff]; simp
theorem range_sorted {L : List It} (h : Sorted L) (lo hi : Nat) : Sorted (rangeL L lo hi) := sorted_filter h _
theorem range_len (L : List It) (lo hi : Nat) : (rangeL L lo hi).length ≤ L.length := List.length_filter_le ..
theorem range_in {L : List It} {lo hi : Nat} {x : It} (h : x ∈ rangeL L lo hi) : lo ≤ x.1 ∧ x.1 ≤ hi := by simpa using (List.mem_filter.1 h).2
theorem range_all {L : List It} {hi : Nat} (h : ∀ x ∈ L, x.1 ≤ hi) : rangeL L 0 hi = L := filter_all fun x hx => by simpa using h x hx
theorem range_split {L : List It} (h : Sorted L) (lo mid hi : Nat) (h1 : lo ≤ mid) (h2 : mid < hi) : rangeL L lo mid ++ rangeL L (mid + 1) hi = rangeL L lo hi := by
  induction L with
  | nil => rfl
  | cons x L ih =>
    obtain ⟨hx, hL⟩ := List.pairwise_cons.1 h
    have ih := ih hL
    unfold rangeL at *
    by_cases c1 : lo ≤ x.1 ∧ x.1 ≤ mid
    · rw [List.filter_cons_of_pos (by simpa using c1), List.filter_cons_of_neg (by simp; omega), List.filter_cons_of_pos (by simp; omega), List.cons_append, ih]
    · by_cases c2 : mid + 1 ≤ x.1 ∧ x.1 ≤ hi
      · have e : L.filter (fun x => decide (lo ≤ x.1 ∧ x.1 ≤ mid)) = [] := filter_none fun y hy => by have := hx y hy; simp; omega
        rw [List.filter_cons_of_neg (by simpa using c1), List.filter_cons_of_pos (by simpa using c2), List.filter_cons_of_pos (by simp; omega), e]
        rw [e] at ih
        rw [← ih]
        rfl
      · rw [List.filter_cons_of_neg (by simpa using c1), List.filter_cons_of_neg (by simpa using c2), List.filter_cons_of_neg (by simp; omega), ih]
theorem range_count {L : List It} (lo hi : Nat) (h : lo ≤ hi) : (rangeL L lo hi).length + rankL L lo = rankL L (hi + 1) := by
  induction L with
  | nil => rfl
  | cons x L ih =>
    unfold rangeL rankL loL at *
    by_cases c1 : x.1 < lo
    · rw [List.filter_cons_of_neg (by simp; omega), List.filter_cons_of_pos (by simpa using c1), List.filter_cons_of_pos (by simp; omega), List.length_cons, List.length_cons]; omega
    · by_cases c2 : x.1 ≤ hi
      · rw [List.filter_cons_of_pos (by simp; omega), List.filter_cons_of_neg (by simpa using c1), List.filter_cons_of_pos (by simp; omega), List.length_cons, List.length_cons]; omega
      · rw [List.filter_cons_of_neg (by simp; omega), List.filter_cons_of_neg (by simpa using c1), List.filter_cons_of_neg (by simp; omega)]; omega
/-- one item is put, if its value is not too long -/
def addL (L : List It) (x : It) : List It := if x.2.size ≤ 64 then putL L x.1 x.2 else L
/-- items are put, one behind the other -/
def fillL (l : List It) : List It := l.foldl addL []
theorem add_sorted {L : List It} (h : Sorted L) (x : It) : Sorted (addL L x) := by unfold addL; split; exact put_sorted h _ _; exact h
theorem add_len {L : List It} (h : Sorted L) (x : It) : (addL L x).length ≤ L.length + 1 := by unfold addL; split; exact put_len_le h _ _; omega
theorem put_bound {L : List It} {B k : Nat} {s : ByteArray} (h : ∀ x ∈ L, x.1 < B) (hk : k < B) : ∀ x ∈ putL L k s, x.1 < B := by
  intro x hx
  rcases List.mem_append.1 hx with hx | hx
  · exact h x (List.mem_filter.1 hx).1
  · rcases List.mem_cons.1 hx with rfl | hx
    · exact hk
    · exact h x (List.mem_filter.1 hx).1
theorem drop_bound {L : List It} {B k : Nat} (h : ∀ x ∈ L, x.1 < B) : ∀ x ∈ dropL L k, x.1 < B := fun x hx => h x (List.mem_filter.1 hx).1
theorem add_bound {L : List It} {B : Nat} {y : It} (h : ∀ x ∈ L, x.1 < B) (hk : y.1 < B) : ∀ x ∈ addL L y, x.1 < B := by unfold addL; split; exact put_bound h hk; exact h
theorem fill_succ (l : List It) (k : Nat) (x : It) (h : l[k]? = some x) : fillL (l.take (k + 1)) = addL (fillL (l.take k)) x := by
  obtain ⟨hk, rfl⟩ := List.getElem?_eq_some_iff.1 h
  unfold fillL
  rw [List.take_succ_eq_append_getElem hk, List.foldl_append]
  rfl
theorem fill_ok (l : List It) (B : Nat) (hB : ∀ x ∈ l, x.1 < B) : ∀ k, k ≤ l.length → Sorted (fillL (l.take k)) ∧ (fillL (l.take k)).length ≤ k ∧ ∀ x ∈ fillL (l.take k), x.1 < B := by
  intro k
  induction k with
  | zero => intro _; exact ⟨sorted_nil, by simp [fillL], fun x hx => by simp [fillL] at hx⟩
  | succ k ih =>
    intro hk
    obtain ⟨a, b, c⟩ := ih (by omega)
    have hx : l[k]? = some l[k] := List.getElem?_eq_getElem (by omega)
    rw [fill_succ l k _ hx]
    exact ⟨add_sorted a _, by have := add_len a l[k]; omega, add_bound c (hB _ (List.getElem_mem _))⟩
end Go.Proofs.Ytkicndengkcojaa

/- A map in memory: a block that holds a slice, and the slice's row. -/
namespace Go.Proofs.Ytkicndengkcojaa
set_option maxRecDepth 100000
open Go Go.RowKit Go.Sort

/-- the cells of an item -/
def itC (k : Nat) (s : ByteArray) : Array Value := #[.int .u64 (k : Int), .string s]
theorem itC_one (k : Nat) (s : ByteArray) : (itC k s).all (·.oneCell') = true := by simp [itC, Value.oneCell']
theorem infoA : (Try.prog.info? 53).map (fun i => (i.zero, i.size, i.bytes)) = some (some (.agg #[.int .u64 0, .string ⟨#[]⟩]), 2, 24) := by kernel_rfl
theorem sizeA : (Try.prog.info? 53).map (·.size) = some 2 := by kernel_rfl

/-- all that was there is as it was, but for a map's own blocks -/
structure Chg (w w' : World) (g : Nat) (v : Value) : Prop where
  os : w'.os = w.os
  tape : w'.tape = w.tape
  output : w'.output = w.output
  size : w.heap.size ≤ w'.heap.size
  block : ∀ k, k < w.heap.size → k ≠ g → v.ownBlock ≠ some k → w'.heap[k]? = w.heap[k]?
theorem Chg.of {w w' : World} (h : Below w.heap.size w w') (g : Nat) (v : Value) : Chg w w' g v := ⟨h.os, h.tape, h.output, h.size, fun k hk _ _ => h.block k hk⟩
theorem Chg.refl (w : World) (g : Nat) (v : Value) : Chg w w g v := Chg.of (Below.refl _ _) g v
theorem Chg.trans {w w1 w2 : World} {g : Nat} {v : Value} (h : Chg w w1 g v) (k : Chg w1 w2 g v) : Chg w w2 g v :=
  ⟨k.os.trans h.os, k.tape.trans h.tape, k.output.trans h.output, Nat.le_trans h.size k.size, fun i hi h1 h2 => (k.block i (Nat.lt_of_lt_of_le hi h.size) h1 h2).trans (h.block i hi h1 h2)⟩
theorem Chg.later {w w1 w2 : World} {g : Nat} {v : Value} (h : Chg w w1 g v) (k : Below w1.heap.size w1 w2) : Chg w w2 g v := h.trans (Chg.of k g v)
theorem Chg.after {w w1 w2 : World} {g : Nat} {v : Value} (h : Below w.heap.size w w1) (k : Chg w1 w2 g v) : Chg w w2 g v := (Chg.of h g v).trans k
theorem Chg.setCell {w w' : World} {g : Nat} {v : Value} (k : Chg w w' g v) (i : Nat) (u : Value) : Chg w (w'.setCell ⟨g, i, none⟩ u) g v :=
  ⟨k.os, k.tape, k.output, by simpa [World.setCell] using k.size, fun j hj h1 h2 => (Below.heap_setCell _ _ _ _ (by simpa using h1)).trans (k.block j hj h1 h2)⟩
/-- a map that owns more changes no more than what was made behind -/
theorem Chg.grown {w w1 w2 : World} {g : Nat} {v v1 : Value} (h : Chg w w1 g v) (k : Chg w1 w2 g v1) (hv : v1.ownBlock = v.ownBlock ∨ ∃ f, v1.ownBlock = some f ∧ w.heap.size ≤ f) : Chg w w2 g v :=
  ⟨k.os.trans h.os, k.tape.trans h.tape, k.output.trans h.output, Nat.le_trans h.size k.size, fun i hi h1 h2 => (k.block i (Nat.lt_of_lt_of_le hi h.size) h1 (by
    rcases hv with hv | ⟨f, hv, hf⟩
    · rw [hv]; exact h2
    · rw [hv]; intro e; injection e; omega)).trans (h.block i hi h1 h2)⟩
theorem Chg.below {B : Nat} {w0 w w' : World} {g : Nat} {v : Value} (h : Below B w0 w) (k : Chg w w' g v) (hB : B ≤ w.heap.size) (hg : B ≤ g) (hb : ∀ f, v.ownBlock = some f → B ≤ f) : Below B w0 w' :=
  h.trans ⟨k.os, k.tape, k.output, k.size, fun i hi => k.block i (Nat.lt_of_lt_of_le hi hB) (by omega) (fun e => by have := hb i e; omega)⟩
theorem Blk.chg {w w' : World} {g j : Nat} {v : Value} {cs : Array Value} {t : TypeId} (h : Blk w j cs t) (k : Chg w w' g v) (h1 : j ≠ g) (h2 : v.ownBlock ≠ some j) : Blk w' j cs t := (k.block j h.lt h1 h2).trans h
theorem Chg.grownBy {w w' : World} {g : Nat} {v : Value} (h : w.grownBy w' v.ownBlock) : Chg w w' g v := ⟨h.os, h.tape, h.output, h.size, fun k hk _ h2 => h.block k hk fun e => h2 e.symm⟩
theorem own_keep {w w' : World} {B e size n : Nat} {v : Value} {xs : List Value} (h : w.ownsRow B e size v n xs) (hk : ∀ k, v.ownBlock = some k → w'.heap[k]? = w.heap[k]?) : w'.ownsRow B e size v n xs := by
  refine ⟨h.1, h.2.imp id ?_⟩
  rintro ⟨g, cap, cur, rfl, h1, h2, h3⟩
  exact ⟨g, cap, cur, rfl, h1, (hk g rfl).trans h2, h3⟩
theorem own_bel {w w' : World} {B e size n : Nat} {v : Value} {xs : List Value} (h : w.ownsRow B e size v n xs) (hb : Below w.heap.size w w') : w'.ownsRow B e size v n xs :=
  own_keep h fun k hk => hb.block k (h.lt k hk).2
theorem range_lt {w : World} {g o : Nat} {cs : List Value} (h : w.rangeAt g o cs) (hn : cs ≠ []) : g < w.heap.size := by
  cases cs with
  | nil => exact absurd rfl hn
  | cons v r => exact World.block_lt_of_cell? w _ (h 0 v rfl)
theorem range_bel {w w' : World} {g o B : Nat} {cs : List Value} (h : w.rangeAt g o cs) (hb : Below B w w') (hg : g < B) : w'.rangeAt g o cs := fun j v hv => by
  have hc := h j v hv
  exact (World.cell?_of_block (a := ⟨g, o + j, none⟩) (hb.block g hg)).trans hc
theorem own_shape {w : World} {B e size n : Nat} {v : Value} {xs : List Value} (h : w.ownsRow B e size v n xs) : (v = .slice none 0 0 ∧ n = 0) ∨ ∃ b c, v = .slice (some ⟨b, 0, none⟩) n c ∧ n ≤ c ∧ c ≤ maxLen ∧ w.rangeAt b 0 xs ∧ b < w.heap.size := by
  rcases h.2 with ⟨h1, h0⟩ | ⟨g, cap, cur, hv, hb, hg, hc, hm, _, ht⟩
  · exact .inl ⟨h1, h0⟩
  · refine .inr ⟨g, cap, hv, hc, hm, fun j v hj => ?_, (Array.getElem?_eq_some_iff.1 hg).1⟩
    rw [Nat.zero_add, cell_of_row w g j cur e _ hg]
    rw [← ht, List.getElem?_take] at hj
    split at hj
    · simpa using hj
    · cases hj

/-- a map in block g, whose slice is v -/
structure Mp (w : World) (T e : TypeId) (g : Nat) (v : Value) (L : List It) : Prop where
  blk : Blk w g #[v] T
  own : w.ownsRow 0 e 2 v L.length (flat L)
  ne : v.ownBlock ≠ some g
  sorted : Sorted L
  len : L.length ≤ 1000000
  key : ∀ x ∈ L, x.1 < 18446744073709551616
theorem Mp.lt {w : World} {T e g : Nat} {v : Value} {L : List It} (h : Mp w T e g v L) : g < w.heap.size := h.blk.lt
theorem Mp.own_lt {w : World} {T e g : Nat} {v : Value} {L : List It} (h : Mp w T e g v L) : ∀ f, v.ownBlock = some f → f < w.heap.size := fun f hf => (h.own.lt f hf).2
theorem Mp.bel {w w' : World} {T e g : Nat} {v : Value} {L : List It} (h : Mp w T e g v L) (hb : Below w.heap.size w w') : Mp w' T e g v L :=
  ⟨h.blk.below hb h.lt, own_bel h.own hb, h.ne, h.sorted, h.len, h.key⟩
/-- another map's change leaves it -/
theorem Mp.chg {w w' : World} {T e g : Nat} {v : Value} {L : List It} (h : Mp w T e g v L) {j : Nat} {u : Value} (k : Chg w w' j u) (h1 : g ≠ j) (h2 : u.ownBlock ≠ some g) (h3 : v.ownBlock ≠ some j) (h4 : ∀ f, v.ownBlock = some f → u.ownBlock ≠ some f) : Mp w' T e g v L :=
  ⟨h.blk.chg k h1 h2, own_keep h.own fun f hf => k.block f (h.own_lt f hf) (fun e => h3 (e ▸ hf)) (h4 f hf), h.ne, h.sorted, h.len, h.key⟩
theorem Mp.cell {w : World} {T e g : Nat} {v : Value} {L : List It} (h : Mp w T e g v L) : w.cell? ⟨g, 0, none⟩ = some v := h.blk.cell 0
theorem Mp.shape {w : World} {T e g : Nat} {v : Value} {L : List It} (h : Mp w T e g v L) : (v = .slice none 0 0 ∧ L = []) ∨ ∃ b c, v = .slice (some ⟨b, 0, none⟩) L.length c ∧ L.length ≤ c ∧ c ≤ maxLen ∧ w.rangeAt b 0 (flat L) ∧ b < w.heap.size ∧ b ≠ g := by
  rcases own_shape h.own with ⟨h1, h2⟩ | ⟨b, c, h1, h2, h3, h4, h5⟩
  · exact .inl ⟨h1, List.eq_nil_of_length_eq_zero h2⟩
  · refine .inr ⟨b, c, h1, h2, h3, h4, h5, fun e => h.ne ?_⟩
    rw [h1, e]; rfl
theorem row_at {w : World} {b : Nat} {L : List It} (h : w.rangeAt b 0 (flat L)) {j : Nat} {x : It} (hj : L[j]? = some x) : w.cell? ⟨b, j * 2, none⟩ = some (.int .u64 (x.1 : Int)) ∧ w.cell? ⟨b, j * 2 + 1, none⟩ = some (.string x.2) := by
  obtain ⟨h1, h2⟩ := flat_get hj
  have a := h _ _ h1
  have b := h _ _ h2
  rw [Nat.zero_add] at a b
  exact ⟨a, b⟩
theorem row_item {w : World} {b o : Nat} {L : List It} (h : w.rangeAt b o (flat L)) {j : Nat} {x : It} (hj : L[j]? = some x) : w.rangeAt b (o + j * 2) (itC x.1 x.2).toList := fun i v hv => by
  obtain ⟨h1, h2⟩ := flat_get hj
  match i, hv with
  | 0, hv =>
    simp only [itC, List.getElem?_cons_zero, Option.some.injEq] at hv
    subst hv
    rw [Nat.add_assoc]
    exact h _ _ h1
  | 1, hv =>
    simp only [itC, List.getElem?_cons_succ, List.getElem?_cons_zero, Option.some.injEq] at hv
    subst hv
    rw [Nat.add_assoc]
    exact h _ _ h2
  | i + 2, hv => simp [itC] at hv
theorem p_midA {ops : Array Oper} {rest : List Oper} {o : Oper} {a : Act} {w : World} {Q : Exit → Act → World → Prop} (hgd : o.guard = none) (x : Operand) (ho : o.op = .load 53 x)
    (g i : Nat) (hx : a.eval x = .pointer (some ⟨g, i, none⟩)) (k : Nat) (s : ByteArray) (hg : w.rangeAt g i (itC k s).toList)
    (h : wpList Try.prog ops Q rest (a.put o.dst (.agg (itC k s))) w) : wpList Try.prog ops Q (o :: rest) a w :=
  wpList_load_mid hgd 53 x ho g i hx (itC k s).toList _ hg Try.underlying53 rfl sizeA (by rw [Array.toArray_toList]; exact h)
/-- an item is stored into a block of its own -/
theorem p_storeA {ops : Array Oper} {rest : List Oper} {o : Oper} {a : Act} {w : World} {Q : Exit → Act → World → Prop} (hgd : o.guard = none) (x y : Operand) (ho : o.op = .store 53 x y)
    (g : Nat) (hx : a.eval x = .pointer (some ⟨g, 0, none⟩)) (k : Nat) (s : ByteArray) (hy : a.eval y = .agg (itC k s)) (Z : Array Value) (hZ : Z.size = 2) (hg : Blk w g Z 53)
    (h : wpList Try.prog ops Q rest (a.put o.dst undef) (w.setRow g (itC k s))) : wpList Try.prog ops Q (o :: rest) a w :=
  wpList_store_row hgd 53 x y ho g (itC k s) hx hy 53 Z hg sizeA (by rw [hZ]; rfl) (itC_one k s) h
theorem it_zero : (#[Value.int IntKind.u64 0, Value.string ⟨#[]⟩] : Array Value) = itC 0 ⟨#[]⟩ := rfl
end Go.Proofs.Ytkicndengkcojaa

/- A text is copied. -/
namespace Go.Proofs.Ytkicndengkcojaa
set_option maxRecDepth 100000
open Go Go.RowKit Go.Sort

theorem info8C : (Try.prog.info? 5).map (fun i => (i.zero, i.size, i.bytes)) = some (some (.int .u8 0), 1, 1) := by kernel_rfl
theorem size8 : (Try.prog.info? 5).map (·.size) = some 1 := by kernel_rfl
theorem cells8 : Try.prog.cellsOf 5 = 1 := by kernel_rfl
end Go.Proofs.Ytkicndengkcojaa

/- Rows of items: copied into, grown, cut. -/
namespace Go.Proofs.Ytkicndengkcojaa
set_option maxRecDepth 100000
open Go Go.RowKit Go.Sort

/-- elements of any size are copied from slice to slice -/
theorem run_copy_any {P : Program} (w : World) (dT sT ty elem : TypeId) (sz : Nat) (g o dLen dCap : Nat) (a : Addr) (sLen sCap m : Nat) (cur : Array Value) (t : TypeId) (cs : List Value)
    (hu : P.underlying dT = some (.slice elem)) (hs : (P.info? elem).map (·.size) = some sz) (hg : Blk w g cur t) (hm : m = Nat.min sLen dLen) (hn : cs.length = m * sz)
    (hsrc : ∀ j v, cs[j]? = some v → w.cell? (a.add j) = some v) (hfit : o + cs.length ≤ cur.size) (h1 : ∀ v ∈ cs, v.oneCell' = true) :
    (Builtin.copy_ #[dT, sT] ty #[.slice (some ⟨g, o, none⟩) dLen dCap, .slice (some a) sLen sCap]).run P w = .ok (goInt m) (w.setRow g (cur.toList.take o ++ cs ++ cur.toList.drop (o + cs.length)).toArray) := by
  have hst := run_storeCells_at P g o t cs 0 cur w hg (by simpa using hfit) h1
  have hl := run_loadCells_list (P := P) w a cs hsrc
  cases hq : P.info? elem with
  | none => simp [hq] at hs
  | some i =>
    have hi : i.size = sz := by simpa [hq] using hs
    simp [Builtin.copy_, run_underlying hu, Builtin.lenOf, Builtin.firstCells, sizeOf, typeInfo, hq, hi, ← hm, ← hn, hl, hst]
theorem wpList_copy_any {P : Program} {w : World} {ops : Array Oper} {rest : List Oper} {o : Oper} {a : Act} {Q : Exit → Act → World → Prop} (hgd : o.guard = none) (d s : Operand) (dT sT : TypeId)
    (ho : o.op = .call { callee := .builtin .copy, args := #[d, s], argTypes := #[dT, sT] }) (elem : TypeId) (sz : Nat) (hu : P.underlying dT = some (.slice elem)) (hsz : (P.info? elem).map (·.size) = some sz)
    (b off n cap sb so k sCap m : Nat) (hd : a.eval d = .slice (some ⟨b, off, none⟩) n cap) (hs : a.eval s = .slice (some ⟨sb, so, none⟩) k sCap) (hm : m = Nat.min k n) (cur : Array Value) (t : TypeId) (hg : Blk w b cur t)
    (cs : List Value) (hn : cs.length = m * sz) (hsrc : w.rangeAt sb so cs) (hfit : off + cs.length ≤ cur.size) (h1 : ∀ v ∈ cs, v.oneCell' = true) (new : Array Value) (hw : (cur.toList.take off ++ cs ++ cur.toList.drop (off + cs.length)).toArray = new)
    (h : wpList P ops Q rest (a.put o.dst (goInt m)) (w.setRow b new)) : wpList P ops Q (o :: rest) a w := by
  refine wpList_plain hgd fun K hK => ?_
  have hrun := run_copy_any (P := P) w dT sT o.type elem sz b off n cap ⟨sb, so, none⟩ k sCap m cur t cs hu hsz hg hm hn (fun j v hj => by rw [Addr.add_mid]; exact hsrc j v hj) hfit h1
  rw [hw] at hrun
  unfold Oper.wp
  simp [execOp, ho, resolve, invoke, builtin, hd, hs, hrun, Result.andThen]
  exact hK _ _ h

/-- what is appended may have a slice type of another name -/
theorem run_append_named {P : Program} (w : World) (t tx ty e e' : TypeId) (i : TypeInfo) (ht : P.underlying t = some (.slice e)) (hx : P.underlying tx = some (.slice e')) (hi : P.info? e = some i) (base : Option Addr) (n c : Nat) (u : Value) :
    (Builtin.append_ #[t, tx] ty #[.slice base n c, u]).run P w = (Builtin.append_ #[t, t] ty #[.slice base n c, u]).run P w := by
  simp [Builtin.append_, run_underlying ht, run_underlying hx, sizeOf, typeInfo, hi]
/-- row[r:], in a region that draws its order -/
theorem wpStill_from {P : Program} {ops : Array Oper} {w : World} {rest : List Oper} {o : Oper} {a : Act} {Q : Act → Prop} (hgd : o.guard = none) (T : TypeId) (s lo : Operand)
    (ho : o.op = .slice T s (some lo) none none) (e : TypeId) (size : Nat) (hT : P.underlying T = some (.slice e)) (hi : (P.info? e).map (·.size) = some size)
    (b off n c r : Nat) (z : Int) (hs : a.eval s = .slice (some ⟨b, off, none⟩) n c) (hlo : a.eval lo = .int .i64 z) (hz : z = (r : Int)) (hr : r ≤ n)
    (h : wpStill P ops w Q rest (a.put o.dst (.slice (if c = r then some ⟨b, off, none⟩ else some ⟨b, off + r * size, none⟩) (n - r) (c - r)))) : wpStill P ops w Q (o :: rest) a := by
  subst hz
  have hel : P.elem T = e := by simp [Program.elem, hT]
  have hT' : P.underlying T = some (.slice (P.elem T)) := by rw [hel]; exact hT
  obtain ⟨i, hi', hq⟩ := Option.map_eq_some_iff.1 hi
  have hr' : (Instr.sliceAt T (.slice (some ⟨b, off, none⟩) n c) (some (.int .i64 (r : Int))) none none).run P w = .ok (sliced (some ⟨b, off, none⟩) r n c size) w := by
    rw [run_sliceAt_slice w T _ _ _ _ hT', run_slice_l w T _ n c hT' .i64 (r : Int) (by omega) (by omega), hel]
    simp [sizeOf, typeInfo, hi', Result.andThen, hq]
  have hw : Region.wanted o (yielded ops a.tmps) = true := by simp [Region.wanted, hgd]
  have hv : sliced (some ⟨b, off, none⟩) r n c size = .slice (if c = r then some ⟨b, off, none⟩ else some ⟨b, off + r * size, none⟩) (n - r) (c - r) := by
    unfold sliced; split <;> simp [Addr.add_mid]
  refine wpStill_step fun K hK => ?_
  rw [if_pos hw]
  unfold Oper.still execOp
  simp only [ho, Option.map, hs, hlo, Sem.run_bind, Result.andThen_ok, hr', hv]
  exact ⟨rfl, hK _ h⟩
/-- row[:r], in a region that draws its order -/
theorem wpStill_to {P : Program} {ops : Array Oper} {w : World} {rest : List Oper} {o : Oper} {a : Act} {Q : Act → Prop} (hgd : o.guard = none) (T : TypeId) (s hi_ : Operand)
    (ho : o.op = .slice T s none (some hi_) none) (e : TypeId) (size : Nat) (hT : P.underlying T = some (.slice e)) (hi : (P.info? e).map (·.size) = some size)
    (b off n c r : Nat) (z : Int) (hs : a.eval s = .slice (some ⟨b, off, none⟩) n c) (hlo : a.eval hi_ = .int .i64 z) (hz : z = (r : Int)) (hr : r ≤ c)
    (h : wpStill P ops w Q rest (a.put o.dst (.slice (some ⟨b, off, none⟩) r c))) : wpStill P ops w Q (o :: rest) a := by
  subst hz
  have hel : P.elem T = e := by simp [Program.elem, hT]
  have hT' : P.underlying T = some (.slice (P.elem T)) := by rw [hel]; exact hT
  obtain ⟨i, hi', hq⟩ := Option.map_eq_some_iff.1 hi
  have hr' : (Instr.sliceAt T (.slice (some ⟨b, off, none⟩) n c) none (some (.int .i64 (r : Int))) none).run P w = .ok (sliced (some ⟨b, off, none⟩) 0 r c size) w := by
    rw [run_sliceAt_slice w T _ _ _ _ hT', run_slice_h w T _ n c hT' .i64 (r : Int) (by omega) (by omega), hel]
    simp [sizeOf, typeInfo, hi', Result.andThen, hq]
  have hw : Region.wanted o (yielded ops a.tmps) = true := by simp [Region.wanted, hgd]
  have hv : sliced (some ⟨b, off, none⟩) 0 r c size = .slice (some ⟨b, off, none⟩) r c := by
    unfold sliced; split <;> simp [Addr.add_mid]
  refine wpStill_step fun K hK => ?_
  rw [if_pos hw]
  unfold Oper.still execOp
  simp only [ho, Option.map, hs, hlo, Sem.run_bind, Result.andThen_ok, hr', hv]
  exact ⟨rfl, hK _ h⟩

/-! the lists -/
theorem ins_room {cur : List Value} {L : List It} {i c : Nat} {x : It} (hi : i ≤ L.length) (hc : cur.length = c * 2) (hr : L.length + 1 ≤ c) (ht : cur.take (L.length * 2) = flat L) (C1 C2 : List Value)
    (h1 : C1 = cur.take ((i + 1) * 2) ++ flat (L.drop i) ++ cur.drop ((i + 1) * 2 + (flat (L.drop i)).length)) (h2 : C2 = C1.take (i * 2) ++ flat [x] ++ C1.drop (i * 2 + 2)) :
    C1.length = c * 2 ∧ C2.length = c * 2 ∧ C2.take ((L.length + 1) * 2) = flat (L.take i ++ x :: L.drop i) := by
  have hF : (flat (L.drop i)).length = (L.length - i) * 2 := by rw [flat_length, List.length_drop]
  have hA : (cur.take ((i + 1) * 2)).length = (i + 1) * 2 := by rw [List.length_take, hc]; omega
  have hl1 : C1.length = c * 2 := by
    rw [h1]; simp only [List.length_append, List.length_drop, hA, hF, hc]; omega
  have t1 : C1.take (i * 2) = flat (L.take i) := by
    rw [h1, List.append_assoc, List.take_append_of_le_length (by omega), List.take_take, Nat.min_eq_left (by omega), ← flat_take, ← ht, List.take_take, Nat.min_eq_left (by omega)]
  have d1 : C1.drop (i * 2 + 2) = flat (L.drop i) ++ cur.drop ((i + 1) * 2 + (flat (L.drop i)).length) := by
    rw [h1, List.append_assoc, List.drop_append, List.drop_eq_nil_of_le (by omega), List.nil_append, hA, show i * 2 + 2 - (i + 1) * 2 = 0 by omega, List.drop_zero]
  have hl2 : C2.length = c * 2 := by
    rw [h2]; simp only [List.length_append, List.length_take, List.length_drop, hl1, flat, List.length_cons, List.length_nil]; omega
  refine ⟨hl1, hl2, ?_⟩
  rw [h2, t1, d1, flat_append, show x :: L.drop i = [x] ++ L.drop i from rfl, flat_append, ← List.append_assoc, ← List.append_assoc]
  have hl : (flat (L.take i) ++ flat [x] ++ flat (L.drop i)).length = (L.length + 1) * 2 := by
    simp only [List.length_append, flat_length, List.length_take, List.length_drop, List.length_cons, List.length_nil]; omega
  rw [List.take_append_of_le_length (by omega), ← hl, List.take_length]
theorem ins_grow {Z : List Value} {L : List It} {i c : Nat} {x : It} (hi : i ≤ L.length) (hc : Z.length = c * 2) (hr : L.length + 1 ≤ c) (ht : Z.take (i * 2) = flat (L.take i)) (C1 C2 : List Value)
    (h1 : C1 = Z.take (i * 2) ++ flat [x] ++ Z.drop (i * 2 + 2)) (h2 : C2 = C1.take ((i + 1) * 2) ++ flat (L.drop i) ++ C1.drop ((i + 1) * 2 + (flat (L.drop i)).length)) :
    C1.length = c * 2 ∧ C2.length = c * 2 ∧ C2.take ((L.length + 1) * 2) = flat (L.take i ++ x :: L.drop i) := by
  have hF : (flat (L.drop i)).length = (L.length - i) * 2 := by rw [flat_length, List.length_drop]
  have hT : (flat (L.take i)).length = i * 2 := by rw [flat_length, List.length_take]; omega
  have hX : (flat [x]).length = 2 := rfl
  have hl1 : C1.length = c * 2 := by
    rw [h1]; simp only [List.length_append, List.length_take, List.length_drop, hX, hc]; omega
  have t1 : C1.take ((i + 1) * 2) = flat (L.take i) ++ flat [x] := by
    rw [h1, ht, List.take_append_of_le_length (by rw [List.length_append]; omega), List.take_of_length_le (by rw [List.length_append]; omega)]
  have hl2 : C2.length = c * 2 := by
    rw [h2]; simp only [List.length_append, List.length_take, List.length_drop, hl1, hF]; omega
  refine ⟨hl1, hl2, ?_⟩
  have hl : (flat (L.take i) ++ flat [x] ++ flat (L.drop i)).length = (L.length + 1) * 2 := by
    simp only [List.length_append, hT, hX, hF]; omega
  rw [h2, t1, flat_append, show x :: L.drop i = [x] ++ L.drop i from rfl, flat_append, ← List.append_assoc, List.take_append_of_le_length (by omega), ← hl, List.take_length]
theorem del_row {cur : List Value} {L : List It} {i c : Nat} (hi : i < L.length) (hc : cur.length = c * 2) (hr : L.length ≤ c) (ht : cur.take (L.length * 2) = flat L) (C1 C2 : List Value)
    (h1 : C1 = cur.take (i * 2) ++ flat (L.drop (i + 1)) ++ cur.drop (i * 2 + (flat (L.drop (i + 1))).length)) (z : List Value) (hz : z.length = 2) (h2 : C2 = C1.take ((L.length - 1) * 2) ++ z ++ C1.drop (L.length * 2)) :
    C1.length = c * 2 ∧ C2.length = c * 2 ∧ C2.take ((L.length - 1) * 2) = flat (L.take i ++ L.drop (i + 1)) := by
  have hF : (flat (L.drop (i + 1))).length = (L.length - (i + 1)) * 2 := by rw [flat_length, List.length_drop]
  have hT : (flat (L.take i)).length = i * 2 := by rw [flat_length, List.length_take]; omega
  have t0 : cur.take (i * 2) = flat (L.take i) := by rw [← flat_take, ← ht, List.take_take, Nat.min_eq_left (by omega)]
  have hl1 : C1.length = c * 2 := by
    rw [h1]; simp only [List.length_append, List.length_take, List.length_drop, hF, hc]; omega
  have hl2 : C2.length = c * 2 := by
    rw [h2]; simp only [List.length_append, List.length_take, List.length_drop, hl1, hz]; omega
  refine ⟨hl1, hl2, ?_⟩
  have hl : (flat (L.take i) ++ flat (L.drop (i + 1))).length = (L.length - 1) * 2 := by
    simp only [List.length_append, hT, hF]; omega
  rw [h2, List.append_assoc, List.take_append_of_le_length (by rw [List.length_take]; omega), List.take_take, Nat.min_eq_left (by omega), h1, t0, flat_append, List.take_append_of_le_length (by omega), ← hl, List.take_length]
end Go.Proofs.Ytkicndengkcojaa

/- An item is taken out of a row. -/
namespace Go.Proofs.Ytkicndengkcojaa
set_option maxRecDepth 100000
open Go Go.RowKit Go.Sort

/-- append(row[:i], row[j:]...) in place -/
theorem run_append_in {P : Program} (w : World) (t ty e : TypeId) (i0 : TypeInfo) (ht : P.underlying t = some (.slice e)) (hi : P.info? e = some i0) (b c i : Nat) (cur : Array Value) (hb : Blk w b cur e) (o m c2 : Nat) (news : List Value) (hl : news.length = m * i0.size)
    (hs : w.rangeAt b o news) (h1 : ∀ u ∈ news, u.oneCell' = true) (hroom : i + m ≤ c) (hfit : i * i0.size + news.length ≤ cur.size) :
    (Builtin.append_ #[t, t] ty #[.slice (some ⟨b, 0, none⟩) i c, .slice (some ⟨b, o, none⟩) m c2]).run P w = .ok (.slice (some ⟨b, 0, none⟩) (i + m) c) (w.setRow b (cur.toList.take (i * i0.size) ++ news ++ cur.toList.drop (i * i0.size + news.length)).toArray) :=
  run_append_room (P := P) w t ty e i0 ht hi b i c cur hb ⟨b, o, none⟩ m c2 news hl (fun j u hj => by rw [Addr.add_mid]; exact hs j u hj) h1 hroom hfit
/-- one element is cleared -/
theorem run_clear_one {P : Program} (w : World) (t e ty : TypeId) (x y : Value) (ht : P.underlying t = some (.slice e)) (hv : ∀ w, (zeroValue e).run P w = .ok (.agg #[x, y]) w) (b o c : Nat) (cur : Array Value) (T : TypeId) (hb : Blk w b cur T) (hfit : o + 2 ≤ cur.size) (hx : x.oneCell' = true) (hy : y.oneCell' = true) :
    (Builtin.clear_ #[t] ty #[.slice (some ⟨b, o, none⟩) 1 c]).run P w = .ok (.tuple #[]) (w.setRow b (cur.toList.take o ++ [x, y] ++ cur.toList.drop (o + 2)).toArray) := by
  have hzc : (Builtin.zeroCells (Value.agg #[x, y]).cells 1).toList = [x, y] := by
    simp [Builtin.zeroCells, Value.cells, List.range_succ]
  have hst := run_storeCells_at P b o T [x, y] 0 cur w hb (by simpa using hfit) (by intro v hv'; simp at hv'; rcases hv' with rfl | rfl; exact hx; exact hy)
  simp only [Nat.add_zero, List.length_cons, List.length_nil, Nat.zero_add] at hst
  simp [Builtin.clear_, run_underlying ht, hv, hzc, hst]
theorem wpList_clear_one {P : Program} {w : World} {ops : Array Oper} {rest : List Oper} {o : Oper} {a : Act} {Q : Exit → Act → World → Prop} (hgd : o.guard = none) (s : Operand) (t : TypeId)
    (ho : o.op = .call { callee := .builtin .clear, args := #[s], argTypes := #[t] }) (e : TypeId) (x y : Value) (ht : P.underlying t = some (.slice e)) (hv : ∀ w, (zeroValue e).run P w = .ok (.agg #[x, y]) w)
    (b off c : Nat) (hs : a.eval s = .slice (some ⟨b, off, none⟩) 1 c) (cur : Array Value) (T : TypeId) (hb : Blk w b cur T) (hfit : off + 2 ≤ cur.size) (hx : x.oneCell' = true) (hy : y.oneCell' = true) (new : Array Value) (hw : (cur.toList.take off ++ [x, y] ++ cur.toList.drop (off + 2)).toArray = new)
    (h : wpList P ops Q rest (a.put o.dst (.tuple #[])) (w.setRow b new)) : wpList P ops Q (o :: rest) a w := by
  refine wpList_plain hgd fun K hK => ?_
  have hrun := run_clear_one (P := P) w t e o.type x y ht hv b off c cur T hb hfit hx hy
  rw [hw] at hrun
  unfold Oper.wp execOp
  simp only [ho, resolve, invoke, builtin, Sem.run_bind, Sem.run_pure, Result.andThen_ok, List.map_toArray, List.map_cons, List.map_nil, hs, hrun]
  exact hK _ _ h
end Go.Proofs.Ytkicndengkcojaa

/- Where an item is, or would be. -/
namespace Go.Proofs.Ytkicndengkcojaa
set_option maxRecDepth 100000
open Go Go.RowKit Go.Sort

/-- how two keys stand -/
def cmpN (a b : Nat) : Int := if a < b then -1 else if b < a then 1 else 0
theorem cmpN_lt (a b : Nat) : decide (cmpN a b < 0) = decide (a < b) := by
  unfold cmpN; split
  · simp [*]
  · split <;> simp [*]
theorem cmpN_eq (a b : Nat) : (cmpN a b == 0) = decide (a = b) := by
  unfold cmpN; split
  · rw [Bool.eq_iff_iff]; simp; omega
  · split
    · rw [Bool.eq_iff_iff]; simp; omega
    · rw [Bool.eq_iff_iff]; simp; omega
end Go.Proofs.Ytkicndengkcojaa

/- The methods that only look: Size, Rank, Get, Min, Max. -/
namespace Go.Proofs.Ytkicndengkcojaa
set_option maxRecDepth 100000
open Go Go.RowKit Go.Sort

/-- an item, and whether there is one -/
def minL (L : List It) : It := L.headD (0, ⟨#[]⟩)
def maxL (L : List It) : It := L.getLastD (0, ⟨#[]⟩)
theorem results_it {fn : Func} {p t : Tmp} (h : fn.results = #[.cell p 53, .tmp t]) (tmps : Array Value) (w : World) (g : Nat) (k : Nat) (s : ByteArray) (c : Bool)
    (hp : tmps.getD p undef = .pointer (some ⟨g, 0, none⟩)) (hv : tmps.getD t undef = .bool c) (hg : Blk w g (itC k s) 53) :
    (results fn tmps).run Try.prog w = .ok (.tuple #[.agg (itC k s), .bool c]) w := by
  have hp' : tmps[p]?.getD undef = .pointer (some ⟨g, 0, none⟩) := by simpa using hp
  have hv' : tmps[t]?.getD undef = .bool c := by simpa using hv
  simp [results, h, hp', hv', asAddr, run_loadVar_row w g 53 53 (itC k s) (0, 0) _ hg Try.underlying53 rfl sizeA]
theorem Mp.alloc {w : World} {T e g : Nat} {v : Value} {L : List It} (h : Mp w T e g v L) (o : Obj) : Mp (w.alloc o) T e g v L := h.bel ((Below.refl _ _).alloc (Nat.le_refl _) o)
end Go.Proofs.Ytkicndengkcojaa

/- The document's map: Get, Rank, Min, Max, and a row without a key. -/
namespace Go.Proofs.Ytkicndengkcojaa
set_option maxRecDepth 100000
open Go Go.RowKit Go.Sort

/-- the document's map -/
def Rp (w : World) (g : Nat) (v : Value) (L : List It) : Prop := Mp w 87 53 g v L
theorem get_first {L : List It} {k i : Nat} {x : It} (h : ∀ j y, j < i → L[j]? = some y → y.1 ≠ k) (hx : L[i]? = some x) (hk : x.1 = k) : getL L k = some x.2 := by
  obtain ⟨hi, rfl⟩ := List.getElem?_eq_some_iff.1 hx
  have e : L = L.take i ++ L[i] :: L.drop (i + 1) := by rw [← List.drop_eq_getElem_cons hi, List.take_append_drop]
  have e1 : getL (L.take i) k = none := get_none fun y hy => by
    obtain ⟨j, hj, rfl⟩ := List.getElem_of_mem hy
    rw [List.length_take] at hj
    have := h j _ (by omega) (List.getElem?_eq_getElem (show j < L.length by omega))
    simpa using this
  have e2 : getL (L[i] :: L.drop (i + 1)) k = some L[i].2 := by
    unfold getL
    rw [List.find?_cons_of_pos (by simpa using hk)]
    rfl
  have e3 : getL (L.take i ++ L[i] :: L.drop (i + 1)) k = some L[i].2 := by rw [get_append, e1, e2]; rfl
  rwa [← e] at e3
theorem get_miss {L : List It} {k : Nat} (h : ∀ j y, j < L.length → L[j]? = some y → y.1 ≠ k) : getL L k = none := get_none fun y hy => by
  obtain ⟨j, hj, rfl⟩ := List.getElem_of_mem hy
  exact h j _ hj (List.getElem?_eq_getElem hj)
theorem Mp.at {w w1 : World} {T e g : Nat} {v : Value} {L : List It} (h : Mp w T e g v L) (hb1 : Below w.heap.size w w1) {i : Nat} {x : It} (hx : L[i]? = some x) :
    ∃ b c, v = .slice (some ⟨b, 0, none⟩) L.length c ∧ b < w.heap.size ∧ b ≠ g ∧ w1.cell? ⟨g, 0, none⟩ = some (.slice (some ⟨b, 0, none⟩) L.length c) ∧ w1.cell? ⟨b, i * 2, none⟩ = some (.int .u64 (x.1 : Int)) ∧ w1.cell? ⟨b, i * 2 + 1, none⟩ = some (.string x.2) ∧ w1.rangeAt b (i * 2) (itC x.1 x.2).toList := by
  rcases h.shape with ⟨_, rfl⟩ | ⟨b, c, rfl, _, _, hr, hb, hn⟩
  · simp at hx
  · have hr1 := range_bel hr hb1 hb
    obtain ⟨c1, c2⟩ := row_at hr1 hx
    have := row_item hr1 hx
    rw [Nat.zero_add] at this
    exact ⟨b, c, rfl, hb, hn, (h.bel hb1).cell, c1, c2, this⟩
theorem Mp.form {w w1 : World} {T e g : Nat} {v : Value} {L : List It} (h : Mp w T e g v L) (hb1 : Below w.heap.size w w1) : ∃ a c, v = .slice a L.length c ∧ w1.cell? ⟨g, 0, none⟩ = some (.slice a L.length c) := by
  rcases h.shape with ⟨rfl, rfl⟩ | ⟨b, c, rfl, _⟩
  · exact ⟨_, _, rfl, (h.bel hb1).cell⟩
  · exact ⟨_, _, rfl, (h.bel hb1).cell⟩
set_option maxHeartbeats 1000000 in
theorem refget_any {w : World} {g : Nat} {v : Value} {L : List It} (h : Rp w g v L) (k : Nat) : Calls Try.prog 97 #[.pointer (some ⟨g, 0, none⟩), .int .u64 (k : Int)] w fun e w' => e = .returned (.tuple #[.string (valL L k), .bool (hasL L k)]) ∧ w = w' := by
  have HM := Lib.hid h
  obtain ⟨a, c, hv, c0⟩ := Mp.form h (Below.refl _ _)
  have hlen := Mp.len h
  obtain ⟨n, hn⟩ : ∃ n, n = L.length := ⟨_, rfl⟩
  rw [← hn] at c0 hlen
  have HN := Lib.hid hn
  have HV := Lib.hid hv
  clear h hn hv
  go_enter Try.func97, Try.ntmps97
  go_wp2
  go_loop [6] (fun i => ∃ p : Nat, p ≤ n ∧ i = .int .i64 p ∧ ∀ j y, j < p → L[j]? = some y → y.1 ≠ k) (fun i => n - (intOf i).toNat)
  case atStart => exact ⟨0, by omega, rfl, fun j y hj => by omega⟩
  case round =>
    obtain ⟨p, hp, rfl, hmiss⟩ := hrel
    have HMI := Lib.hid hmiss
    clear hmiss
    by_cases hlt : p < n
    · obtain ⟨x, hx⟩ : ∃ x, L[p]? = some x := ⟨_, List.getElem?_eq_getElem (by have := HN.out; omega)⟩
      obtain ⟨b, c', hv', d1, d2, d3, c1, c2, d4⟩ := Mp.at HM.out (Below.refl _ _) hx
      clear d1 d2 d3 d4
      obtain rfl : a = some ⟨b, 0, none⟩ := by
        have := HV.out.symm.trans hv'
        simp only [Value.slice.injEq] at this
        exact this.1
      have HX := Lib.hid hx
      clear hx hv'
      by_cases hk : x.1 = k
      · have HG := Lib.hid (get_first HMI.out HX.out hk)
        have hd : ((x.1 : Int) == (k : Int)) = true := by rw [hk]; simp
        clear hk
        go_wp2
        go_ret2
        refine ⟨?_, rfl⟩
        rw [valL, hasL, HG.out]
        rfl
      · have hd : ((x.1 : Int) == (k : Int)) = false := by
          rw [Bool.eq_false_iff]; intro h; simp at h; omega
        have HK := Lib.hid hk
        clear hk
        go_wp2
        refine ⟨⟨p + 1, by omega, by go_num, fun j y hj hy => ?_⟩, by simp [intOf]; omega⟩
        rcases Nat.lt_or_ge j p with h | h
        · exact HMI.out j y h hy
        · obtain rfl : j = p := by omega
          have := HX.out
          rw [hy] at this
          obtain rfl := Option.some.inj this
          exact HK.out
    · obtain rfl : n = p := by omega
      have HG := Lib.hid (get_miss (L := L) (k := k) (by rw [← HN.out]; exact HMI.out))
      go_wp2
      go_ret2
      refine ⟨?_, rfl⟩
      rw [valL, hasL, HG.out]
      rfl
theorem rank_take {L : List It} {p : Nat} {x : It} (k : Nat) (hx : L[p]? = some x) : rankL (L.take (p + 1)) k = rankL (L.take p) k + if x.1 < k then 1 else 0 := by
  obtain ⟨hp, rfl⟩ := List.getElem?_eq_some_iff.1 hx
  rw [rankL, List.take_succ_eq_append_getElem hp, lo_append, List.length_append, ← rankL]
  congr 1
  unfold loL
  by_cases h : L[p].1 < k
  · rw [if_pos h, List.filter_cons_of_pos (by simpa using h)]; rfl
  · rw [if_neg h, List.filter_cons_of_neg (by simpa using h)]; rfl
end Go.Proofs.Ytkicndengkcojaa

/- The document's map: a row without a key, Min, Max. Rows that grow. -/
namespace Go.Proofs.Ytkicndengkcojaa
set_option maxRecDepth 100000
open Go Go.RowKit Go.Sort

/-- one item is appended to a row of the call's own: what is appended lies in the block that was made last -/
theorem wpList_snocA {w w0 : World} {ops : Array Oper} {rest : List Oper} {o : Oper} {a : Act} {Q : Exit → Act → World → Prop} (hgd : o.guard = none) (s x : Operand)
    (ho : o.op = .call { callee := .builtin .append, args := #[s, x], argTypes := #[22, 22] }) (B : Nat) (v : Value) (L : List It) (n : Nat) (hs : a.eval s = v) (hown : w.ownsRow B 53 2 v n (flat L)) (hnL : n = L.length) (k : Nat) (str : ByteArray)
    (hx : a.eval x = .slice (some ⟨w.heap.size, 0, none⟩) 1 1) (hl : n ≤ 1000000) (hb : Below B w0 w) (hbs : B ≤ w.heap.size)
    (h : ∀ v' w', w'.ownsRow B 53 2 v' (n + 1) (flat (L ++ [(k, str)])) → Below B w0 w' → w.heap.size < w'.heap.size → wpList Try.prog ops Q rest (a.put o.dst v') w') : wpList Try.prog ops Q (o :: rest) a (w.alloc (.cells #[.int .u64 (k : Int), .string str] 53)) := by
  obtain ⟨i, hi', hq⟩ := Option.map_eq_some_iff.1 infoA
  simp only [Prod.mk.injEq] at hq
  obtain ⟨q1, q2, q3⟩ := hq
  refine wpList_append_own_at (w := w.alloc (.cells #[.int .u64 (k : Int), .string str] 53)) hgd s x 22 ho B 53 i _ 2 24 Try.underlying22 hi' q1 q2 q3 rfl (by omega) v n (flat L) hs (hown.alloc _) ⟨w.heap.size, 0, none⟩ 1 1 (flat [(k, str)]) hx rfl ?_ (flat_one _) (by unfold maxLen; omega) (by omega) (by simp; omega) ?_
  · intro j y hj
    rw [Addr.add_mid, Nat.zero_add, (Blk.new w #[.int .u64 (k : Int), .string str] 53).cell]
    simpa [flat] using hj
  · intro v' w' h1 h2 _ _
    rw [← flat_append] at h1
    have hg := h2.size
    rw [World.size_alloc] at hg
    exact h v' w' h1 ((hb.alloc hbs _).grown h2 (by simp; omega) fun k hk => (hown.lt k hk).1) (by omega)
/-- a row's cells, wherever they lie; of none the nil slice too -/
def SrcI (w : World) (v : Value) (k size : Nat) (xs : List Value) : Prop := xs.length = k * size ∧ ((v = .slice none 0 0 ∧ k = 0) ∨ ∃ g o c, v = .slice (some ⟨g, o, none⟩) k c ∧ w.rangeAt g o xs)
theorem range_drop {w : World} {g o : Nat} {xs : List Value} (h : w.rangeAt g o xs) (k : Nat) : w.rangeAt g (o + k) (xs.drop k) := fun j v hv => by
  rw [List.getElem?_drop] at hv
  rw [Nat.add_assoc]
  exact h (k + j) v hv
/-- row[r:] -/
theorem wpList_from {P : Program} {w : World} {ops : Array Oper} {rest : List Oper} {o : Oper} {a : Act} {Q : Exit → Act → World → Prop} (hgd : o.guard = none) (T : TypeId) (s lo : Operand)
    (ho : o.op = .slice T s (some lo) none none) (e : TypeId) (size : Nat) (hT : P.underlying T = some (.slice e)) (hi : (P.info? e).map (·.size) = some size)
    (v : Value) (n r : Nat) (xs : List Value) (B : Nat) (hs : a.eval s = v) (hlo : a.eval lo = .int .i64 r) (hr : r ≤ n) (hown : w.ownsRow B e size v n xs)
    (h : ∀ v', SrcI w v' (n - r) size (xs.drop (r * size)) → wpList P ops Q rest (a.put o.dst v') w) : wpList P ops Q (o :: rest) a w := by
  have hlen := hown.1
  have hel : P.elem T = e := by simp [Program.elem, hT]
  have hT' : P.underlying T = some (.slice (P.elem T)) := by rw [hel]; exact hT
  obtain ⟨i, hi', hq⟩ := Option.map_eq_some_iff.1 hi
  have run : ∀ al c, (Instr.sliceAt T (.slice al n c) (some (.int .i64 (r : Int))) none none).run P w = .ok (sliced al r n c size) w := fun al c => by
    rw [run_sliceAt_slice w T _ _ _ _ hT', run_slice_l w T al n c hT' .i64 (r : Int) (by omega) (by omega), hel]
    simp [sizeOf, typeInfo, hi', Result.andThen, hq]
  refine wpList_plain hgd fun K hK => ?_
  unfold Oper.wp execOp
  rcases own_shape hown with ⟨rfl, rfl⟩ | ⟨b, c, rfl, hc, _, hrg, _⟩
  · simp only [ho, Option.map, hs, hlo, Sem.run_bind, Result.andThen_ok, run]
    obtain rfl : r = 0 := by omega
    exact hK _ _ (h _ ⟨by rw [List.length_drop, hlen, Nat.sub_mul], .inl ⟨by simp [sliced], rfl⟩⟩)
  · simp only [ho, Option.map, hs, hlo, Sem.run_bind, Result.andThen_ok, run]
    refine hK _ _ (h _ ⟨by rw [List.length_drop, hlen, Nat.sub_mul], .inr ?_⟩)
    unfold sliced
    by_cases hcr : c = r
    · rw [if_pos hcr]
      have h4 : xs.drop (r * size) = [] := List.drop_eq_nil_of_le (by rw [hlen]; exact Nat.mul_le_mul_right _ (by omega))
      rw [h4]
      exact ⟨b, 0, _, rfl, fun j u hu => by simp at hu⟩
    · rw [if_neg hcr]
      exact ⟨b, 0 + r * size, c - r, by simp [Addr.add_mid], range_drop hrg _⟩
/-- append(out, row...) -/
theorem wpList_joinA {w w0 : World} {ops : Array Oper} {rest : List Oper} {o : Oper} {a : Act} {Q : Exit → Act → World → Prop} (hgd : o.guard = none) (s x : Operand)
    (ho : o.op = .call { callee := .builtin .append, args := #[s, x], argTypes := #[22, 22] }) (B : Nat) (v : Value) (L K : List It) (n m : Nat) (hs : a.eval s = v) (hown : w.ownsRow B 53 2 v n (flat L))
    (u : Value) (hx : a.eval x = u) (hS : SrcI w u m 2 (flat K)) (hl : n + m ≤ 2000000) (hb : Below B w0 w) (hbs : B ≤ w.heap.size)
    (h : ∀ v' w', w'.ownsRow B 53 2 v' (n + m) (flat (L ++ K)) → Below B w0 w' → w.heap.size ≤ w'.heap.size → wpList Try.prog ops Q rest (a.put o.dst v') w') : wpList Try.prog ops Q (o :: rest) a w := by
  obtain ⟨i, hi', hq⟩ := Option.map_eq_some_iff.1 infoA
  simp only [Prod.mk.injEq] at hq
  obtain ⟨q1, q2, q3⟩ := hq
  rcases hS.2 with ⟨rfl, rfl⟩ | ⟨g, of, c, rfl, hr⟩
  · have hK : K = [] := by
      have := hS.1
      rw [flat_length] at this
      exact List.eq_nil_of_length_eq_zero (by omega)
    subst hK
    have hr := run_append_owned_none (P := Try.prog) w B 22 o.type 53 i 2 Try.underlying22 hi' v n (flat L) hown
    refine wpList_plain hgd fun K hK => ?_
    unfold Oper.wp execOp
    simp only [ho, resolve, invoke, builtin, Sem.run_bind, Sem.run_pure, Result.andThen_ok, List.map_toArray, List.map_cons, List.map_nil, hs, hx, hr]
    exact hK _ _ (h v w (by rw [List.append_nil]; exact hown) hb (Nat.le_refl _))
  · refine wpList_append_own_at (w := w) hgd s x 22 ho B 53 i _ 2 24 Try.underlying22 hi' q1 q2 q3 rfl (by omega) v n (flat L) hs hown ⟨g, of, none⟩ m c (flat K) hx hS.1 (fun j y hj => by rw [Addr.add_mid]; exact hr j y hj) (flat_one _) (by unfold maxLen; omega) (by omega) hbs ?_
    intro v' w' h1 h2 _ _
    rw [← flat_append] at h1
    exact h v' w' h1 (hb.grown h2 hbs fun k hk => (hown.lt k hk).1) h2.size
theorem drop_take {L : List It} {p : Nat} {x : It} (k : Nat) (hx : L[p]? = some x) : dropL (L.take (p + 1)) k = if x.1 = k then dropL (L.take p) k else dropL (L.take p) k ++ [x] := by
  obtain ⟨hp, rfl⟩ := List.getElem?_eq_some_iff.1 hx
  rw [List.take_succ_eq_append_getElem hp, drop_append]
  by_cases h : L[p].1 = k
  · rw [if_pos h, show dropL [L[p]] k = [] from List.filter_cons_of_neg (by simpa using h), List.append_nil]
  · rw [if_neg h, show dropL [L[p]] k = [L[p]] from by rw [dropL, List.filter_cons_of_pos (by simpa using h)]; rfl]
set_option maxHeartbeats 2000000 in
theorem without_any {w : World} {g : Nat} {v : Value} {L : List It} (h : Rp w g v L) (k : Nat) : Calls Try.prog 98 #[.pointer (some ⟨g, 0, none⟩), .int .u64 (k : Int)] w fun e w' => ∃ u, e = .returned u ∧ w'.ownsRow w.heap.size 53 2 u (dropL L k).length (flat (dropL L k)) ∧ Below w.heap.size w w' := by
  have HM := Lib.hid h
  have hlen := Mp.len h
  obtain ⟨a, c, hv, _⟩ := Mp.form h (Below.refl _ _)
  obtain ⟨n, hn⟩ : ∃ n, n = L.length := ⟨_, rfl⟩
  rw [← hn] at hlen hv
  have HN := Lib.hid hn
  have HV := Lib.hid hv
  clear h hn hv
  go_enter Try.func98, Try.ntmps98
  go_wp2
  go_loopw [5, 6] (fun u i wr => ∃ (p : Nat), p ≤ n ∧ i = .int .i64 p ∧ wr.ownsRow w.heap.size 53 2 u (dropL (L.take p) k).length (flat (dropL (L.take p) k)) ∧ Below w.heap.size w wr) (fun _ i _ => n - (intOf i).toNat)
  case atStart => exact ⟨0, by omega, rfl, World.ownsRow_nil _ _ _ _, Below.refl _ _⟩
  case round =>
    obtain ⟨p, hp, rfl, hO, hB⟩ := hrel
    have HO := Lib.hid hO
    have HB := Lib.hid hB
    clear hO hB
    obtain ⟨a2, c2, hv2, c0⟩ := Mp.form HM.out HB.out
    obtain ⟨rfl, rfl⟩ : a = a2 ∧ c = c2 := by
      have := HV.out.symm.trans hv2
      simp only [Value.slice.injEq] at this
      exact ⟨this.1, this.2.2⟩
    rw [← HN.out] at c0
    clear hv2
    by_cases hlt : p < n
    · obtain ⟨x, hx⟩ : ∃ x, L[p]? = some x := ⟨_, List.getElem?_eq_getElem (by have := HN.out; omega)⟩
      obtain ⟨b, c', hv', d1, d2, d3, c1, c2, d4⟩ := Mp.at HM.out HB.out hx
      clear d1 d2 d3 d4
      obtain rfl : a = some ⟨b, 0, none⟩ := by
        have := HV.out.symm.trans hv'
        simp only [Value.slice.injEq] at this
        exact this.1
      have hdt := drop_take k hx
      have hdl : (dropL (L.take p) k).length ≤ p := Nat.le_trans (drop_len_le _ _) (by rw [List.length_take]; omega)
      clear hx hv'
      by_cases hk : x.1 = k
      · rw [if_pos hk] at hdt
        have HD := Lib.hid hdt
        have hd : ((x.1 : Int) == (k : Int)) = true := by rw [hk]; simp
        have hd2 : ((x.1 : Int) != (k : Int)) = false := by rw [hk]; simp
        clear hk hdt
        go_wp2
        exact ⟨⟨p + 1, by omega, by go_num, by rw [HD.out]; exact HO.out, HB.out⟩, by simp [intOf]; omega⟩
      · rw [if_neg hk] at hdt
        have HD := Lib.hid hdt
        have hd : ((x.1 : Int) == (k : Int)) = false := by
          rw [Bool.eq_false_iff]; intro h; simp at h; omega
        have hd2 : ((x.1 : Int) != (k : Int)) = true := by simp; omega
        clear hk hdt
        obtain ⟨m, hm⟩ : ∃ m, m = (dropL (L.take p) k).length := ⟨_, rfl⟩
        have HO2 := HO.out
        rw [← hm] at HO2 hdl
        have HO3 := Lib.hid HO2
        have HMm := Lib.hid hm
        have hs2 := HB.out.size
        clear HO2 hm
        go_wp2_with (at_builtin; refine wpList_snocA rfl _ _ rfl w.heap.size _ (dropL (L.take p) k) m rfl HO3.out HMm.out x.1 x.2 rfl (by omega) HB.out hs2 ?_; intro v' w' h1 h2 h3; have H1 := Lib.hid h1; have H2 := Lib.hid h2; clear h1 h2 h3)
        refine ⟨⟨p + 1, by omega, by go_num, ?_, H2.out⟩, by simp [intOf]; omega⟩
        rw [HD.out, List.length_append, ← HMm.out]
        exact H1.out
    · obtain rfl : n = p := by omega
      have hall : L.take n = L := by rw [HN.out, List.take_length]
      rw [hall] at HO
      go_wp2
      go_ret
      exact ⟨_, rfl, HO.out, HB.out⟩
end Go.Proofs.Ytkicndengkcojaa

/- Items are compared, and rows of items. -/
namespace Go.Proofs.Ytkicndengkcojaa
set_option maxRecDepth 100000
open Go Go.RowKit Go.Sort

/-- whether two items are the same -/
def eqI (x y : It) : Bool := decide (x.1 = y.1) && (x.2.toList == y.2.toList)
theorem toList_inj {s t : ByteArray} (h : s.toList = t.toList) : s = t := by
  rw [ByteArray.toList_eq, ByteArray.toList_eq] at h
  apply ByteArray.ext
  exact Array.toList_inj.1 h
theorem eqI_iff {x y : It} : eqI x y = true ↔ x = y := by
  unfold eqI
  rw [Bool.and_eq_true, decide_eq_true_eq, beq_iff_eq]
  constructor
  · rintro ⟨h1, h2⟩; exact Prod.ext h1 (toList_inj h2)
  · rintro rfl; exact ⟨rfl, rfl⟩
theorem fieldsI : Try.prog.underlying 53 = some (.struct (Try.prog.fieldsOf 53)) := by kernel_rfl
theorem heldI : Try.prog.stoodInHeld 53 = false := by kernel_rfl
theorem guardI : Try.prog.eqGuardType Try.prog.depth 53 = false := by kernel_rfl
theorem fieldsOfI : (Try.prog.fieldsOf 53).toList.map (fun f => (f.name, f.type, f.offset)) = [("Key", 23, 0), ("Val", 9, 1)] := by kernel_rfl
theorem run_partK (k : Nat) (s : ByteArray) (w : World) : (Go.part 23 (itC k s) 0).run Try.prog w = .ok (.int .u64 (k : Int)) w := by
  have ha : (isAgg 23).run Try.prog w = .ok false w := by
    unfold isAgg
    rw [Sem.run_bind, run_underlying Try.underlying23 w]
    rfl
  simp [Go.part, ha, itC]
theorem run_partV (k : Nat) (s : ByteArray) (w : World) : (Go.part 9 (itC k s) 1).run Try.prog w = .ok (.string s) w := by
  have ha : (isAgg 9).run Try.prog w = .ok false w := by
    unfold isAgg
    rw [Sem.run_bind, run_underlying Try.underlying9 w]
    rfl
  simp [Go.part, ha, itC]
theorem run_equalIn_it (d : Nat) (x y : It) (w : World) : (Op.equalIn (d + 2) 53 (.agg (itC x.1 x.2)) (.agg (itC y.1 y.2))).run Try.prog w = .ok (eqI x y) w := by
  rw [run_equalIn_agg w (d + 1) 53 _ _ fieldsI heldI]
  have h := fieldsOfI
  obtain ⟨f, g, hfg⟩ : ∃ f g, (Try.prog.fieldsOf 53).toList = [f, g] := by
    have hl := congrArg List.length h
    rw [List.length_map] at hl
    match hq : (Try.prog.fieldsOf 53).toList, hl with
    | [f, g], _ => exact ⟨f, g, rfl⟩
  rw [hfg] at h ⊢
  simp only [List.map_cons, List.map_nil, List.cons.injEq, Prod.mk.injEq, and_true] at h
  obtain ⟨⟨f1, f2, f3⟩, g1, g2, g3⟩ := h
  have e : eqI x y = (((x.1 : Int) == (y.1 : Int)) && (x.2.toList == y.2.toList)) := by
    unfold eqI
    congr 1
    rw [Bool.eq_iff_iff]; simp; omega
  rw [e]
  simp only [Op.eqFields, f1, f2, f3, g1, g2, g3]
  simp only [ne_eq, String.reduceEq, not_false_eq_true, if_true, Sem.run_bind, run_partK, Result.andThen_ok, run_equalIn_int w d 23 .u64 .u64 _ _ Try.underlying23]
  generalize hB : (x.2.toList == y.2.toList) = r
  cases (x.1 : Int) == (y.1 : Int)
  · simp
  · simp only [Bool.not_true, Bool.false_eq_true, if_false, Sem.run_bind, run_partV, Result.andThen_ok, run_equalIn_string w d 9 _ _ Try.underlying9, hB]
    cases r <;> simp
theorem run_eql_it (x y : It) (w : World) : (binOp .eql 53 (.agg (itC x.1 x.2)) (.agg (itC y.1 y.2))).run Try.prog w = .ok (.bool (eqI x y)) w := by
  rw [run_eql_struct, run_equalIn_it 9998]
  rfl
theorem run_neq_it (x y : It) (w : World) : (binOp .neq 53 (.agg (itC x.1 x.2)) (.agg (itC y.1 y.2))).run Try.prog w = .ok (.bool (!eqI x y)) w := by
  rw [run_neq_struct, run_equalIn_it 9998]
  rfl
theorem o_eqlI {o : Oper} {a : Act} {w : World} {K : Act → World → Prop} {Q : Exit → Act → World → Prop} (u v : Operand) (ho : o.op = .binOp .eql 53 u v 53)
    (x y : It) (hx : a.eval u = .agg (itC x.1 x.2)) (hy : a.eval v = .agg (itC y.1 y.2)) {r : Bool} (hr : eqI x y = r) (h : K (a.put o.dst (.bool r)) w) : o.wp Try.prog a w K Q := by
  unfold Oper.wp execOp
  simp only [ho, hx, hy, Sem.run_bind, run_eqGuard_agg w .eql 53 u v _ _ guardI, run_eql_it, hr, Sem.run_pure, Result.andThen_ok]
  exact h
theorem p_eqlI {ops : Array Oper} {rest : List Oper} {o : Oper} {a : Act} {w : World} {Q : Exit → Act → World → Prop} (hgd : o.guard = none) (u v : Operand) (ho : o.op = .binOp .eql 53 u v 53)
    (x y : It) (hx : a.eval u = .agg (itC x.1 x.2)) (hy : a.eval v = .agg (itC y.1 y.2)) {r : Bool} (hr : eqI x y = r) (h : wpList Try.prog ops Q rest (a.put o.dst (.bool r)) w) : wpList Try.prog ops Q (o :: rest) a w :=
  wpList_plain hgd fun _ hK => o_eqlI u v ho x y hx hy hr (hK _ _ h)
theorem p_neqI {ops : Array Oper} {rest : List Oper} {o : Oper} {a : Act} {w : World} {Q : Exit → Act → World → Prop} (hgd : o.guard = none) (u v : Operand) (ho : o.op = .binOp .neq 53 u v 53)
    (x y : It) (hx : a.eval u = .agg (itC x.1 x.2)) (hy : a.eval v = .agg (itC y.1 y.2)) {r : Bool} (hr : (!eqI x y) = r) (h : wpList Try.prog ops Q rest (a.put o.dst (.bool r)) w) : wpList Try.prog ops Q (o :: rest) a w := by
  refine wpList_plain hgd fun K hK => ?_
  unfold Oper.wp execOp
  simp only [ho, hx, hy, Sem.run_bind, run_eqGuard_agg w .neq 53 u v _ _ guardI, run_neq_it, hr, Sem.run_pure, Result.andThen_ok]
  exact hK _ _ h
theorem SrcI.form {w : World} {v : Value} {k size : Nat} {xs : List Value} (h : SrcI w v k size xs) : ∃ a c, v = .slice a k c := by
  rcases h.2 with ⟨rfl, rfl⟩ | ⟨b, o, c, rfl, _⟩
  · exact ⟨_, _, rfl⟩
  · exact ⟨_, _, rfl⟩
theorem SrcI.bel {w w' : World} {v : Value} {k size : Nat} {xs : List Value} (h : SrcI w v k size xs) (hb : Below w.heap.size w w') : SrcI w' v k size xs := by
  refine ⟨h.1, h.2.imp id ?_⟩
  rintro ⟨g, o, c, hv, hr⟩
  refine ⟨g, o, c, hv, ?_⟩
  cases xs with
  | nil => intro j u hu; simp at hu
  | cons x xs => exact range_bel hr hb (range_lt hr (by simp))
/-- an item of a row -/
theorem SrcI.at {w : World} {v : Value} {L : List It} {n : Nat} (h : SrcI w v n 2 (flat L)) {i : Nat} {x : It} (hx : L[i]? = some x) : ∃ b o c, v = .slice (some ⟨b, o, none⟩) n c ∧ w.cell? ⟨b, o + i * 2, none⟩ = some (.int .u64 (x.1 : Int)) ∧ w.cell? ⟨b, o + i * 2 + 1, none⟩ = some (.string x.2) ∧ b < w.heap.size ∧ w.rangeAt b (o + i * 2) (itC x.1 x.2).toList := by
  have hi := (List.getElem?_eq_some_iff.1 hx).1
  have hln := h.1
  rw [flat_length] at hln
  rcases h.2 with ⟨_, h0⟩ | ⟨b, o, c, rfl, hr⟩
  · omega
  · obtain ⟨h1, h2⟩ := flat_get hx
    have c1 := hr _ _ h1
    have c2 := hr _ _ h2
    rw [← Nat.add_assoc] at c2
    exact ⟨b, o, c, rfl, c1, c2, World.block_lt_of_cell? w _ c1, row_item hr hx⟩
theorem own_src {w : World} {B e size n : Nat} {v : Value} {xs : List Value} (h : w.ownsRow B e size v n xs) : SrcI w v n size xs := by
  rcases own_shape h with ⟨h1, h2⟩ | ⟨b, c, h1, _, _, hr, _⟩
  · exact ⟨h.1, .inl ⟨h1, h2⟩⟩
  · exact ⟨h.1, .inr ⟨b, 0, c, h1, hr⟩⟩
theorem take_same {L K : List It} {p : Nat} (h : L.take p = K.take p) {x y : It} (hx : L[p]? = some x) (hy : K[p]? = some y) (he : x = y) : L.take (p + 1) = K.take (p + 1) := by
  obtain ⟨h1, rfl⟩ := List.getElem?_eq_some_iff.1 hx
  obtain ⟨h2, rfl⟩ := List.getElem?_eq_some_iff.1 hy
  rw [List.take_succ_eq_append_getElem h1, List.take_succ_eq_append_getElem h2, h, he]
set_option maxHeartbeats 2000000 in
theorem same_any {w : World} {va vb : Value} {L K : List It} (hA : SrcI w va L.length 2 (flat L)) (hB : SrcI w vb K.length 2 (flat K)) (hl : L.length ≤ 1000000) :
    Calls Try.prog 31 #[va, vb] w fun e w' => e = .returned (.bool (decide (L = K))) ∧ Below w.heap.size w w' := by
  obtain ⟨aa, ac, rfl⟩ := hA.form
  obtain ⟨ba, bc, rfl⟩ := hB.form
  by_cases hlen : L.length = K.length
  · obtain ⟨n, hn⟩ : ∃ n, n = L.length := ⟨_, rfl⟩
    have HA := Lib.hid hA
    have HB := Lib.hid hB
    have hnk : n = K.length := by omega
    rw [← hlen, ← hn] 
    rw [← hn] at hl
    have HN := Lib.hid hn
    have HNK := Lib.hid hnk
    clear hA hB hlen hn hnk
    go_enter Try.func31, Try.ntmps31
    go_wp2
    go_loopw [5] (fun i wr => ∃ p : Nat, p ≤ n ∧ i = .int .i64 p ∧ Below w.heap.size w wr ∧ L.take p = K.take p) (fun i _ => n - (intOf i).toNat)
    case atStart => exact ⟨0, by omega, rfl, Below.refl _ _, rfl⟩
    case round =>
      obtain ⟨p, hp, rfl, hBe, hT⟩ := hrel
      have HBe := Lib.hid hBe
      have HT := Lib.hid hT
      clear hBe hT
      by_cases hlt : p < n
      · obtain ⟨x, hx⟩ : ∃ x, L[p]? = some x := ⟨_, List.getElem?_eq_getElem (by have := HN.out; omega)⟩
        obtain ⟨y, hy⟩ : ∃ y, K[p]? = some y := ⟨_, List.getElem?_eq_getElem (by have := HNK.out; omega)⟩
        obtain ⟨b1, o1, c1, e1, x1, x2, _, _⟩ := (HA.out.bel HBe.out).at hx
        obtain ⟨b2, o2, c2, e2, y1, y2, _, _⟩ := (HB.out.bel HBe.out).at hy
        simp only [Value.slice.injEq, true_and] at e1 e2
        obtain ⟨rfl, rfl⟩ := e1
        obtain ⟨rfl, rfl⟩ := e2
        have HX := Lib.hid hx
        have HY := Lib.hid hy
        have hbd : Below w.heap.size w wr.drew := HBe.out.trans ⟨rfl, rfl, rfl, Nat.le_refl _, fun _ _ => rfl⟩
        have HBD := Lib.hid hbd
        clear hx hy hbd
        go_upto_region 6 with (fail)
        refine wp_region_tail0 8 (by kernel_rfl) (by kernel_rfl) (fun _ _ _ _ _ h => h) ?_
        simp only [List.take_succ_cons, List.take_zero, List.drop_succ_cons, List.drop_zero]
        repeat still_step
        refine wpStill_nil ?_
        by_cases he : x = y
        · have hr : (!eqI x y) = false := by rw [eqI_iff.2 he]; rfl
          go_wp2_with (refine p_neqI rfl _ _ rfl x y rfl rfl hr ?_)
          exact ⟨⟨p + 1, by omega, by go_num, HBD.out, take_same HT.out HX.out HY.out he⟩, by simp [intOf]; omega⟩
        · have hr : (!eqI x y) = true := by
            cases h : eqI x y with
            | false => rfl
            | true => exact absurd (eqI_iff.1 h) he
          have hLK : decide (L = K) = false := by
            simp
            intro h
            have h1 := HX.out
            rw [h, HY.out] at h1
            exact he (Option.some.inj h1).symm
          have HLK := Lib.hid hLK
          clear hLK
          go_wp2_with (refine p_neqI rfl _ _ rfl x y rfl rfl hr ?_)
          go_ret
          exact ⟨by rw [HLK.out]; rfl, HBD.out⟩
      · obtain rfl : n = p := by omega
        have hLK : decide (L = K) = true := by
          have := HT.out
          rw [HN.out, List.take_length, ← HN.out, HNK.out, List.take_length] at this
          simpa using this
        have HLK := Lib.hid hLK
        clear hLK
        go_wp2
        go_ret
        exact ⟨by rw [HLK.out]; rfl, HBe.out⟩
  · have hd : decide (L = K) = false := by simp; intro h; exact hlen (by rw [h])
    rw [hd]
    have hne : ((L.length : Int) == (K.length : Int)) = false := by rw [Bool.eq_false_iff]; intro h; simp at h; omega
    have hne2 : ((L.length : Int) != (K.length : Int)) = true := by simp; omega
    clear hA hB hd
    generalize L.length = n at *
    generalize K.length = m at *
    clear hlen
    go_enter Try.func31, Try.ntmps31
    go_wp2
    go_ret
    exact ⟨rfl, Below.refl _ _⟩
end Go.Proofs.Ytkicndengkcojaa

/- An item is put into a row. -/
namespace Go.Proofs.Ytkicndengkcojaa
set_option maxRecDepth 100000
open Go Go.RowKit Go.Sort

end Go.Proofs.Ytkicndengkcojaa

/- An item is put in the middle of a row: there is room, or there is none. -/
namespace Go.Proofs.Ytkicndengkcojaa
set_option maxRecDepth 100000
open Go Go.RowKit Go.Sort

end Go.Proofs.Ytkicndengkcojaa

/- Put and Drop. -/
namespace Go.Proofs.Ytkicndengkcojaa
set_option maxRecDepth 100000
open Go Go.RowKit Go.Sort

theorem new_len {L : List It} {r : Nat} {x : It} (hr : r ≤ L.length) : (L.take r ++ x :: L.drop r).length = L.length + 1 := by simp; omega

theorem del_len {L : List It} {r : Nat} (hr : r < L.length) : (L.take r ++ L.drop (r + 1)).length = L.length - 1 := by simp; omega
end Go.Proofs.Ytkicndengkcojaa

/- Range: the items from key to key, no more than so many. -/
namespace Go.Proofs.Ytkicndengkcojaa
set_option maxRecDepth 100000
open Go Go.RowKit Go.Sort

theorem wpList_min {P : Program} {w : World} {ops : Array Oper} {rest : List Oper} {o : Oper} {a : Act} {Q : Exit → Act → World → Prop} (hgd : o.guard = none) (x y : Operand) (t1 t2 : TypeId)
    (ho : o.op = .call { callee := .builtin .min, args := #[x, y], argTypes := #[t1, t2] }) (X Y : Int) (hx : a.eval x = .int .i64 X) (hy : a.eval y = .int .i64 Y) (k : Nat) (hk : (if Y < X then Y else X) = (k : Int))
    (h : wpList P ops Q rest (a.put o.dst (.int .i64 (k : Int))) w) : wpList P ops Q (o :: rest) a w := by
  refine wpList_plain hgd fun K hK => ?_
  have hr := run_min_int2 (P := P) w #[t1, t2] o.type .i64 .i64 X Y
  rw [hk] at hr
  unfold Oper.wp
  simp [execOp, ho, resolve, invoke, builtin, hx, hy, hr, Result.andThen]
  exact hK _ _ h
/-- the first items of a row that is being filled -/
def Filled (w : World) (b n i : Nat) (K : List It) : Prop := ∃ C : Array Value, Blk w b C 53 ∧ C.size = n * 2 ∧ C.toList.take (i * 2) = flat (K.take i)
theorem Filled.there {w : World} {b n i : Nat} {K : List It} (h : Filled w b n i K) (hi : i < n) : w.there b (i * 2) 2 := fun j hj => by
  obtain ⟨C, h1, h2, _⟩ := h
  exact ⟨by rw [h1.cell, Array.getElem?_eq_getElem (by omega)]; rfl, h1.free _⟩
theorem Filled.set {w : World} {b n i : Nat} {K : List It} {x : It} (h : Filled w b n i K) (hi : i < n) (hx : K[i]? = some x) : Filled (w.setCells b (i * 2) (itC x.1 x.2).toList) b n (i + 1) K := by
  obtain ⟨C, h1, h2, h3⟩ := h
  refine ⟨(C.setIfInBounds (i * 2) (.int .u64 (x.1 : Int))).setIfInBounds (i * 2 + 1) (.string x.2), (h1.put _ _).put _ _, by simpa using h2, ?_⟩
  have hlen : C.toList.length = n * 2 := by rw [Array.length_toList]; exact h2
  obtain ⟨hk, hxe⟩ := List.getElem?_eq_some_iff.1 hx
  rw [Array.toList_setIfInBounds, Array.toList_setIfInBounds, List.take_succ_eq_append_getElem hk, flat_append, ← h3, hxe]
  apply List.ext_getElem?
  intro j
  rw [List.getElem?_take]
  have hTl : (C.toList.take (i * 2)).length = i * 2 := by rw [List.length_take]; omega
  rcases Nat.lt_or_ge j (i * 2) with hj | hj
  · rw [if_pos (by omega), List.getElem?_set, if_neg (by omega), List.getElem?_set, if_neg (by omega), List.getElem?_append_left (by omega), List.getElem?_take, if_pos hj]
  · rw [List.getElem?_append_right (by omega), hTl]
    rcases Nat.lt_trichotomy j (i * 2 + 1) with hj2 | hj2 | hj2
    · obtain rfl : j = i * 2 := by omega
      rw [if_pos (by omega), List.getElem?_set, if_neg (by omega), List.getElem?_set, if_pos rfl, if_pos (by omega), Nat.sub_self]
      rfl
    · subst hj2
      rw [if_pos (by omega), List.getElem?_set, if_pos rfl, if_pos (by rw [List.length_set]; omega), show i * 2 + 1 - i * 2 = 1 by omega]
      rfl
    · rw [if_neg (by omega), List.getElem?_eq_none (by show (2 : Nat) ≤ _; omega)]
theorem Filled.bel {w w' : World} {b n i B : Nat} {K : List It} (h : Filled w b n i K) (hb : Below B w w') (hB : b < B) : Filled w' b n i K := by
  obtain ⟨C, h1, h2, h3⟩ := h
  exact ⟨C, h1.below hb hB, h2, h3⟩
theorem Filled.range {w : World} {b n : Nat} {K : List It} (h : Filled w b n n K) (hn : K.length = n) : w.rangeAt b 0 (flat K) := by
  obtain ⟨C, h1, h2, h3⟩ := h
  intro j v hj
  rw [Nat.zero_add, h1.cell]
  rw [← hn, List.take_length] at h3
  rw [← h3, List.getElem?_take] at hj
  split at hj
  · simpa using hj
  · cases hj
/-- the answer of a Range: a new row that holds just these -/
def Rows (w w' : World) (v : Value) (K : List It) : Prop := ∃ b, v = .slice (some ⟨b, 0, none⟩) K.length K.length ∧ w'.rangeAt b 0 (flat K) ∧ w.heap.size ≤ b ∧ b < w'.heap.size
end Go.Proofs.Ytkicndengkcojaa

/- A map of a law's own: what each call answers, and that all that was there ahead of it stays. -/
namespace Go.Proofs.Ytkicndengkcojaa
set_option maxRecDepth 100000
open Go Go.RowKit Go.Sort

theorem drew_bel (w : World) : Below w.heap.size w w.drew := ⟨rfl, rfl, rfl, Nat.le_refl _, fun _ _ => rfl⟩
/-- a row that a range tells -/
def Told (w : World) (u : Value) (K : List It) : Prop := SrcI w u K.length 2 (flat K)
theorem Told.bel {w w' : World} {u : Value} {K : List It} (h : Told w u K) (hb : Below w.heap.size w w') : Told w' u K := SrcI.bel h hb
theorem rows_told {w w' : World} {u : Value} {K : List It} (h : Rows w w' u K) : Told w' u K := by
  obtain ⟨b, rfl, hr, _, _⟩ := h
  exact ⟨flat_length K, .inr ⟨b, 0, _, rfl, hr⟩⟩
end Go.Proofs.Ytkicndengkcojaa

/- Rows of items, and scripts, among the arguments, opened. -/
namespace Go.Proofs.Ytkicndengkcojaa
set_option maxRecDepth 100000
open Go Go.ChangeShapes Go.WideShapes Go.ChangeAt Go.RowKit Go.Sort

theorem slice_spot {P : Program} {w : World} {r : Reach} {base : Nat} {t e : TypeId} {a : Addr} {n c : Nat} (ht : P.underlying t = some (.slice e)) (h : Value.okWide P w r base t (.slice (some a) n c)) : a.spot = none := by
  simp only [Value.okWide, ht, Cell.okWide, Cell.ok] at h
  exact h.2.2.2.1
/-- a row among the arguments reads as a list -/
theorem open_row {H α : Type} [Inhabited α] {enc : TypeId × Value → H} {P : Program} {W : World} {r : Reach} {base : Nat} {v : Value} {d : DataW H} {p : List MemPlace} (t e : TypeId) (c : Nat) (cells : α → List Value) (wf : α → Prop) (ht : P.underlying t = some (.slice e)) (hc : P.cellsOf e = c)
    (hone : ∀ cs n D Pl, cs.length = c → DataW.trod enc P W 0 (fun _ => true) true n e cs = some (D, Pl) → ∃ s, cs = cells s ∧ wf s) (hlen : ∀ s, (cells s).length = c)
    (hv : Value.okWide P W r base t v) (h : DataW.Trod enc P W 0 (fun _ => true) true t v d p) :
    ∃ l : List α, (l = [] ∧ v = .slice none 0 0) ∨ ∃ b o cap, v = .slice (some ⟨b, o, none⟩) l.length cap ∧ ∀ (j : Nat) s, l[j]? = some s → W.rangeAt b (o + j * c) (cells s) ∧ wf s := by
  obtain ⟨a0, len0, cap0, rfl⟩ := okWide_slice ht hv
  obtain ⟨fuel, hf⟩ := h
  rcases Deep.open_slice ht hf with ⟨hcs, _⟩ | ⟨a, len, cap, m, n, D, Pl, hcs, _, hlc, hcm, hm, hx, hel⟩
  · have e1 : Value.slice a0 len0 cap0 = .slice none 0 0 := by simpa [Value.cells] using hcs
    exact ⟨[], .inl ⟨rfl, e1⟩⟩
  · have e1 : Value.slice a0 len0 cap0 = .slice (some a) len cap := by simpa [Value.cells] using hcs
    rw [e1] at hv ⊢
    have hsp := slice_spot ht hv
    have hml : len ≤ m := by rw [hm]; split <;> omega
    have each : ∀ i, i < len → ∃ s : α, W.cells? 0 (a.add (i * c)) c = some (cells s) ∧ wf s := by
      intro i hi
      obtain ⟨cs, g1, g2⟩ := hel i (by omega)
      rw [hc] at g1
      obtain ⟨s, rfl, hw⟩ := hone cs _ _ _ (World.cells?_some g1).2.1 g2
      exact ⟨s, g1, hw⟩
    obtain ⟨S, hS⟩ := Deep.choose_lt (α := α) each
    obtain ⟨b, o, sp⟩ := a
    obtain rfl : sp = none := hsp
    refine ⟨(List.range len).map S, .inr ⟨b, o, cap, by simp, fun j s hj => ?_⟩⟩
    simp only [List.getElem?_map, Option.map_eq_some_iff] at hj
    obtain ⟨i, hi, rfl⟩ := hj
    obtain ⟨hjl, hij⟩ := List.getElem?_eq_some_iff.1 hi
    rw [List.getElem_range] at hij
    rw [List.length_range] at hjl
    subst hij
    obtain ⟨g1, g2⟩ := hS j hjl
    refine ⟨fun k u hk => ?_, g2⟩
    obtain ⟨_, gl, gc⟩ := World.cells?_some g1
    have hkc : k < c := by have := (List.getElem?_eq_some_iff.1 hk).1; rw [hlen] at this; exact this
    have := gc k hkc
    rw [hk, Addr.add_mid, Addr.add_mid] at this
    exact this
theorem range_flat {w : World} {b : Nat} : ∀ (l : List It) (o : Nat), (∀ (i : Nat) x, l[i]? = some x → w.rangeAt b (o + i * 2) (itC x.1 x.2).toList) → w.rangeAt b o (flat l)
  | [], o, _ => fun j v hj => by simp [flat] at hj
  | x :: l, o, h => fun j v hj => by
    have h0 := h 0 x rfl
    match j, hj with
    | 0, hj => exact h0 0 v hj
    | 1, hj => exact h0 1 v hj
    | j + 2, hj =>
      have := range_flat l (o + 2) (fun i y hy => by
        have := h (i + 1) y hy
        rwa [show o + (i + 1) * 2 = o + 2 + i * 2 by omega] at this) j v hj
      rwa [show o + 2 + j = o + (j + 2) by omega] at this
theorem item_one {H : Type} {enc : TypeId × Value → H} {W : World} {cs : List Value} {n : Nat} {D : DataW H} {Pl : List MemPlace} (hlen : cs.length = 2) (h : DataW.trod enc Try.prog W 0 (fun _ => true) true n 53 cs = some (D, Pl)) :
    ∃ x : It, cs = (itC x.1 x.2).toList ∧ x.1 < 18446744073709551616 := by
  obtain ⟨xs, m, _, _, _, hl, hf⟩ := DataW.trod_struct Try.underlying53 h
  have e1 : Try.prog.cellsOf 23 = 1 := by kernel_rfl
  have e2 : Try.prog.cellsOf 9 = 1 := by kernel_rfl
  have hl2 : xs.length = 2 := hl
  match cs, hlen, xs, hl2 with
  | [c0, c1], _, [y0, y1], _ =>
    have t0 : DataW.trod enc Try.prog W 0 (fun _ => true) true m 23 (List.take (Try.prog.cellsOf 23) [c0, c1]) = some y0 := hf 0 _ rfl
    have t1 : DataW.trod enc Try.prog W 0 (fun _ => true) true m 9 (List.take (Try.prog.cellsOf 9) [c1]) = some y1 := hf 1 _ rfl
    rw [e1] at t0
    rw [e2] at t1
    obtain ⟨n0, h0, _, w0⟩ := DataW.trod_int Try.underlying23 t0
    obtain ⟨s1, h1, _, _⟩ := DataW.trod_string Try.underlying9 t1
    obtain ⟨k, hk, rfl⟩ := wf_u64 w0
    simp only [List.take_succ_cons, List.take_zero, List.cons.injEq, and_true] at h0 h1
    subst h0 h1
    exact ⟨(k, s1), rfl, hk⟩
/-- items among the arguments -/
theorem open_items {H : Type} {enc : TypeId × Value → H} {W : World} {r : Reach} {base : Nat} {v : Value} {d : DataW H} {p : List MemPlace} (hv : Value.okWide Try.prog W r base 22 v)
    (h : DataW.Trod enc Try.prog W 0 (fun _ => true) true 22 v d p) : ∃ l : List It, Told W v l ∧ ∀ x ∈ l, x.1 < 18446744073709551616 := by
  haveI : Inhabited It := ⟨(0, ⟨#[]⟩)⟩
  obtain ⟨l, hl⟩ := open_row (α := It) 22 53 2 (fun x => (itC x.1 x.2).toList) (fun x => x.1 < 18446744073709551616) Try.underlying22 (by kernel_rfl) (fun cs n D Pl hlen h => item_one hlen h) (fun _ => rfl) hv h
  refine ⟨l, ?_⟩
  rcases hl with ⟨rfl, rfl⟩ | ⟨b, o, cap, rfl, hj⟩
  · exact ⟨⟨rfl, .inl ⟨rfl, rfl⟩⟩, by simp⟩
  · refine ⟨⟨flat_length l, .inr ⟨b, o, cap, rfl, range_flat l o fun i x hx => (hj i x hx).1⟩⟩, fun x hx => ?_⟩
    obtain ⟨i, hi, rfl⟩ := List.getElem_of_mem hx
    exact (hj i _ (List.getElem?_eq_getElem hi)).2

/-- one of a script -/
structure Stp where
  kind : Int
  key : Nat
  val : ByteArray
  hi : Nat
  most : Int
def stpC (s : Stp) : Array Value := #[.int .i64 s.kind, .int .u64 (s.key : Int), .string s.val, .int .u64 (s.hi : Int), .int .i64 s.most]
def Stp.wf (s : Stp) : Prop := s.key < 18446744073709551616 ∧ s.hi < 18446744073709551616 ∧ -9223372036854775808 ≤ s.most ∧ s.most ≤ 9223372036854775807
/-- v reads as the script l -/
def Scr (w : World) (v : Value) (l : List Stp) : Prop :=
  (l = [] ∧ v = .slice none 0 0) ∨ ∃ b o c, v = .slice (some ⟨b, o, none⟩) l.length c ∧ ∀ (j : Nat) s, l[j]? = some s → w.rangeAt b (o + j * 5) (stpC s).toList ∧ s.wf
end Go.Proofs.Ytkicndengkcojaa

/- The document's rows of layer 7 hold. -/
namespace Go.Proofs.Ytkicndengkcojaa
set_option maxRecDepth 100000
open Go Go.RowKit Go.Sort

theorem o_loadA {o : Oper} {a : Act} {w : World} {K : Act → World → Prop} {Q : Exit → Act → World → Prop} (x : Operand) (ho : o.op = .load 53 x)
    (g : Nat) (hx : a.eval x = .pointer (some ⟨g, 0, none⟩)) (k : Nat) (s : ByteArray) (hg : Blk w g (itC k s) 53) (h : K (a.put o.dst (.agg (itC k s))) w) : o.wp Try.prog a w K Q :=
  wp_load_row 53 x ho g hx 53 _ (0, 0) _ hg Try.underlying53 rfl sizeA h
/-- an item's own block, made and stored into -/
structure Made (w w' : World) (b k : Nat) (s : ByteArray) : Prop where
  bel : Below w.heap.size w w'
  blk : Blk w' b (itC k s) 53
theorem made (w : World) (k : Nat) (s : ByteArray) (cs : Array Value) : Made w ((w.alloc (.cells cs 53)).setRow w.heap.size (itC k s)) w.heap.size k s :=
  ⟨bel_setRow ((Below.refl _ _).alloc (Nat.le_refl _) _) (Nat.le_refl _) _, (Blk.new w cs 53).setRow _⟩
theorem Made.later {w w' w2 : World} {b k : Nat} {s : ByteArray} (h : Made w w' b k s) (hb : Below w'.heap.size w' w2) : Made w w2 b k s := ⟨h.bel.trans (hb.mono h.bel.size), h.blk.below hb h.blk.lt⟩
/-- a slice of one item, written out -/
theorem lit_one (w : World) (k : Nat) (s : ByteArray) : Told (w.alloc (.cells (itC k s) 53)) (.slice (some ⟨w.heap.size, 0, none⟩) 1 1) [(k, s)] := by
  refine ⟨rfl, .inr ⟨w.heap.size, 0, 1, rfl, fun j v hj => ?_⟩⟩
  rw [Nat.zero_add, (Blk.new w (itC k s) 53).cell j]
  rw [← hj]
  exact (Array.getElem?_toList ..).symm
abbrev bA : ByteArray := ⟨#[97]⟩
abbrev bB : ByteArray := ⟨#[98]⟩
abbrev bC : ByteArray := ⟨#[99]⟩
/-- of two rows that are told: are they the same? -/
theorem told_same {w : World} {u v : Value} {L K : List It} (hA : Told w u L) (hB : Told w v K) (hl : L.length ≤ 1000000) :
    Calls Try.prog 31 #[u, v] w fun e w' => e = .returned (.bool (decide (L = K))) ∧ Below w.heap.size w w' := same_any hA hB hl
theorem same8 {w : World} {u v : Value} (hA : Told w u [(5, bC)]) (hB : Told w v [(5, bC)]) : Calls Try.prog 31 #[u, v] w fun e w' => e = .returned (.bool true) ∧ Below w.heap.size w w' := by
  have := told_same hA hB (by decide)
  rwa [decide_eq_true rfl] at this

end Go.Proofs.Ytkicndengkcojaa

/- The document's map: Put and Drop. -/
namespace Go.Proofs.Ytkicndengkcojaa
set_option maxRecDepth 100000
open Go Go.RowKit Go.Sort

theorem hi_drop (L : List It) (k : Nat) : hiL (dropL L k) k = hiL L k := by
  unfold hiL dropL
  rw [List.filter_filter]
  congr 1
  funext x
  rw [Bool.eq_iff_iff]; simp; omega
theorem put_ref {L : List It} (h : Sorted L) (k : Nat) (s : ByteArray) {p : Nat} (hp : p ≤ (dropL L k).length) (h1 : ∀ j y, j < p → (dropL L k)[j]? = some y → y.1 < k) (h2 : ∀ y, (dropL L k)[p]? = some y → k ≤ y.1) :
    (dropL L k).take p ++ [(k, s)] ++ (dropL L k).drop p = putL L k s := by
  have hS := drop_sorted h k
  have hr : rankL (dropL L k) k = p := rank_of hp h1 fun j y hj hy => by
    rcases Nat.lt_or_ge p j with hpj | hpj
    · have hpl : p < (dropL L k).length := by have := (List.getElem?_eq_some_iff.1 hy).1; omega
      have hx : (dropL L k)[p]? = some (dropL L k)[p] := List.getElem?_eq_getElem hpl
      have := sorted_get hS hpj hx hy
      have := h2 _ hx
      omega
    · obtain rfl : j = p := by omega
      exact h2 y hy
  have hn : hasL (dropL L k) k = false := by simp [hasL, get_drop]
  rw [← hr, take_rank hS, drop_rank hS k hn, lo_drop, hi_drop, List.append_assoc]
  rfl
theorem own_form {w : World} {B e size n : Nat} {v : Value} {xs : List Value} (h : w.ownsRow B e size v n xs) : ∃ a c, v = .slice a n c := by
  rcases own_shape h with ⟨rfl, rfl⟩ | ⟨b, c, rfl, _⟩
  · exact ⟨_, _, rfl⟩
  · exact ⟨_, _, rfl⟩
/-- behind a change of the document's map in g -/
def RAfter (w w' : World) (g : Nat) (u : Value) (L : List It) : Prop := Rp w' g u L ∧ Chg w w' g (.slice none 0 0) ∧ ∀ f, u.ownBlock = some f → w.heap.size ≤ f
theorem ref_store {w w2 : World} {g : Nat} {v u : Value} {L K : List It} (h : Rp w g v L) (hb : Below w.heap.size w w2) {B n : Nat} (hB : w.heap.size ≤ B) (hO : w2.ownsRow B 53 2 u n (flat K)) (hS : Sorted K) (hl : K.length ≤ 1000000) (hk : ∀ x ∈ K, x.1 < 18446744073709551616) :
    RAfter w (w2.setCell ⟨g, 0, none⟩ u) g u K := by
  have hlt := Mp.lt h
  have hn : n = K.length := by have := hO.1; rw [flat_length] at this; omega
  subst hn
  have hge : ∀ f, u.ownBlock = some f → w.heap.size ≤ f := fun f hf => Nat.le_trans hB (hO.lt f hf).1
  have hne : u.ownBlock ≠ some g := fun e => by have := hge g e; omega
  have hO2 : w2.ownsRow 0 53 2 u K.length (flat K) := by
    refine ⟨hO.1, hO.2.imp id ?_⟩
    rintro ⟨b, c, cur, h1, _, h2⟩
    exact ⟨b, c, cur, h1, Nat.zero_le _, h2⟩
  exact ⟨⟨(h.blk.below hb hlt).put 0 u, own_keep hO2 fun f hf => Below.heap_setCell _ _ _ _ (by intro e; exact hne (by rw [hf]; simpa using e)), hne, hS, hl, hk⟩, (Chg.of hb g _).setCell 0 u, hge⟩
theorem refput_big (g k : Nat) (s : ByteArray) (hs : 64 < s.size) (w : World) : Calls Try.prog 59 #[.pointer (some ⟨g, 0, none⟩), .int .u64 (k : Int), .string s] w fun e w' => e = .returned (.tuple #[.string ⟨#[]⟩, .bool false, .int .i64 2]) ∧ w = w' := by
  have h1 : (64 : Int) < (s.size : Int) := by omega
  go_enter Try.func59, Try.ntmps59
  go_wp2
  go_ret3
  exact ⟨rfl, rfl⟩
set_option maxHeartbeats 4000000 in
theorem refput_any {w : World} {g : Nat} {v : Value} {L : List It} (h : Rp w g v L) (k : Nat) (s : ByteArray) (hs : s.size ≤ 64) (hl : L.length + 1 ≤ 1000000) (hk : k < 18446744073709551616) :
    Calls Try.prog 59 #[.pointer (some ⟨g, 0, none⟩), .int .u64 (k : Int), .string s] w fun e w' => e = .returned (.tuple #[.string (valL L k), .bool (hasL L k), .int .i64 0]) ∧ ∃ u, RAfter w w' g u (putL L k s) := by
  have h1 : ¬ (64 : Int) < (s.size : Int) := by omega
  have HG := Lib.hid (refget_any h k)
  have HW := Lib.hid (without_any h k)
  have hS := Mp.sorted h
  have hFin : ∀ w2 B n p u, Below w.heap.size w w2 → w.heap.size ≤ B → p ≤ (dropL L k).length → (∀ j y, j < p → (dropL L k)[j]? = some y → y.1 < k) → (∀ y, (dropL L k)[p]? = some y → k ≤ y.1) → w2.ownsRow B 53 2 u n (flat ((dropL L k).take p ++ [(k, s)] ++ (dropL L k).drop p)) → RAfter w (w2.setCell ⟨g, 0, none⟩ u) g u (putL L k s) := fun w2 B n p u hb hB hp q1 q2 hO => by
    rw [put_ref hS k s hp q1 q2] at hO
    exact ref_store h hb hB hO (put_sorted hS k s) (by have := put_len_le hS k s; omega) (put_bound (Mp.key h) hk)
  have hCell : ∀ w2, Below w.heap.size w w2 → w2.cell? ⟨g, 0, none⟩ = some v ∧ w2.frozen? ⟨g, 0, none⟩ = false := fun w2 hb => ⟨(Mp.bel h hb).cell, (Mp.bel h hb).blk.free 0⟩
  have hRl : (dropL L k).length ≤ L.length := drop_len_le L k
  have HFin := Lib.hid hFin
  have HCell := Lib.hid hCell
  obtain ⟨m, hm⟩ : ∃ m, m = (dropL L k).length := ⟨_, rfl⟩
  rw [← hm] at HW hRl
  have HMm := Lib.hid hm
  clear h hS hFin hCell hm
  generalize dropL L k = R at *
  generalize valL L k = s0 at *
  generalize hasL L k = b0 at *
  go_enter Try.func59, Try.ntmps59
  go_upto_region 4 with (go_at_call 97; (with_reducible refine HG.out.mono ?_); rintro e w1 ⟨rfl, rfl⟩)
  go_upto_region 5 with (go_at_call 98; (with_reducible refine HW.out.mono ?_); rintro e w1 ⟨u, rfl, hO, hB⟩)
  have HO := Lib.hid hO
  have HB := Lib.hid hB
  have hs1 := hB.size
  obtain ⟨ra, rc, rfl⟩ := own_form hO
  clear hO hB
  go_wp2
  go_loopw [12, 13] (fun o i wr => ∃ p : Nat, p ≤ m ∧ i = .int .i64 p ∧ wr.ownsRow w1.heap.size 53 2 o p (flat (R.take p)) ∧ Below w1.heap.size w1 wr ∧ ∀ j y, j < p → R[j]? = some y → y.1 < k) (fun _ i _ => m - (intOf i).toNat)
  case atStart => exact ⟨0, by omega, rfl, World.ownsRow_nil _ _ _ _, Below.refl _ _, fun j y hj => by omega⟩
  case round =>
    obtain ⟨p, hp, rfl, hO1, hB1, hlow⟩ := hrel
    have HO1 := Lib.hid hO1
    have HB1 := Lib.hid hB1
    have HLOW := Lib.hid hlow
    have HOr := Lib.hid (own_bel HO.out HB1.out)
    have HBw := Lib.hid (HB.out.trans (HB1.out.mono hs1))
    have hsr := HB1.out.size
    clear hO1 hB1 hlow
    by_cases hlt : p < m
    · obtain ⟨x, hx⟩ : ∃ x, R[p]? = some x := ⟨_, List.getElem?_eq_getElem (by have := HMm.out; omega)⟩
      obtain ⟨b, c', hv', hc1, hc2⟩ : ∃ b c', (Value.slice ra m rc) = .slice (some ⟨b, 0, none⟩) m c' ∧ wr.cell? ⟨b, p * 2, none⟩ = some (.int .u64 (x.1 : Int)) ∧ wr.cell? ⟨b, p * 2 + 1, none⟩ = some (.string x.2) := by
        rcases own_shape HOr.out with ⟨h0, h1⟩ | ⟨b, c', h0, _, _, hr, _⟩
        · omega
        · obtain ⟨e1, e2⟩ := row_at hr hx
          exact ⟨b, c', h0, e1, e2⟩
      simp only [Value.slice.injEq, true_and] at hv'
      obtain ⟨rfl, rfl⟩ := hv'
      have HX := Lib.hid hx
      clear hx
      by_cases hk2 : x.1 < k
      · have HK := Lib.hid hk2
        have hd : decide ((x.1 : Int) < (k : Int)) = true := by simp; omega
        have HTl : Hid (p = (R.take p).length) := by unfold Hid; rw [List.length_take, ← HMm.out]; omega
        clear hk2
        go_wp2_with (at_builtin; refine wpList_snocA rfl _ _ rfl w1.heap.size _ (R.take p) p rfl HO1.out HTl.out x.1 x.2 rfl (by omega) HB1.out hsr ?_; intro v' w' h1 h2 h3; have H1 := Lib.hid h1; have H2 := Lib.hid h2; clear h1 h2 h3)
        refine ⟨⟨p + 1, by omega, by go_num, ?_, H2.out, fun j y hj hy => ?_⟩, by simp [intOf]; omega⟩
        · obtain ⟨hpl, hxe⟩ := List.getElem?_eq_some_iff.1 HX.out
          have h1 := H1.out
          rw [show ((x.1, x.2) : It) = R[p] from hxe.symm, ← List.take_succ_eq_append_getElem hpl] at h1
          exact h1
        · rcases Nat.lt_or_ge j p with hj2 | hj2
          · exact HLOW.out j y hj2 hy
          · obtain rfl : j = p := by omega
            have := HX.out
            rw [hy] at this
            obtain rfl := Option.some.inj this
            exact HK.out
      · have HUP : Hid (∀ y, R[p]? = some y → k ≤ y.1) := fun y hy => by
          have := HX.out
          rw [hy] at this
          obtain rfl := Option.some.inj this
          omega
        have hd : decide ((x.1 : Int) < (k : Int)) = false := by simp; omega
        have HK := Lib.hid hk2
        clear hk2
        have HTl : Hid (p = (R.take p).length) := by unfold Hid; rw [List.length_take, ← HMm.out]; omega
        have HOs : Hid (∀ w' : World, Below w1.heap.size w1 w' → w'.ownsRow w.heap.size 53 2 (.slice (some ⟨b, 0, none⟩) m rc) m (flat R)) := fun w' hb => own_bel HO.out hb
        go_wp2_with (first
          | (at_builtin; refine wpList_snocA rfl _ _ rfl w1.heap.size _ (R.take p) p rfl HO1.out HTl.out k s rfl (by omega) HB1.out hsr ?_; intro v' w' h1 h2 h3; have H1 := Lib.hid h1; have H2 := Lib.hid h2; obtain ⟨oa, oc, rfl⟩ := own_form h1; have hs3 := h2.size; clear h1 h2 h3)
          | (refine wpList_from rfl 22 _ _ rfl 53 2 Try.underlying22 sizeA _ m p (flat R) w.heap.size rfl rfl hp (HOs.out _ H2.out) ?_; intro sv hsv; rw [flat_drop] at hsv; have HSV := Lib.hid hsv; clear hsv)
          | (at_builtin; refine wpList_joinA rfl _ _ rfl w1.heap.size _ (R.take p ++ [(k, s)]) (R.drop p) (p + 1) (m - p) rfl H1.out _ rfl HSV.out (by omega) H2.out hs3 ?_; intro v2 w2 h1 h2 h3; obtain ⟨oa2, oc2, rfl⟩ := own_form h1; have hbw := HB.out.trans (h2.mono hs1); obtain ⟨c0, f0⟩ := HCell.out w2 hbw; have HA := Lib.hid (HFin.out w2 _ _ p _ hbw hs1 (by rw [← HMm.out]; exact hp) HLOW.out HUP.out h1); clear h1 h2 h3 hbw))
        go_ret3
        exact ⟨rfl, _, HA.out⟩
    · obtain rfl : p = m := by omega
      have HUP : Hid (∀ y, R[p]? = some y → k ≤ y.1) := fun y hy => by
        have := (List.getElem?_eq_some_iff.1 hy).1
        have := HMm.out
        omega
      have HTl : Hid (p = (R.take p).length) := by unfold Hid; rw [List.length_take, ← HMm.out]; omega
      have HOs : Hid (∀ w' : World, Below w1.heap.size w1 w' → w'.ownsRow w.heap.size 53 2 (.slice ra p rc) p (flat R)) := fun w' hb => own_bel HO.out hb
      go_wp2_with (first
        | (at_builtin; refine wpList_snocA rfl _ _ rfl w1.heap.size _ (R.take p) p rfl HO1.out HTl.out k s rfl (by omega) HB1.out hsr ?_; intro v' w' h1 h2 h3; have H1 := Lib.hid h1; have H2 := Lib.hid h2; obtain ⟨oa, oc, rfl⟩ := own_form h1; have hs3 := h2.size; clear h1 h2 h3)
        | (refine wpList_from rfl 22 _ _ rfl 53 2 Try.underlying22 sizeA _ p p (flat R) w.heap.size rfl rfl hp (HOs.out _ H2.out) ?_; intro sv hsv; rw [flat_drop, Nat.sub_self] at hsv; have HSV := Lib.hid hsv; clear hsv)
        | (at_builtin; refine wpList_joinA rfl _ _ rfl w1.heap.size _ (R.take p ++ [(k, s)]) (R.drop p) (p + 1) 0 rfl H1.out _ rfl HSV.out (by omega) H2.out hs3 ?_; intro v2 w2 h1 h2 h3; rw [Nat.add_zero] at h1; obtain ⟨oa2, oc2, rfl⟩ := own_form h1; have hbw := HB.out.trans (h2.mono hs1); obtain ⟨c0, f0⟩ := HCell.out w2 hbw; have HA := Lib.hid (HFin.out w2 _ _ p _ hbw hs1 (by rw [← HMm.out]; exact hp) HLOW.out HUP.out h1); clear h1 h2 h3 hbw))
      go_ret3
      exact ⟨rfl, _, HA.out⟩
/-- Drop -/
theorem refdrop_any {w : World} {g : Nat} {v : Value} {L : List It} (h : Rp w g v L) (k : Nat) :
    Calls Try.prog 62 #[.pointer (some ⟨g, 0, none⟩), .int .u64 (k : Int)] w fun e w' => e = .returned (.tuple #[.string (valL L k), .bool (hasL L k)]) ∧ ∃ u, RAfter w w' g u (dropL L k) := by
  have HG := Lib.hid (refget_any h k)
  have HW := Lib.hid (without_any h k)
  have hFin : ∀ w2 u n, Below w.heap.size w w2 → w2.ownsRow w.heap.size 53 2 u n (flat (dropL L k)) → RAfter w (w2.setCell ⟨g, 0, none⟩ u) g u (dropL L k) ∧ w2.cell? ⟨g, 0, none⟩ = some v ∧ w2.frozen? ⟨g, 0, none⟩ = false := fun w2 u n hb hO =>
    ⟨ref_store h hb (Nat.le_refl _) hO (drop_sorted (Mp.sorted h) k) (by have := drop_len_le L k; have := Mp.len h; omega) (drop_bound (Mp.key h)), (Mp.bel h hb).cell, (Mp.bel h hb).blk.free 0⟩
  have HF := Lib.hid hFin
  clear h hFin
  generalize dropL L k = R at *
  generalize valL L k = s0 at *
  generalize hasL L k = b0 at *
  go_enter Try.func62, Try.ntmps62
  go_wp2_with (first
    | (go_at_call 97; (with_reducible refine HG.out.mono ?_); rintro e w1 ⟨rfl, rfl⟩)
    | (go_at_call 98; (with_reducible refine HW.out.mono ?_); rintro e w2 ⟨u, rfl, hO, hB⟩; obtain ⟨ua, uc, rfl⟩ := own_form hO; obtain ⟨hA, c0, f0⟩ := HF.out w2 _ _ hB hO; have HA := Lib.hid hA; clear hA hO hB))
  go_ret2
  exact ⟨rfl, _, HA.out⟩
end Go.Proofs.Ytkicndengkcojaa
