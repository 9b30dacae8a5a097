/- A map as a row of items that rise by their keys, in plain lists. Nothing of the program is named here. -/
import Derived.Test.YtbjlappppbaohaaBlk
namespace Go.Proofs.Ytbjlappppbaohaa
open Go.RowKit

/-- an item: a key, and its value -/
abbrev It : Type := Nat × ByteArray
/-- the cells of items, one behind the other -/
def flat : List It → List Value
  | [] => []
  | x :: L => .int .u64 (x.1 : Int) :: .string x.2 :: flat L
theorem flat_length (L : List It) : (flat L).length = L.length * 2 := by
  induction L with
  | nil => rfl
  | cons x L ih => simp [flat, ih]; omega
theorem flat_append (L K : List It) : flat (L ++ K) = flat L ++ flat K := by
  induction L with
  | nil => rfl
  | cons x L ih => simp [flat, ih]
theorem flat_take (L : List It) (i : Nat) : (flat L).take (i * 2) = flat (L.take i) := by
  induction L generalizing i with
  | nil => simp [flat]
  | cons x L ih =>
    cases i with
    | zero => simp [flat]
    | succ i => rw [show (i + 1) * 2 = i * 2 + 1 + 1 by omega]; simp [flat, ih]
theorem flat_drop (L : List It) (i : Nat) : (flat L).drop (i * 2) = flat (L.drop i) := by
  induction L generalizing i with
  | nil => simp [flat]
  | cons x L ih =>
    cases i with
    | zero => simp [flat]
    | succ i => rw [show (i + 1) * 2 = i * 2 + 1 + 1 by omega]; simp [flat, ih]
theorem flat_get {L : List It} {j : Nat} {x : It} (h : L[j]? = some x) : (flat L)[j * 2]? = some (.int .u64 (x.1 : Int)) ∧ (flat L)[j * 2 + 1]? = some (.string x.2) := by
  induction L generalizing j with
  | nil => simp at h
  | cons y L ih =>
    cases j with
    | zero => simp only [List.getElem?_cons_zero, Option.some.injEq] at h; subst h; exact ⟨rfl, rfl⟩
    | succ j => rw [show (j + 1) * 2 = j * 2 + 1 + 1 by omega]; simpa [flat] using ih (by simpa using h)
theorem flat_one (L : List It) : ∀ v ∈ flat L, v.oneCell' = true := by
  induction L with
  | nil => intro v hv; simp [flat] at hv
  | cons x L ih =>
    intro v hv
    simp only [flat, List.mem_cons] at hv
    rcases hv with rfl | rfl | hv
    · rfl
    · rfl
    · exact ih v hv
theorem flat_set {L : List It} {j : Nat} {x : It} (s : ByteArray) (h : L[j]? = some x) : (flat L).set (j * 2 + 1) (.string s) = flat (L.set j (x.1, s)) := by
  induction L generalizing j with
  | nil => simp at h
  | cons y L ih =>
    cases j with
    | zero => simp only [List.getElem?_cons_zero, Option.some.injEq] at h; subst h; rfl
    | succ j => rw [show (j + 1) * 2 + 1 = (j * 2 + 1) + 1 + 1 by omega]; simp [flat, ih (show L[j]? = some x by simpa using h)]
theorem flat_pair (x : It) : flat [x] = [.int .u64 (x.1 : Int), .string x.2] := rfl

/-- the keys rise -/
def Sorted (L : List It) : Prop := L.Pairwise fun a b => a.1 < b.1
def loL (L : List It) (k : Nat) : List It := L.filter fun x => decide (x.1 < k)
def hiL (L : List It) (k : Nat) : List It := L.filter fun x => decide (k < x.1)
/-- how many keys are less -/
def rankL (L : List It) (k : Nat) : Nat := (loL L k).length
def getL (L : List It) (k : Nat) : Option ByteArray := (L.find? fun x => decide (x.1 = k)).map (·.2)
def hasL (L : List It) (k : Nat) : Bool := (getL L k).isSome
def valL (L : List It) (k : Nat) : ByteArray := (getL L k).getD ⟨#[]⟩
def putL (L : List It) (k : Nat) (s : ByteArray) : List It := loL L k ++ (k, s) :: hiL L k
def dropL (L : List It) (k : Nat) : List It := L.filter fun x => decide (x.1 ≠ k)
def rangeL (L : List It) (lo hi : Nat) : List It := L.filter fun x => decide (lo ≤ x.1 ∧ x.1 ≤ hi)

theorem sorted_nil : Sorted [] := List.Pairwise.nil
theorem filter_all {L : List It} {p : It → Bool} (h : ∀ x ∈ L, p x = true) : L.filter p = L := List.filter_eq_self.2 h
theorem filter_none {L : List It} {p : It → Bool} (h : ∀ x ∈ L, p x = false) : L.filter p = [] := List.filter_eq_nil_iff.2 fun x hx => by simp [h x hx]
theorem cutL {L : List It} (h : Sorted L) (k : Nat) : (∃ s, getL L k = some s ∧ L = loL L k ++ (k, s) :: hiL L k) ∨ (getL L k = none ∧ L = loL L k ++ hiL L k) := by
  induction L with
  | nil => exact .inr ⟨rfl, rfl⟩
  | cons x L ih =>
    obtain ⟨h1, h2⟩ := List.pairwise_cons.1 h
    rcases Nat.lt_trichotomy x.1 k with hk | hk | hk
    · have e1 : loL (x :: L) k = x :: loL L k := by simp [loL, hk]
      have e2 : hiL (x :: L) k = hiL L k := by simp [hiL, show ¬ k < x.1 by omega]
      have e3 : getL (x :: L) k = getL L k := by simp [getL, show ¬ x.1 = k by omega]
      rw [e1, e2, e3]
      rcases ih h2 with ⟨s, a, b⟩ | ⟨a, b⟩
      · exact .inl ⟨s, a, by rw [List.cons_append, ← b]⟩
      · exact .inr ⟨a, by rw [List.cons_append, ← b]⟩
    · refine .inl ⟨x.2, by simp [getL, hk], ?_⟩
      have e1 : loL (x :: L) k = [] := filter_none fun y hy => by
        rcases List.mem_cons.1 hy with rfl | hy
        · simp; omega
        · have := h1 y hy; simp; omega
      have e2 : hiL (x :: L) k = L := by
        rw [hiL, List.filter_cons_of_neg (by simp; omega)]
        exact filter_all fun y hy => by have := h1 y hy; simp; omega
      rw [e1, e2, ← hk]
      rfl
    · refine .inr ⟨?_, ?_⟩
      · have : (x :: L).find? (fun y => decide (y.1 = k)) = none := List.find?_eq_none.2 fun y hy => by
          rcases List.mem_cons.1 hy with rfl | hy
          · simp; omega
          · have := h1 y hy; simp; omega
        simp [getL, this]
      · have e1 : loL (x :: L) k = [] := filter_none fun y hy => by
          rcases List.mem_cons.1 hy with rfl | hy
          · simp; omega
          · have := h1 y hy; simp; omega
        have e2 : hiL (x :: L) k = x :: L := filter_all fun y hy => by
          rcases List.mem_cons.1 hy with rfl | hy
          · simpa using hk
          · have := h1 y hy; simp; omega
        rw [e1, e2]
        rfl
theorem lo_lt {L : List It} {k : Nat} : ∀ x ∈ loL L k, x.1 < k := fun x hx => by simpa using (List.mem_filter.1 hx).2
theorem hi_gt {L : List It} {k : Nat} : ∀ x ∈ hiL L k, k < x.1 := fun x hx => by simpa using (List.mem_filter.1 hx).2
theorem sorted_filter {L : List It} (h : Sorted L) (p : It → Bool) : Sorted (L.filter p) := List.Pairwise.filter p h
theorem put_sorted {L : List It} (h : Sorted L) (k : Nat) (s : ByteArray) : Sorted (putL L k s) := by
  refine List.pairwise_append.2 ⟨sorted_filter h _, List.pairwise_cons.2 ⟨fun y hy => hi_gt y hy, sorted_filter h _⟩, fun a ha b hb => ?_⟩
  have := lo_lt a ha
  rcases List.mem_cons.1 hb with rfl | hb
  · exact this
  · have := hi_gt b hb; omega
theorem drop_sorted {L : List It} (h : Sorted L) (k : Nat) : Sorted (dropL L k) := sorted_filter h _
theorem lo_append (L K : List It) (k : Nat) : loL (L ++ K) k = loL L k ++ loL K k := List.filter_append ..
theorem hi_append (L K : List It) (k : Nat) : hiL (L ++ K) k = hiL L k ++ hiL K k := List.filter_append ..
theorem drop_append (L K : List It) (k : Nat) : dropL (L ++ K) k = dropL L k ++ dropL K k := List.filter_append ..
theorem dropL_eq {L : List It} (h : Sorted L) (k : Nat) : dropL L k = loL L k ++ hiL L k := by
  have e1 : dropL (loL L k) k = loL L k := filter_all fun x hx => by have := lo_lt x hx; simp; omega
  have e2 : dropL (hiL L k) k = hiL L k := filter_all fun x hx => by have := hi_gt x hx; simp; omega
  rcases cutL h k with ⟨s, _, b⟩ | ⟨_, b⟩
  · conv => lhs; rw [b]
    rw [drop_append, e1, dropL, List.filter_cons_of_neg (by simp), ← dropL, e2]
  · conv => lhs; rw [b]
    rw [drop_append, e1, e2]
theorem rank_le (L : List It) (k : Nat) : rankL L k ≤ L.length := List.length_filter_le ..
theorem take_rank {L : List It} (h : Sorted L) (k : Nat) : L.take (rankL L k) = loL L k := by
  rcases cutL h k with ⟨s, _, b⟩ | ⟨_, b⟩
  · conv => lhs; arg 2; rw [b]
    rw [rankL, List.take_left]
  · conv => lhs; arg 2; rw [b]
    rw [rankL, List.take_left]
theorem at_rank {L : List It} (h : Sorted L) {k : Nat} (hh : hasL L k = true) : L[rankL L k]? = some (k, valL L k) := by
  rcases cutL h k with ⟨s, a, b⟩ | ⟨a, _⟩
  · have e : valL L k = s := by simp [valL, a]
    rw [e]
    conv => lhs; arg 1; rw [b]
    rw [rankL, List.getElem?_append_right (Nat.le_refl _)]
    simp
  · simp [hasL, a] at hh
theorem rank_lt {L : List It} (h : Sorted L) {k : Nat} (hh : hasL L k = true) : rankL L k < L.length := (List.getElem?_eq_some_iff.1 (at_rank h hh)).1
theorem drop_rank {L : List It} (h : Sorted L) (k : Nat) (hh : hasL L k = false) : L.drop (rankL L k) = hiL L k := by
  rcases cutL h k with ⟨s, a, b⟩ | ⟨a, b⟩
  · simp [hasL, a] at hh
  · conv => lhs; arg 2; rw [b]
    rw [rankL, List.drop_left]
theorem drop_rank1 {L : List It} (h : Sorted L) (k : Nat) (hh : hasL L k = true) : L.drop (rankL L k + 1) = hiL L k := by
  rcases cutL h k with ⟨s, a, b⟩ | ⟨a, b⟩
  · have : L.drop (rankL L k) = (k, s) :: hiL L k := by
      conv => lhs; arg 2; rw [b]
      rw [rankL, List.drop_left]
    have h2 : L.drop (rankL L k + 1) = (L.drop (rankL L k)).drop 1 := by rw [List.drop_drop]
    rw [h2, this]
    rfl
  · simp [hasL, a] at hh
theorem put_new {L : List It} (h : Sorted L) (k : Nat) (s : ByteArray) (hh : hasL L k = false) : L.take (rankL L k) ++ (k, s) :: L.drop (rankL L k) = putL L k s := by
  rw [take_rank h, drop_rank h k hh]; rfl
theorem put_old {L : List It} (h : Sorted L) (k : Nat) (s : ByteArray) (hh : hasL L k = true) : L.set (rankL L k) (k, s) = putL L k s := by
  rw [List.set_eq_take_append_cons_drop, if_pos (rank_lt h hh), take_rank h, drop_rank1 h k hh]; rfl
theorem drop_old {L : List It} (h : Sorted L) (k : Nat) (hh : hasL L k = true) : L.take (rankL L k) ++ L.drop (rankL L k + 1) = dropL L k := by
  rw [take_rank h, drop_rank1 h k hh, dropL_eq h]
theorem drop_no {L : List It} (h : Sorted L) (k : Nat) (hh : hasL L k = false) : dropL L k = L := by
  rw [dropL_eq h]
  rcases cutL h k with ⟨s, a, b⟩ | ⟨a, b⟩
  · simp [hasL, a] at hh
  · exact b.symm
theorem val_no {L : List It} {k : Nat} (hh : hasL L k = false) : valL L k = ⟨#[]⟩ := by
  cases e : getL L k with
  | none => simp [valL, e]
  | some s => simp [hasL, e] at hh
/-- the rank is told by what is below, and what is not -/
theorem rank_of {L : List It} {k r : Nat} (hr : r ≤ L.length) (h1 : ∀ j x, j < r → L[j]? = some x → x.1 < k) (h2 : ∀ j x, r ≤ j → L[j]? = some x → k ≤ x.1) : rankL L k = r := by
  have e : L = L.take r ++ L.drop r := (List.take_append_drop r L).symm
  rw [rankL, e, lo_append]
  have e1 : loL (L.take r) k = L.take r := filter_all fun x hx => by
    obtain ⟨j, hj, rfl⟩ := List.getElem_of_mem hx
    rw [List.length_take] at hj
    have := h1 j _ (by omega) (List.getElem?_eq_getElem (show j < L.length by omega))
    simpa using this
  have e2 : loL (L.drop r) k = [] := filter_none fun x hx => by
    obtain ⟨j, hj, rfl⟩ := List.getElem_of_mem hx
    rw [List.length_drop] at hj
    have := h2 (r + j) _ (by omega) (List.getElem?_eq_getElem (show r + j < L.length by omega))
    simp; omega
  rw [e1, e2, List.append_nil, List.length_take]
  omega
theorem sorted_get {L : List It} (h : Sorted L) {i j : Nat} {x y : It} (hij : i < j) (hi : L[i]? = some x) (hj : L[j]? = some y) : x.1 < y.1 := by
  obtain ⟨hi', rfl⟩ := List.getElem?_eq_some_iff.1 hi
  obtain ⟨hj', rfl⟩ := List.getElem?_eq_some_iff.1 hj
  exact List.pairwise_iff_getElem.1 h i j hi' hj' hij
theorem has_iff {L : List It} (h : Sorted L) (k : Nat) : hasL L k = true ↔ ∃ x, L[rankL L k]? = some x ∧ x.1 = k := by
  constructor
  · intro hh; exact ⟨_, at_rank h hh, rfl⟩
  · rintro ⟨x, hx, hk⟩
    cases hc : hasL L k with
    | true => rfl
    | false =>
      have hd := drop_rank h k hc
      have : x ∈ hiL L k := by
        rw [← hd]
        refine List.mem_of_getElem? (i := 0) ?_
        rw [List.getElem?_drop]; simpa using hx
      have := hi_gt x this
      omega
theorem at_rank_ge {L : List It} (h : Sorted L) {k : Nat} {x : It} (hx : L[rankL L k]? = some x) : k ≤ x.1 := by
  cases hc : hasL L k with
  | true => rw [at_rank h hc] at hx; cases hx; exact Nat.le_refl _
  | false =>
    have hd := drop_rank h k hc
    have : x ∈ hiL L k := by
      rw [← hd]
      refine List.mem_of_getElem? (i := 0) ?_
      rw [List.getElem?_drop]; simpa using hx
    have := hi_gt x this
    omega

/-! what holds of a map that was put to, or dropped from -/
theorem get_append (L K : List It) (k : Nat) : getL (L ++ K) k = (getL L k).or (getL K k) := by
  unfold getL
  rw [List.find?_append]
  cases L.find? (fun x => decide (x.1 = k)) <;> simp
theorem get_none {L : List It} {k : Nat} (h : ∀ x ∈ L, x.1 ≠ k) : getL L k = none := by
  unfold getL
  rw [List.find?_eq_none.2 fun x hx => by simpa using h x hx]; rfl
theorem get_put (L : List It) (k : Nat) (s : ByteArray) : getL (putL L k s) k = some s := by
  rw [putL, get_append, get_none fun x hx => by have := lo_lt x hx; omega]
  simp [getL]
theorem get_put_other {L : List It} (h : Sorted L) (k j : Nat) (s : ByteArray) (hj : j ≠ k) : getL (putL L k s) j = getL L j := by
  have h1 : getL ((k, s) :: hiL L k) j = getL (hiL L k) j := by simp [getL, show ¬ k = j by omega]
  rw [putL, get_append, h1, ← get_append]
  rcases cutL h k with ⟨t, a, b⟩ | ⟨a, b⟩
  · conv => rhs; rw [b]
    have h2 : getL ((k, t) :: hiL L k) j = getL (hiL L k) j := by simp [getL, show ¬ k = j by omega]
    rw [get_append, get_append, h2]
  · conv => rhs; rw [b]
theorem get_drop {L : List It} (k : Nat) : getL (dropL L k) k = none := get_none fun x hx => by simpa using (List.mem_filter.1 hx).2
theorem lo_put (L : List It) (k : Nat) (s : ByteArray) : loL (putL L k s) k = loL L k := by
  rw [putL, lo_append]
  have e1 : loL (loL L k) k = loL L k := filter_all fun x hx => by simpa using lo_lt x hx
  have e2 : loL ((k, s) :: hiL L k) k = [] := filter_none fun x hx => by
    rcases List.mem_cons.1 hx with rfl | hx
    · simp
    · have := hi_gt x hx; simp; omega
  rw [e1, e2, List.append_nil]
theorem lo_drop (L : List It) (k : Nat) : loL (dropL L k) k = loL L k := by
  unfold loL dropL
  rw [List.filter_filter]
  congr 1
  funext x
  rw [Bool.eq_iff_iff]; simp; omega
theorem put_length {L : List It} (h : Sorted L) (k : Nat) (s : ByteArray) : (putL L k s).length = if hasL L k then L.length else L.length + 1 := by
  rcases cutL h k with ⟨t, a, b⟩ | ⟨a, b⟩
  · rw [if_pos (by simp [hasL, a])]
    conv => rhs; rw [b]
    simp [putL]
  · rw [if_neg (by simp [hasL, a])]
    conv => rhs; rw [b]
    simp [putL]; omega
theorem drop_length {L : List It} (h : Sorted L) (k : Nat) (hh : hasL L k = true) : (dropL L k).length + 1 = L.length := by
  rw [dropL_eq h]
  rcases cutL h k with ⟨t, a, b⟩ | ⟨a, b⟩
  · conv => rhs; rw [b]
    simp; omega
  · simp [hasL, a] at hh
theorem put_len_le {L : List It} (h : Sorted L) (k : Nat) (s : ByteArray) : (putL L k s).length ≤ L.length + 1 := by rw [put_length h]; split <;> omega
theorem drop_len_le (L : List It) (k : Nat) : (dropL L k).length ≤ L.length := List.length_filter_le ..
/-- how many keys are not above -/
def uptoL (L : List It) (k : Nat) : Nat := rankL L k + if hasL L k then 1 else 0
theorem range_cut {L : List It} (h : Sorted L) (lo hi : Nat) (hlh : lo ≤ hi) : (L.drop (rankL L lo)).take (uptoL L hi - rankL L lo) = rangeL L lo hi ∧ rankL L lo ≤ uptoL L hi ∧ uptoL L hi ≤ L.length := by
  have hT : L.take (uptoL L hi) = L.filter (fun x => decide (x.1 ≤ hi)) ∧ uptoL L hi ≤ L.length := by
    have e1 : (loL L hi).filter (fun x => decide (x.1 ≤ hi)) = loL L hi := filter_all fun x hx => by have := lo_lt x hx; simp; omega
    have e2 : (hiL L hi).filter (fun x => decide (x.1 ≤ hi)) = [] := filter_none fun x hx => by have := hi_gt x hx; simp; omega
    rcases cutL h hi with ⟨s, a, b⟩ | ⟨a, b⟩
    · have hu : uptoL L hi = (loL L hi ++ [(hi, s)]).length := by simp [uptoL, hasL, a, rankL]
      have hb2 : L = (loL L hi ++ [(hi, s)]) ++ hiL L hi := by rw [List.append_assoc]; exact b
      refine ⟨?_, by rw [hu]; conv => rhs; rw [hb2]
                     rw [List.length_append (bs := hiL L hi)]; omega⟩
      conv => lhs; arg 2; rw [hb2]
      rw [hu, List.take_left]
      conv => rhs; rw [hb2]
      rw [List.filter_append, List.filter_append, e1, e2]
      simp
    · have hu : uptoL L hi = (loL L hi).length := by simp [uptoL, hasL, a, rankL]
      refine ⟨?_, by rw [hu]; exact rank_le L hi⟩
      conv => lhs; arg 2; rw [b]
      rw [hu, List.take_left]
      conv => rhs; rw [b]
      rw [List.filter_append, e1, e2]
      simp
  obtain ⟨hT, hle⟩ := hT
  have hS := sorted_filter h (fun x => decide (x.1 ≤ hi))
  have hlo : loL (L.filter fun x => decide (x.1 ≤ hi)) lo = loL L lo := by
    unfold loL
    rw [List.filter_filter]
    congr 1
    funext x
    rw [Bool.eq_iff_iff]; simp; omega
  have hrk : rankL (L.filter fun x => decide (x.1 ≤ hi)) lo = rankL L lo := by rw [rankL, hlo, rankL]
  have hge : rankL L lo ≤ uptoL L hi := by
    have h1 := rank_le (L.filter fun x => decide (x.1 ≤ hi)) lo
    rw [hrk, ← hT, List.length_take] at h1
    omega
  refine ⟨?_, hge, hle⟩
  rw [← List.drop_take, hT, ← hrk]
  have hd : ∀ (K : List It), Sorted K → K.drop (rankL K lo) = K.filter fun x => decide (lo ≤ x.1) := by
    intro K hK
    have e1 : (loL K lo).filter (fun x => decide (lo ≤ x.1)) = [] := filter_none fun x hx => by have := lo_lt x hx; simp; omega
    have e2 : (hiL K lo).filter (fun x => decide (lo ≤ x.1)) = hiL K lo := filter_all fun x hx => by have := hi_gt x hx; simp; omega
    rcases cutL hK lo with ⟨s, a, b⟩ | ⟨a, b⟩
    · conv => lhs; arg 2; rw [b]
      rw [rankL, List.drop_left]
      conv => rhs; rw [b]
      rw [List.filter_append, e1, List.nil_append, List.filter_cons_of_pos (by simp), e2]
    · conv => lhs; arg 2; rw [b]
      rw [rankL, List.drop_left]
      conv => rhs; rw [b]
      rw [List.filter_append, e1, e2]; simp
  rw [hd _ hS, List.filter_filter]
  unfold rangeL
  congr 1
  funext x
  rw [Bool.eq_iff_iff]; simp
theorem range_sorted {L : List It} (h : Sorted L) (lo hi : Nat) : Sorted (rangeL L lo hi) := sorted_filter h _
theorem range_len (L : List It) (lo hi : Nat) : (rangeL L lo hi).length ≤ L.length := List.length_filter_le ..
theorem range_in {L : List It} {lo hi : Nat} {x : It} (h : x ∈ rangeL L lo hi) : lo ≤ x.1 ∧ x.1 ≤ hi := by simpa using (List.mem_filter.1 h).2
theorem range_all {L : List It} {hi : Nat} (h : ∀ x ∈ L, x.1 ≤ hi) : rangeL L 0 hi = L := filter_all fun x hx => by simpa using h x hx
theorem range_split {L : List It} (h : Sorted L) (lo mid hi : Nat) (h1 : lo ≤ mid) (h2 : mid < hi) : rangeL L lo mid ++ rangeL L (mid + 1) hi = rangeL L lo hi := by
  induction L with
  | nil => rfl
  | cons x L ih =>
    obtain ⟨hx, hL⟩ := List.pairwise_cons.1 h
    have ih := ih hL
    unfold rangeL at *
    by_cases c1 : lo ≤ x.1 ∧ x.1 ≤ mid
    · rw [List.filter_cons_of_pos (by simpa using c1), List.filter_cons_of_neg (by simp; omega), List.filter_cons_of_pos (by simp; omega), List.cons_append, ih]
    · by_cases c2 : mid + 1 ≤ x.1 ∧ x.1 ≤ hi
      · have e : L.filter (fun x => decide (lo ≤ x.1 ∧ x.1 ≤ mid)) = [] := filter_none fun y hy => by have := hx y hy; simp; omega
        rw [List.filter_cons_of_neg (by simpa using c1), List.filter_cons_of_pos (by simpa using c2), List.filter_cons_of_pos (by simp; omega), e]
        rw [e] at ih
        rw [← ih]
        rfl
      · rw [List.filter_cons_of_neg (by simpa using c1), List.filter_cons_of_neg (by simpa using c2), List.filter_cons_of_neg (by simp; omega), ih]
theorem range_count {L : List It} (lo hi : Nat) (h : lo ≤ hi) : (rangeL L lo hi).length + rankL L lo = rankL L (hi + 1) := by
  induction L with
  | nil => rfl
  | cons x L ih =>
    unfold rangeL rankL loL at *
    by_cases c1 : x.1 < lo
    · rw [List.filter_cons_of_neg (by simp; omega), List.filter_cons_of_pos (by simpa using c1), List.filter_cons_of_pos (by simp; omega), List.length_cons, List.length_cons]; omega
    · by_cases c2 : x.1 ≤ hi
      · rw [List.filter_cons_of_pos (by simp; omega), List.filter_cons_of_neg (by simpa using c1), List.filter_cons_of_pos (by simp; omega), List.length_cons, List.length_cons]; omega
      · rw [List.filter_cons_of_neg (by simp; omega), List.filter_cons_of_neg (by simpa using c1), List.filter_cons_of_neg (by simp; omega)]; omega
/-- one item is put, if its value is not too long -/
def addL (L : List It) (x : It) : List It := if x.2.size ≤ 64 then putL L x.1 x.2 else L
/-- items are put, one behind the other -/
def fillL (l : List It) : List It := l.foldl addL []
theorem add_sorted {L : List It} (h : Sorted L) (x : It) : Sorted (addL L x) := by unfold addL; split; exact put_sorted h _ _; exact h
theorem add_len {L : List It} (h : Sorted L) (x : It) : (addL L x).length ≤ L.length + 1 := by unfold addL; split; exact put_len_le h _ _; omega
theorem put_bound {L : List It} {B k : Nat} {s : ByteArray} (h : ∀ x ∈ L, x.1 < B) (hk : k < B) : ∀ x ∈ putL L k s, x.1 < B := by
  intro x hx
  rcases List.mem_append.1 hx with hx | hx
  · exact h x (List.mem_filter.1 hx).1
  · rcases List.mem_cons.1 hx with rfl | hx
    · exact hk
    · exact h x (List.mem_filter.1 hx).1
theorem drop_bound {L : List It} {B k : Nat} (h : ∀ x ∈ L, x.1 < B) : ∀ x ∈ dropL L k, x.1 < B := fun x hx => h x (List.mem_filter.1 hx).1
theorem add_bound {L : List It} {B : Nat} {y : It} (h : ∀ x ∈ L, x.1 < B) (hk : y.1 < B) : ∀ x ∈ addL L y, x.1 < B := by unfold addL; split; exact put_bound h hk; exact h
theorem fill_succ (l : List It) (k : Nat) (x : It) (h : l[k]? = some x) : fillL (l.take (k + 1)) = addL (fillL (l.take k)) x := by
  obtain ⟨hk, rfl⟩ := List.getElem?_eq_some_iff.1 h
  unfold fillL
  rw [List.take_succ_eq_append_getElem hk, List.foldl_append]
  rfl
theorem fill_ok (l : List It) (B : Nat) (hB : ∀ x ∈ l, x.1 < B) : ∀ k, k ≤ l.length → Sorted (fillL (l.take k)) ∧ (fillL (l.take k)).length ≤ k ∧ ∀ x ∈ fillL (l.take k), x.1 < B := by
  intro k
  induction k with
  | zero => intro _; exact ⟨sorted_nil, by simp [fillL], fun x hx => by simp [fillL] at hx⟩
  | succ k ih =>
    intro hk
    obtain ⟨a, b, c⟩ := ih (by omega)
    have hx : l[k]? = some l[k] := List.getElem?_eq_getElem (by omega)
    rw [fill_succ l k _ hx]
    exact ⟨add_sorted a _, by have := add_len a l[k]; omega, add_bound c (hB _ (List.getElem_mem _))⟩
end Go.Proofs.Ytbjlappppbaohaa
