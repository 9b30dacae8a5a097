/- Peers as lists: circles, owners, what is put in between. Nothing of the program is named here but places. -/
import Derived.Test.YtplcdjmidelboaaIdOps
namespace Go.Proofs.Ytplcdjmidelboaa
set_option maxRecDepth 100000
open Go.RowKit

/-- a peer: its address, and its place -/
abbrev Pe : Type := Int × Nat
/-- a peer's cells -/
def peC (x : Pe) : List Value := .int .i64 x.1 :: (row (dig 20 x.2)).toList
theorem peC_length (x : Pe) : (peC x).length = 21 := by
  unfold peC
  rw [List.length_cons, Array.length_toList, row_size, dig_length]
def flat : List Pe → List Value
  | [] => []
  | x :: L => peC x ++ flat L
theorem flat_length (L : List Pe) : (flat L).length = L.length * 21 := by
  induction L with
  | nil => rfl
  | cons x L ih => rw [flat, List.length_append, ih, peC_length, List.length_cons]; omega
theorem flat_append (L K : List Pe) : flat (L ++ K) = flat L ++ flat K := by
  induction L with
  | nil => rfl
  | cons x L ih => rw [List.cons_append, flat, flat, ih, List.append_assoc]
theorem flat_single (x : Pe) : flat [x] = peC x := List.append_nil _
theorem flat_take (L : List Pe) (i : Nat) : (flat L).take (i * 21) = flat (L.take i) := by
  induction L generalizing i with
  | nil => simp [flat]
  | cons x L ih =>
    cases i with
    | zero => simp [flat]
    | succ i =>
      rw [flat, List.take_append, peC_length, show (i + 1) * 21 - 21 = i * 21 by omega, ih, List.take_of_length_le (by rw [peC_length]; omega), List.take_succ_cons, flat]
theorem flat_drop (L : List Pe) (i : Nat) : (flat L).drop (i * 21) = flat (L.drop i) := by
  induction L generalizing i with
  | nil => simp [flat]
  | cons x L ih =>
    cases i with
    | zero => simp [flat]
    | succ i =>
      rw [flat, List.drop_append, peC_length, show (i + 1) * 21 - 21 = i * 21 by omega, ih, List.drop_eq_nil_of_le (by rw [peC_length]; omega), List.nil_append, List.drop_succ_cons]
theorem flat_get {L : List Pe} {j : Nat} {x : Pe} (h : L[j]? = some x) (k : Nat) (hk : k < 21) : (flat L)[j * 21 + k]? = (peC x)[k]? := by
  induction L generalizing j with
  | nil => simp at h
  | cons y L ih =>
    cases j with
    | zero =>
      simp only [List.getElem?_cons_zero, Option.some.injEq] at h
      subst h
      rw [flat, Nat.zero_mul, Nat.zero_add, List.getElem?_append_left (by rw [peC_length]; exact hk)]
    | succ j =>
      rw [flat, List.getElem?_append_right (by rw [peC_length]; omega), peC_length, show (j + 1) * 21 + k - 21 = j * 21 + k by omega]
      exact ih (by simpa using h)
theorem peC_one (x : Pe) : ∀ v ∈ peC x, v.oneCell' = true := by
  intro v hv
  simp only [peC, row, List.mem_cons, List.mem_map, List.toList_toArray] at hv
  rcases hv with rfl | ⟨n, _, rfl⟩
  · rfl
  · rfl
theorem flat_one (L : List Pe) : ∀ v ∈ flat L, v.oneCell' = true := by
  induction L with
  | nil => intro v hv; simp [flat] at hv
  | cons x L ih =>
    intro v hv
    rw [flat, List.mem_append] at hv
    rcases hv with hv | hv
    · exact peC_one x v hv
    · exact ih v hv

/-! circles -/
def ad (L : List Pe) (i : Nat) : Int := (L.getD i (0, 0)).1
def pn (L : List Pe) (i : Nat) : Nat := (L.getD i (0, 0)).2
theorem at_get {L : List Pe} {i : Nat} (h : i < L.length) : L[i]? = some (ad L i, pn L i) := by
  unfold ad pn
  rw [List.getElem?_eq_getElem h, List.getD_eq_getElem?_getD, List.getElem?_eq_getElem h]
  rfl
theorem ad_of {L : List Pe} {i : Nat} {x : Pe} (h : L[i]? = some x) : ad L i = x.1 := by unfold ad; rw [List.getD_eq_getElem?_getD, h]; rfl
theorem pn_of {L : List Pe} {i : Nat} {x : Pe} (h : L[i]? = some x) : pn L i = x.2 := by unfold pn; rw [List.getD_eq_getElem?_getD, h]; rfl
/-- all places are places -/
def Wf (L : List Pe) : Prop := ∀ x ∈ L, x.2 < M
theorem Wf.pn {L : List Pe} (h : Wf L) (i : Nat) : pn L i < M := by
  by_cases hi : i < L.length
  · have := at_get hi
    exact h _ (List.mem_of_getElem? this)
  · unfold Go.Proofs.Ytplcdjmidelboaa.pn
    rw [List.getD_eq_getElem?_getD, List.getElem?_eq_none (by omega)]
    exact M_pos
theorem eqB_lt {a b : Nat} (ha : a < M) (hb : b < M) : eqB a b = decide (a = b) := by unfold eqB; rw [Nat.mod_eq_of_lt ha, Nat.mod_eq_of_lt hb]
end Go.Proofs.Ytplcdjmidelboaa
