/- A bag as a row of places, some of which hold a message: in plain lists. Nothing of the program is named here. -/
import Derived.Test.YtbjjbcjapkmnfaaBlk
namespace Go.Proofs.Ytbjjbcjapkmnfaa
open Go.RowKit

/-- a message -/
structure Ml where
  fr : Int
  to : Int
  bd : ByteArray

/-- its numbers fit -/
def Ml.fit (m : Ml) : Prop := (Lit.int .i64 m.fr).wf = true ∧ (Lit.int .i64 m.to).wf = true

/-- the messages that stand, in order -/
def msgs (L : List (Option Ml)) : List Ml := L.filterMap id
theorem msgs_append (L K : List (Option Ml)) : msgs (L ++ K) = msgs L ++ msgs K := by simp [msgs]
theorem msgs_le (L : List (Option Ml)) : (msgs L).length ≤ L.length := List.length_filterMap_le ..
theorem msgs_some (K : List Ml) : msgs (K.map some) = K := by simp [msgs]
/-- how many stand ahead of a number -/
def cnt (L : List (Option Ml)) (n : Nat) : Nat := (msgs (L.take n)).length
theorem cnt_zero (L : List (Option Ml)) : cnt L 0 = 0 := rfl
theorem cnt_all (L : List (Option Ml)) : cnt L L.length = (msgs L).length := by rw [cnt, List.take_length]
theorem cnt_yes {L : List (Option Ml)} {n : Nat} {m : Ml} (h : L[n]? = some (some m)) : cnt L (n + 1) = cnt L n + 1 := by
  obtain ⟨hn, hx⟩ := List.getElem?_eq_some_iff.1 h
  rw [cnt, List.take_succ_eq_append_getElem hn, msgs_append, hx]
  simp [cnt, msgs]
theorem cnt_no {L : List (Option Ml)} {n : Nat} (h : L[n]? = some none) : cnt L (n + 1) = cnt L n := by
  obtain ⟨hn, hx⟩ := List.getElem?_eq_some_iff.1 h
  rw [cnt, List.take_succ_eq_append_getElem hn, msgs_append, hx]
  simp [cnt, msgs]
theorem cnt_mono (L : List (Option Ml)) {i j : Nat} (h : i ≤ j) : cnt L i ≤ cnt L j := by
  obtain ⟨d, rfl⟩ := Nat.exists_eq_add_of_le h
  rw [cnt, cnt, List.take_add, msgs_append, List.length_append]
  omega
theorem cnt_le (L : List (Option Ml)) (n : Nat) : cnt L n ≤ n := by
  rw [cnt]
  have h1 := msgs_le (L.take n)
  rw [List.length_take] at h1
  omega
theorem cnt_lt {L : List (Option Ml)} {n : Nat} {m : Ml} (h : L[n]? = some (some m)) : cnt L n < (msgs L).length := by
  obtain ⟨hn, _⟩ := List.getElem?_eq_some_iff.1 h
  have h1 := cnt_yes h
  have h2 := cnt_mono L (i := n + 1) (j := L.length) (by omega)
  rw [cnt_all] at h2
  omega
/-- the message at a number is the one at its place -/
theorem cnt_msg {L : List (Option Ml)} {n : Nat} {m : Ml} (h : L[n]? = some (some m)) : (msgs L)[cnt L n]? = some m := by
  obtain ⟨hn, hx⟩ := List.getElem?_eq_some_iff.1 h
  have e : msgs L = msgs (L.take n) ++ m :: msgs (L.drop (n + 1)) := by
    have e1 : L = L.take n ++ L[n] :: L.drop (n + 1) := by rw [← List.drop_eq_getElem_cons hn, List.take_append_drop]
    rw [show msgs L = msgs (L.take n ++ L[n] :: L.drop (n + 1)) from congrArg msgs e1, msgs_append, hx]
    simp [msgs]
  rw [e, cnt, List.getElem?_append_right (Nat.le_refl _), Nat.sub_self, List.getElem?_cons_zero]
/-- each place has a number -/
theorem num_of {L : List (Option Ml)} {i : Nat} (h : i < (msgs L).length) : ∃ n m, L[n]? = some (some m) ∧ cnt L n = i ∧ n < L.length := by
  induction L generalizing i with
  | nil => simp [msgs] at h
  | cons o L ih =>
    cases o with
    | none =>
      obtain ⟨n, m, h1, h2, h3⟩ := ih (i := i) (by simpa [msgs] using h)
      exact ⟨n + 1, m, by simpa using h1, by simpa [cnt, msgs] using h2, by simp; omega⟩
    | some x =>
      cases i with
      | zero => exact ⟨0, x, rfl, rfl, by simp⟩
      | succ i =>
        obtain ⟨n, m, h1, h2, h3⟩ := ih (i := i) (by simp [msgs] at h ⊢; omega)
        refine ⟨n + 1, m, by simpa using h1, ?_, by simp; omega⟩
        simp only [cnt, msgs] at h2 ⊢
        simp [h2]
theorem num_uniq {L : List (Option Ml)} {i j : Nat} {a b : Ml} (hi : L[i]? = some (some a)) (hj : L[j]? = some (some b)) (h : cnt L i = cnt L j) : i = j := by
  rcases Nat.lt_trichotomy i j with hl | hl | hl
  · have h1 := cnt_yes hi
    have h2 := cnt_mono L (i := i + 1) (j := j) (by omega)
    omega
  · exact hl
  · have h1 := cnt_yes hj
    have h2 := cnt_mono L (i := j + 1) (j := i) (by omega)
    omega

/-- a message goes: its number is left free -/
theorem msgs_set {L : List (Option Ml)} {n : Nat} {m : Ml} (h : L[n]? = some (some m)) : msgs (L.set n none) = (msgs L).eraseIdx (cnt L n) := by
  obtain ⟨hn, hx⟩ := List.getElem?_eq_some_iff.1 h
  have e1 : L = L.take n ++ L[n] :: L.drop (n + 1) := by rw [← List.drop_eq_getElem_cons hn, List.take_append_drop]
  have e2 : L.set n none = L.take n ++ none :: L.drop (n + 1) := List.set_eq_take_append_cons_drop .. |>.trans (if_pos hn)
  rw [e2, show msgs L = msgs (L.take n ++ L[n] :: L.drop (n + 1)) from congrArg msgs e1, msgs_append, msgs_append, hx, cnt]
  have e3 : msgs (none :: L.drop (n + 1)) = msgs (L.drop (n + 1)) := rfl
  have e4 : msgs (some m :: L.drop (n + 1)) = m :: msgs (L.drop (n + 1)) := rfl
  rw [e3, e4, List.eraseIdx_append_of_length_le (Nat.le_refl _), Nat.sub_self, List.eraseIdx_cons_zero]
theorem msgs_set_length {L : List (Option Ml)} {n : Nat} {m : Ml} (h : L[n]? = some (some m)) : (msgs (L.set n none)).length + 1 = (msgs L).length := by
  rw [msgs_set h, List.length_eraseIdx_of_lt (cnt_lt h)]
  have := cnt_lt h
  omega

/-- what is left once the first k messages were asked whether they are to an address -/
def upto (L : List (Option Ml)) (addr : Int) (k : Nat) : List (Option Ml) := L.mapIdx fun n o => if cnt L n < k ∧ (o.map (·.to)) = some addr then none else o
theorem upto_length (L : List (Option Ml)) (addr : Int) (k : Nat) : (upto L addr k).length = L.length := by simp [upto]
theorem upto_get (L : List (Option Ml)) (addr : Int) (k n : Nat) : (upto L addr k)[n]? = L[n]?.map fun o => if cnt L n < k ∧ (o.map (·.to)) = some addr then none else o := by simp [upto]
theorem upto_zero (L : List (Option Ml)) (addr : Int) : upto L addr 0 = L := by
  apply List.ext_getElem?
  intro n
  rw [upto_get]
  cases L[n]? with
  | none => rfl
  | some o => simp
theorem upto_late (L : List (Option Ml)) (addr : Int) {k n : Nat} (h : k ≤ cnt L n) : (upto L addr k)[n]? = L[n]? := by
  rw [upto_get]
  cases L[n]? with
  | none => rfl
  | some o => simp; intro h'; omega
theorem upto_hit {L : List (Option Ml)} {addr : Int} {n : Nat} {m : Ml} (h : L[n]? = some (some m)) (ha : m.to = addr) : upto L addr (cnt L n + 1) = (upto L addr (cnt L n)).set n none := by
  obtain ⟨hn, _⟩ := List.getElem?_eq_some_iff.1 h
  apply List.ext_getElem?
  intro j
  rw [List.getElem?_set, upto_length, upto_get, upto_get]
  by_cases hj : n = j
  · subst hj
    rw [if_pos rfl, if_pos hn, h]
    simp [ha]
  · rw [if_neg hj]
    cases hx : L[j]? with
    | none => rfl
    | some o =>
      cases o with
      | none => simp
      | some x =>
        have hne : cnt L n ≠ cnt L j := fun e => hj (num_uniq h hx e)
        simp only [Option.map_some, Option.some.injEq]
        by_cases hc : cnt L j < cnt L n
        · have hc2 : cnt L j < cnt L n + 1 := by omega
          simp only [hc, hc2, true_and]
        · rw [if_neg (by omega), if_neg (by omega)]
theorem upto_miss {L : List (Option Ml)} {addr : Int} {n : Nat} {m : Ml} (h : L[n]? = some (some m)) (ha : m.to ≠ addr) : upto L addr (cnt L n + 1) = upto L addr (cnt L n) := by
  apply List.ext_getElem?
  intro j
  rw [upto_get, upto_get]
  cases hx : L[j]? with
  | none => rfl
  | some o =>
    cases o with
    | none => simp
    | some x =>
      simp only [Option.map_some, Option.some.injEq]
      by_cases hj : n = j
      · subst hj
        rw [h] at hx
        obtain rfl : m = x := by simpa using hx
        simp [ha]
      · have hne : cnt L n ≠ cnt L j := fun e => hj (num_uniq h hx e)
        by_cases hc : cnt L j < cnt L n
        · have hc2 : cnt L j < cnt L n + 1 := by omega
          simp only [hc, hc2, true_and]
        · rw [if_neg (by omega), if_neg (by omega)]
/-- the messages to others -/
def left (K : List Ml) (addr : Int) : List Ml := K.filter fun m => !decide (m.to = addr)
theorem left_le (K : List Ml) (addr : Int) : (left K addr).length ≤ K.length := List.length_filter_le ..
theorem msgs_map (L : List (Option Ml)) (addr : Int) : msgs (L.map fun o => if o.map (·.to) = some addr then none else o) = left (msgs L) addr := by
  induction L with
  | nil => rfl
  | cons o L ih =>
    rw [List.map_cons]
    cases o with
    | none => simpa [msgs] using ih
    | some x =>
      by_cases h : x.to = addr
      · simpa [msgs, left, h] using ih
      · simpa [msgs, left, h] using ih
theorem upto_msgs (L : List (Option Ml)) (addr : Int) : msgs (upto L addr (msgs L).length) = left (msgs L) addr := by
  rw [← msgs_map]
  congr 1
  apply List.ext_getElem?
  intro n
  rw [upto_get, List.getElem?_map]
  cases hx : L[n]? with
  | none => rfl
  | some o =>
    cases o with
    | none => simp
    | some x => simp [cnt_lt hx]

/-- the places of the messages to an address, from a place on -/
def toL : List Ml → Int → Nat → List Nat
  | [], _, _ => []
  | m :: K, a, p => if m.to = a then p :: toL K a (p + 1) else toL K a (p + 1)
theorem toL_append (K K' : List Ml) (a : Int) (p : Nat) : toL (K ++ K') a p = toL K a p ++ toL K' a (p + K.length) := by
  induction K generalizing p with
  | nil => simp [toL]
  | cons m K ih =>
    simp only [List.cons_append, toL, List.length_cons, ih]
    rw [show p + (K.length + 1) = p + 1 + K.length by omega]
    split <;> simp
theorem toL_le (K : List Ml) (a : Int) (p : Nat) : (toL K a p).length ≤ K.length := by
  induction K generalizing p with
  | nil => simp [toL]
  | cons m K ih =>
    have := ih (p + 1)
    simp only [toL, List.length_cons]
    split <;> simp <;> omega
/-- .. among the first k -/
def toN (K : List Ml) (a : Int) (k : Nat) : List Nat := toL (K.take k) a 0
theorem toN_hit {K : List Ml} {k : Nat} {m : Ml} {a : Int} (h : K[k]? = some m) (ha : m.to = a) : toN K a (k + 1) = toN K a k ++ [k] := by
  obtain ⟨hk, hx⟩ := List.getElem?_eq_some_iff.1 h
  rw [toN, List.take_succ_eq_append_getElem hk, toL_append, hx, List.length_take, Nat.min_eq_left (by omega)]
  simp [toL, ha, toN]
theorem toN_miss {K : List Ml} {k : Nat} {m : Ml} {a : Int} (h : K[k]? = some m) (ha : m.to ≠ a) : toN K a (k + 1) = toN K a k := by
  obtain ⟨hk, hx⟩ := List.getElem?_eq_some_iff.1 h
  rw [toN, List.take_succ_eq_append_getElem hk, toL_append, hx]
  simp [toL, ha, toN]
theorem toN_all (K : List Ml) (a : Int) : toN K a K.length = toL K a 0 := by rw [toN, List.take_length]
theorem toN_le (K : List Ml) (a : Int) (k : Nat) : (toN K a k).length ≤ k := by
  have h1 := toL_le (K.take k) a 0
  rw [List.length_take] at h1
  unfold toN
  omega
/-- how many are to an address -/
theorem toL_left (K : List Ml) (a : Int) (p : Nat) : (toL K a p).length + (left K a).length = K.length := by
  induction K generalizing p with
  | nil => rfl
  | cons m K ih =>
    have := ih (p + 1)
    by_cases h : m.to = a
    · simp [toL, left, h] at this ⊢; omega
    · simp [toL, left, h] at this ⊢; omega
theorem toL_none (K : List Ml) (a : Int) (p : Nat) : toL (left K a) a p = [] := by
  induction K generalizing p with
  | nil => rfl
  | cons m K ih =>
    by_cases h : m.to = a
    · simpa [left, h] using ih p
    · simp [left, h, toL]
      simpa [left] using ih (p + 1)
end Go.Proofs.Ytbjjbcjapkmnfaa
