/- Records, in plain lists: whether one is right, its bytes, and what bytes are read as. Nothing of the program is named here. -/
import Derived.Test.YtkicndengkcojaaPkB
import Derived.Test.YtkicndengkcojaaPkC
import Derived.Test.YtkicndengkcojaaPkA
namespace Go.Proofs.Ytkicndengkcojaa
set_option maxRecDepth 100000
open Go.RowKit

structure Rc where
  kind : Int
  items : List It
  nl : Int
  nb : Nat
  mark : Nat
def zeroR : Rc := ⟨0, [], 0, 0, 0⟩
def leafR (L : List It) (n : Int) (b : Nat) : Rc := ⟨1, L, n, b, 0⟩
/-- the numbers have room -/
structure Rc.Wf (r : Rc) : Prop where
  kind : -9223372036854775808 ≤ r.kind ∧ r.kind ≤ 9223372036854775807
  nl : -9223372036854775808 ≤ r.nl ∧ r.nl ≤ 9223372036854775807
  nb : r.nb < 18446744073709551616
  mark : r.mark < 18446744073709551616
  key : ∀ x ∈ r.items, x.1 < 18446744073709551616

/-! keys that rise -/
instance (L : List It) : Decidable (Sorted L) := inferInstanceAs (Decidable (L.Pairwise fun a b => a.1 < b.1))
def riseB (L : List It) : Bool := decide (Sorted L)
theorem riseB_iff {L : List It} : riseB L = true ↔ Sorted L := by unfold riseB; simp
theorem rise_not {L : List It} {i : Nat} {x y : It} (hx : L[i]? = some x) (hy : L[i + 1]? = some y) (h : ¬ x.1 < y.1) : riseB L = false := by
  rw [Bool.eq_false_iff]
  intro hs
  have hs := List.pairwise_iff_getElem.1 (riseB_iff.1 hs)
  obtain ⟨h1, rfl⟩ := List.getElem?_eq_some_iff.1 hx
  obtain ⟨h2, rfl⟩ := List.getElem?_eq_some_iff.1 hy
  exact h (hs i (i + 1) h1 h2 (by omega))
theorem rise_take {L : List It} {i : Nat} {x y : It} (hx : L[i]? = some x) (hy : L[i + 1]? = some y) (h : x.1 < y.1) (hs : Sorted (L.take (i + 1))) : Sorted (L.take (i + 2)) := by
  obtain ⟨h1, rfl⟩ := List.getElem?_eq_some_iff.1 hx
  obtain ⟨h2, rfl⟩ := List.getElem?_eq_some_iff.1 hy
  rw [show i + 2 = (i + 1) + 1 by omega, List.take_succ_eq_append_getElem h2]
  refine List.pairwise_append.2 ⟨hs, List.pairwise_singleton _ _, fun a ha b hb => ?_⟩
  obtain rfl : b = L[i + 1] := by simpa using hb
  rw [List.take_succ_eq_append_getElem h1] at hs ha
  rcases List.mem_append.1 ha with ha | ha
  · have := (List.pairwise_append.1 hs).2.2 a ha L[i] (by simp)
    omega
  · obtain rfl : a = L[i] := by simpa using ha
    exact h
theorem rise_one (L : List It) : Sorted (L.take 1) := by
  cases L with
  | nil => exact List.Pairwise.nil
  | cons x L => exact List.pairwise_singleton _ _
theorem rise_all {L : List It} {i : Nat} (h : Sorted (L.take i)) (hi : L.length ≤ i) : riseB L = true := by
  rw [List.take_of_length_le hi] at h
  exact riseB_iff.2 h
def shortB (L : List It) : Bool := L.all fun x => decide (x.2.size ≤ 64)
def okI (L : List It) : Bool := decide (L.length ≤ 16) && (riseB L && shortB L)
theorem okI_iff {L : List It} : okI L = true ↔ L.length ≤ 16 ∧ Sorted L ∧ ∀ x ∈ L, x.2.size ≤ 64 := by
  simp [okI, shortB, riseB_iff]
theorem shortB_append (L K : List It) : shortB (L ++ K) = (shortB L && shortB K) := by simp [shortB]
def noneB (n : Int) (b : Nat) : Bool := eqL n b (-1) 0
theorem noneB_iff {n : Int} {b : Nat} : noneB n b = true ↔ n = -1 ∧ b = 0 := eqL_iff
def bareB (k : Int) : Bool := k == 2 || k == 4
/-- is a record right? -/
def isR (r : Rc) : Bool :=
  decide (1 ≤ r.kind ∧ r.kind ≤ 5) && (!bareB r.kind || (r.items.isEmpty && noneB r.nl r.nb)) && (r.kind == 5 || r.mark == 0) && (okI r.items && (noneB r.nl r.nb || isB r.nl r.nb))
/-- what it says -/
structure Right (r : Rc) : Prop where
  kind : 1 ≤ r.kind ∧ r.kind ≤ 5
  bare : bareB r.kind = true → r.items = [] ∧ r.nl = -1 ∧ r.nb = 0
  mark : r.kind ≠ 5 → r.mark = 0
  len : r.items.length ≤ 16
  sorted : Sorted r.items
  short : ∀ x ∈ r.items, x.2.size ≤ 64
  next : noneB r.nl r.nb = true ∨ isB r.nl r.nb = true
theorem isR_iff {r : Rc} : isR r = true ↔ Right r := by
  unfold isR
  simp only [Bool.and_eq_true, Bool.or_eq_true, decide_eq_true_eq, okI_iff, Bool.not_eq_true', beq_iff_eq, List.isEmpty_iff, noneB_iff]
  constructor
  · rintro ⟨⟨⟨h1, h2⟩, h3⟩, ⟨h4, h5, h6⟩, h7⟩
    refine ⟨h1, fun h => ?_, fun h => ?_, h4, h5, h6, ?_⟩
    · rcases h2 with h2 | h2
      · rw [h] at h2; cases h2
      · exact ⟨h2.1, h2.2.1, h2.2.2⟩
    · rcases h3 with h3 | h3
      · exact absurd h3 h
      · exact h3
    · exact h7.imp noneB_iff.2 id
  · rintro ⟨h1, h2, h3, h4, h5, h6, h7⟩
    refine ⟨⟨⟨h1, ?_⟩, ?_⟩, ⟨h4, h5, h6⟩, h7.imp noneB_iff.1 id⟩
    · cases hb : bareB r.kind
      · exact .inl rfl
      · exact .inr ⟨(h2 hb).1, (h2 hb).2⟩
    · by_cases h : r.kind = 5
      · exact .inl h
      · exact .inr (h3 h)

/-! bytes -/
def itN (x : It) : List Nat := numN x.1 ++ txtN (bytesN x.2)
def itsN (L : List It) : List Nat := L.flatMap itN
theorem itsN_append (L K : List It) : itsN (L ++ K) = itsN L ++ itsN K := by simp [itsN]
theorem itsN_one (x : It) : itsN [x] = itN x := by simp [itsN]
def nextN (n : Int) (b : Nat) : List Nat := if noneB n b then numN 0 else numN 1 ++ labN n.toNat b
def markN (r : Rc) : List Nat := if r.kind = 5 then numN r.mark else []
def putR (r : Rc) : List Nat := numN r.kind.toNat ++ if bareB r.kind then [] else numN r.items.length ++ itsN r.items ++ nextN r.nl r.nb ++ markN r

/-! what is read of bytes b from place p on -/
def rdN (b : List Nat) (p : Nat) : Except Nat (Nat × Nat) :=
  if (rNum (b.drop p)).2.2 = 0 then .ok ((rNum (b.drop p)).1, p + (rNum (b.drop p)).2.1) else .error (rNum (b.drop p)).2.2
def rdT (b : List Nat) (p : Nat) : Except Nat (List Nat × Nat) :=
  if (rTxt (b.drop p)).2.2 = 0 then .ok ((rTxt (b.drop p)).1, p + (rTxt (b.drop p)).2.1) else .error (rTxt (b.drop p)).2.2
def rdL (b : List Nat) (p : Nat) : Except Nat ((Nat × Nat) × Nat) :=
  if (rLab (b.drop p)).2.2.2 = 0 then .ok (((rLab (b.drop p)).1, (rLab (b.drop p)).2.1), p + (rLab (b.drop p)).2.2.1) else .error (rLab (b.drop p)).2.2.2
/-- the last key of a row is not below v -/
def lastGe (L : List It) (v : Nat) : Bool := match L.getLast? with
  | none => false
  | some x => decide (v ≤ x.1)
def rdI (b : List Nat) : Nat → List It → Nat → Except Nat (List It × Nat)
  | 0, L, p => .ok (L, p)
  | k + 1, L, p => match rdN b p with
    | .error e => .error e
    | .ok (v, q) => if lastGe L v then .error 3 else match rdT b q with
      | .error e => .error e
      | .ok (t, q2) => if 64 < t.length then .error 3 else rdI b k (L ++ [(v, txt t)]) q2
def rdIs (b : List Nat) (p : Nat) : Except Nat (List It × Nat) := match rdN b p with
  | .error e => .error e
  | .ok (n, q) => if 16 < n then .error 3 else rdI b n [] q
def rdX (b : List Nat) (p : Nat) : Except Nat ((Int × Nat) × Nat) := match rdN b p with
  | .error e => .error e
  | .ok (n, q) => if n = 0 then .ok ((-1, 0), q) else if n = 1 then (match rdL b q with
    | .error e => .error e
    | .ok ((m, c), q2) => .ok (((m : Int), c), q2)) else .error 3
def rdM (b : List Nat) (k p : Nat) : Except Nat (Nat × Nat) := if k = 5 then rdN b p else .ok (0, p)
def rdR (b : List Nat) (p : Nat) : Except Nat (Rc × Nat) := match rdN b p with
  | .error e => .error e
  | .ok (k, q) => if k = 2 ∨ k = 4 then .ok (⟨k, [], -1, 0, 0⟩, q) else if k = 1 ∨ k = 3 ∨ k = 5 then (match rdIs b q with
    | .error e => .error e
    | .ok (L, q2) => match rdX b q2 with
      | .error e => .error e
      | .ok ((n, c), q3) => match rdM b k q3 with
        | .error e => .error e
        | .ok (m, q4) => .ok (⟨k, L, n, c, m⟩, q4)) else .error 3
def getR (b : List Nat) : Except Nat Rc := match rdR b 0 with
  | .error e => .error e
  | .ok (r, q) => if q < b.length then .error 3 else .ok r
end Go.Proofs.Ytkicndengkcojaa
