/- Errors as trees: their codes, trail, text, and a weight that bounds these. Nothing of the program is named here. -/
import Derived.Lib.ItoaLen
import Derived.WalkKit
namespace Go.Proofs.YtgpmfiphebmldaaDoor
open Go.RowKit

/-- an error: a code, a wrap, or a join of several -/
inductive ET where
  | code (c : Int)
  | wrap (op : ByteArray) (t : ET)
  | join (l : List ET)

theorem ET.ind {P : ET → Prop} (hc : ∀ c, P (.code c)) (hw : ∀ op t, P t → P (.wrap op t)) (hj : ∀ l : List ET, (∀ t, t ∈ l → P t) → P (.join l)) : ∀ t, P t := by
  intro t
  refine ET.rec (motive_1 := P) (motive_2 := fun l => ∀ t, t ∈ l → P t) hc hw hj (fun t h => by cases h) (fun a l h1 h2 t h => ?_) t
  rcases List.mem_cons.1 h with rfl | h
  · exact h1
  · exact h2 t h

mutual
def ET.codes : ET → List Int
  | .code c => [c]
  | .wrap _ t => t.codes
  | .join l => ET.codesL l
def ET.codesL : List ET → List Int
  | [] => []
  | t :: r => t.codes ++ ET.codesL r
end
/-- the bytes ahead of a code -/
def errB : List UInt8 := [101, 114, 114, 111, 114, 32]
mutual
def ET.text : ET → List UInt8
  | .code c => errB ++ Lib.itoa c
  | .wrap op t => (op.data.toList ++ [58, 32]) ++ t.text
  | .join l => ET.textL true l
/-- the texts of several, with a separator ahead of each one but the first -/
def ET.textL : Bool → List ET → List UInt8
  | _, [] => []
  | first, t :: r => (if first then [] else [59, 32]) ++ (t.text ++ ET.textL false r)
end
def ET.trail : ET → List ByteArray
  | .code _ => []
  | .wrap op t => op :: t.trail
  | .join _ => []
mutual
def ET.wt : ET → Nat
  | .code _ => 30
  | .wrap op t => op.size + 4 + t.wt
  | .join l => 4 + ET.wtL l
def ET.wtL : List ET → Nat
  | [] => 0
  | t :: r => 2 + t.wt + ET.wtL r
end
/-- a number that a code may be -/
def okC (c : Int) : Prop := c ≠ 0 ∧ -9223372036854775808 ≤ c ∧ c ≤ 9223372036854775807
mutual
def ET.ok : ET → Prop
  | .code c => okC c
  | .wrap _ t => t.ok
  | .join l => l ≠ [] ∧ ET.okL l
def ET.okL : List ET → Prop
  | [] => True
  | t :: r => t.ok ∧ ET.okL r
end

theorem ET.okL_iff : ∀ {l : List ET}, ET.okL l ↔ ∀ t, t ∈ l → t.ok
  | [] => by simp [ET.okL]
  | a :: l => by
    rw [ET.okL, ET.okL_iff]
    simp
theorem codesL_append : ∀ (a b : List ET), ET.codesL (a ++ b) = ET.codesL a ++ ET.codesL b
  | [], b => by simp [ET.codesL]
  | t :: r, b => by rw [List.cons_append, ET.codesL, ET.codesL, codesL_append r b, List.append_assoc]
theorem wtL_append : ∀ (a b : List ET), ET.wtL (a ++ b) = ET.wtL a + ET.wtL b
  | [], b => by simp [ET.wtL]
  | t :: r, b => by rw [List.cons_append, ET.wtL, ET.wtL, wtL_append r b]; omega
theorem textL_false : ∀ (a b : List ET), ET.textL false (a ++ b) = ET.textL false a ++ ET.textL false b
  | [], b => by simp [ET.textL]
  | t :: r, b => by rw [List.cons_append, ET.textL, ET.textL, textL_false r b]; simp
/-- one more behind -/
theorem textL_snoc (a : List ET) (t : ET) : ET.textL true (a ++ [t]) = ET.textL true a ++ ((if a.length = 0 then [] else [59, 32]) ++ t.text) := by
  cases a with
  | nil => simp [ET.textL]
  | cons x r =>
    rw [List.cons_append, ET.textL, ET.textL, textL_false]
    simp [ET.textL]
theorem codesL_snoc (a : List ET) (t : ET) : ET.codesL (a ++ [t]) = ET.codesL a ++ t.codes := by rw [codesL_append]; simp [ET.codesL]
theorem wtL_snoc (a : List ET) (t : ET) : ET.wtL (a ++ [t]) = ET.wtL a + (2 + t.wt) := by rw [wtL_append]; simp [ET.wtL]
theorem take_snoc {α : Type} (l : List α) (i : Nat) (a : α) (h : l[i]? = some a) : l.take (i + 1) = l.take i ++ [a] := by
  rw [List.take_add_one, h]; rfl
theorem wtL_take (l : List ET) (i : Nat) : ET.wtL (l.take i) ≤ ET.wtL l := by
  conv => rhs; rw [← List.take_append_drop i l, wtL_append]
  omega
theorem wtL_mem : ∀ {l : List ET} {t : ET}, t ∈ l → 2 + t.wt ≤ ET.wtL l
  | a :: l, t, h => by
    rw [ET.wtL]
    rcases List.mem_cons.1 h with rfl | h
    · omega
    · have := wtL_mem h; omega
theorem wtL_length : ∀ (l : List ET), 2 * l.length ≤ ET.wtL l
  | [] => by simp [ET.wtL]
  | t :: r => by rw [ET.wtL, List.length_cons]; have := wtL_length r; omega

theorem codes_le (t : ET) : t.codes.length ≤ t.wt := by
  induction t using ET.ind with
  | hc c => simp [ET.codes, ET.wt]
  | hw op t ih => rw [ET.codes, ET.wt]; omega
  | hj l ih =>
    rw [ET.codes, ET.wt]
    have : ∀ l : List ET, (∀ t, t ∈ l → t.codes.length ≤ t.wt) → (ET.codesL l).length ≤ ET.wtL l := by
      intro l
      induction l with
      | nil => simp [ET.codesL]
      | cons a l ih2 =>
        intro h
        rw [ET.codesL, ET.wtL, List.length_append]
        have h1 := h a (List.mem_cons_self ..)
        have h2 := ih2 fun t ht => h t (List.mem_cons_of_mem _ ht)
        omega
    have := this l ih
    omega
theorem codesL_le : ∀ (l : List ET), (ET.codesL l).length ≤ ET.wtL l
  | [] => by simp [ET.codesL]
  | t :: r => by rw [ET.codesL, ET.wtL, List.length_append]; have := codes_le t; have := codesL_le r; omega
theorem textL_le_of : ∀ (l : List ET) (b : Bool), (∀ t, t ∈ l → t.ok → t.text.length ≤ t.wt) → ET.okL l → (ET.textL b l).length ≤ ET.wtL l
  | [], b, _, _ => by simp [ET.textL]
  | a :: l, b, h, ho => by
    rw [ET.textL, ET.wtL, List.length_append, List.length_append]
    have h1 := h a (List.mem_cons_self ..) ho.1
    have h2 := textL_le_of l false (fun t ht => h t (List.mem_cons_of_mem _ ht)) ho.2
    cases b <;> simp <;> omega
theorem text_le (t : ET) (h : t.ok) : t.text.length ≤ t.wt := by
  induction t using ET.ind with
  | hc c =>
    rw [ET.text, ET.wt, List.length_append]
    have := Lib.itoa_length_le c h.2.1 h.2.2
    have e : errB.length = 6 := rfl
    omega
  | hw op t ih => rw [ET.text, ET.wt, List.length_append, List.length_append]; have := ih h; simp; omega
  | hj l ih =>
    rw [ET.text, ET.wt]
    have := textL_le_of l true (fun t ht ho => ih t ht ho) h.2
    omega
theorem textL_le (l : List ET) (b : Bool) (h : ET.okL l) : (ET.textL b l).length ≤ ET.wtL l := textL_le_of l b (fun t _ ho => text_le t ho) h
theorem trail_le (t : ET) : t.trail.length ≤ t.wt := by
  induction t using ET.ind with
  | hc c => simp [ET.trail]
  | hw op t ih => rw [ET.trail, ET.wt, List.length_cons]; omega
  | hj l ih => simp [ET.trail]
theorem codes_ne (t : ET) (h : t.ok) : t.codes ≠ [] := by
  induction t using ET.ind with
  | hc c => simp [ET.codes]
  | hw op t ih => rw [ET.codes]; exact ih h
  | hj l ih =>
    rw [ET.codes]
    cases l with
    | nil => exact absurd rfl h.1
    | cons a l =>
      rw [ET.codesL]
      have := ih a (List.mem_cons_self ..) h.2.1
      simp [this]
theorem codes_ok (t : ET) (h : t.ok) : ∀ c, c ∈ t.codes → okC c := by
  induction t using ET.ind with
  | hc c => intro d hd; simp [ET.codes] at hd; subst hd; exact h
  | hw op t ih => rw [ET.codes]; exact ih h
  | hj l ih =>
    rw [ET.codes]
    have key : ∀ l : List ET, (∀ t, t ∈ l → t.ok → ∀ c, c ∈ t.codes → okC c) → ET.okL l → ∀ c, c ∈ ET.codesL l → okC c := by
      intro l
      induction l with
      | nil => intro _ _ c hc; simp [ET.codesL] at hc
      | cons a l ih2 =>
        intro h1 h2 c hc
        rw [ET.codesL] at hc
        rcases List.mem_append.1 hc with hc | hc
        · exact h1 a (List.mem_cons_self ..) h2.1 c hc
        · exact ih2 (fun t ht => h1 t (List.mem_cons_of_mem _ ht)) h2.2 c hc
    exact key l (fun t ht ho => ih t ht ho) h.2
/-- the first code -/
def ET.first (t : ET) : Int := t.codes.headD 0
/-- whether it may be tried again -/
def ET.again (t : ET) : Bool := t.codes.contains 8 || (t.codes.contains 10 || t.codes.contains 11)
/-- of none or one -/
def firstO : Option ET → Int
  | none => 0
  | some t => t.first
def hasO (o : Option ET) (c : Int) : Bool := match o with
  | none => c == 0
  | some t => t.codes.contains c
def againO : Option ET → Bool
  | none => false
  | some t => t.again
def trailO : Option ET → List ByteArray
  | none => []
  | some t => t.trail
def textO : Option ET → List UInt8
  | none => []
  | some t => t.text
def wtO : Option ET → Nat
  | none => 0
  | some t => t.wt
end Go.Proofs.YtgpmfiphebmldaaDoor
