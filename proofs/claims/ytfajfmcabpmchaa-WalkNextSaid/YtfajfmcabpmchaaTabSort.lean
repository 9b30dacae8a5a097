/- Rows of peers are sorted, and cleared of doubles. -/
import Derived.Test.YtfajfmcabpmchaaCirMem
import Derived.Test.YtfajfmcabpmchaaTail
import Derived.Deep.MidRow
import Derived.Deep.Upon
namespace Go.Proofs.Ytfajfmcabpmchaa
set_option maxRecDepth 100000
open Go.RowKit

/-- the places from a up to b -/
def seg (f : Nat → Pe) (a b : Nat) : List Pe := (List.range (b - a)).map fun i => f (a + i)
theorem seg_length (f : Nat → Pe) (a b : Nat) : (seg f a b).length = b - a := by simp [seg]
theorem seg_get (f : Nat → Pe) (a b i : Nat) (h : i < b - a) : (seg f a b)[i]? = some (f (a + i)) := by simp [seg, h]
theorem seg_none (f : Nat → Pe) {a b : Nat} (h : b ≤ a) : seg f a b = [] := by unfold seg; rw [Nat.sub_eq_zero_of_le h]; rfl
theorem seg_split (f : Nat → Pe) {a m b : Nat} (h1 : a ≤ m) (h2 : m ≤ b) : seg f a b = seg f a m ++ seg f m b := by
  apply List.ext_getElem?
  intro i
  by_cases h : i < b - a
  · rw [seg_get f a b i h]
    by_cases h3 : i < m - a
    · rw [List.getElem?_append_left (by rw [seg_length]; exact h3), seg_get f a m i h3]
    · rw [List.getElem?_append_right (by rw [seg_length]; omega), seg_length, seg_get f m b _ (by omega)]
      congr 2; omega
  · rw [List.getElem?_eq_none (by rw [seg_length]; omega), List.getElem?_eq_none (by rw [List.length_append, seg_length, seg_length]; omega)]
theorem seg_one (f : Nat → Pe) (a : Nat) : seg f a (a + 1) = [f a] := by unfold seg; rw [show a + 1 - a = 1 by omega]; rfl
theorem seg_congr {f g : Nat → Pe} {a b : Nat} (h : ∀ i, a ≤ i → i < b → f i = g i) : seg f a b = seg g a b := by
  unfold seg
  apply List.map_congr_left
  intro i hi
  rw [List.mem_range] at hi
  exact h _ (by omega) (by omega)
theorem seg_shift {f g : Nat → Pe} {a b c d : Nat} (hl : b - a = d - c) (h : ∀ i, i < b - a → f (a + i) = g (c + i)) : seg f a b = seg g c d := by
  unfold seg
  rw [← hl]
  apply List.map_congr_left
  intro i hi
  rw [List.mem_range] at hi
  exact h _ hi
theorem seg_mem {f : Nat → Pe} {a b : Nat} {x : Pe} (h : x ∈ seg f a b) : ∃ i, a ≤ i ∧ i < b ∧ f i = x := by
  simp only [seg, List.mem_map, List.mem_range] at h
  obtain ⟨i, hi, rfl⟩ := h
  exact ⟨a + i, by omega, by omega, rfl⟩
theorem mem_seg {f : Nat → Pe} {a b i : Nat} (h1 : a ≤ i) (h2 : i < b) : f i ∈ seg f a b := by
  simp only [seg, List.mem_map, List.mem_range]
  exact ⟨i - a, by omega, by congr 1; omega⟩
/-- a list as a function -/
def fun' (L : List Pe) (i : Nat) : Pe := L.getD i (0, 0)
theorem seg_fun (L : List Pe) : seg (fun' L) 0 L.length = L := by
  apply List.ext_getElem?
  intro i
  by_cases h : i < L.length
  · rw [seg_get _ _ _ _ (by omega), Nat.zero_add]
    unfold fun'
    rw [List.getD_eq_getElem?_getD, List.getElem?_eq_getElem h]; rfl
  · rw [List.getElem?_eq_none (by rw [seg_length]; omega), List.getElem?_eq_none (by omega)]

/-- two places change -/
def swp (f : Nat → Pe) (p q : Nat) : Nat → Pe := fun i => if i = q then f p else if i = p then f q else f i
/-- n places from a on change with those from b on -/
def swpR (f : Nat → Pe) (a b n : Nat) : Nat → Pe := fun i => if a ≤ i ∧ i < a + n then f (i - a + b) else if b ≤ i ∧ i < b + n then f (i - b + a) else f i
/-- the places from a to m go behind those from m to b -/
def rot (f : Nat → Pe) (a m b : Nat) : Nat → Pe := fun i => if a ≤ i ∧ i < a + (b - m) then f (i - a + m) else if a + (b - m) ≤ i ∧ i < b then f (i - (b - m)) else f i
theorem swpR_zero (f : Nat → Pe) (a b : Nat) : swpR f a b 0 = f := by
  funext i; unfold swpR; rw [if_neg (by omega), if_neg (by omega)]
theorem swpR_succ (f : Nat → Pe) {a b n : Nat} (h : a + n + 1 ≤ b) : swp (swpR f a b n) (a + n) (b + n) = swpR f a b (n + 1) := by
  funext i
  unfold swp swpR
  by_cases h1 : i = b + n
  · subst h1
    rw [if_pos rfl, if_neg (by omega), if_neg (by omega), if_neg (by omega), if_pos (by omega)]
    congr 1; omega
  · rw [if_neg h1]
    by_cases h2 : i = a + n
    · subst h2
      rw [if_pos rfl, if_neg (by omega), if_neg (by omega), if_pos (by omega)]
      congr 1; omega
    · rw [if_neg h2]
      by_cases h3 : a ≤ i ∧ i < a + n
      · rw [if_pos h3, if_pos (by omega)]
      · rw [if_neg h3]
        by_cases h4 : b ≤ i ∧ i < b + n
        · rw [if_pos h4, if_neg (by omega), if_pos (by omega)]
        · rw [if_neg h4, if_neg (by omega), if_neg (by omega)]
theorem rot_more (f : Nat → Pe) {m i j : Nat} (hi : i ≤ m) (h : j < i) : rot (swpR f (m - i) m j) (m - (i - j)) m (m + j) = rot f (m - i) m (m + j) := by
  funext x
  unfold rot swpR
  have e : m + j - m = j := by omega
  rw [e]
  by_cases h1 : m - i ≤ x ∧ x < m - i + j
  · rw [if_neg (by omega), if_neg (by omega), if_pos h1, if_pos h1]
  · by_cases h2 : m - i + j ≤ x ∧ x < m + j
    · rw [if_neg (show ¬ (m - i ≤ x ∧ x < m - i + j) by omega), if_neg (show ¬ (m - i ≤ x ∧ x < m - i + j) by omega), if_pos h2]
      by_cases h3 : x < m - i + j + j
      · rw [if_pos (show m - (i - j) ≤ x ∧ x < m - (i - j) + j by omega), if_neg (show ¬ (m - i ≤ x - (m - (i - j)) + m ∧ x - (m - (i - j)) + m < m - i + j) by omega), if_pos (show m ≤ x - (m - (i - j)) + m ∧ x - (m - (i - j)) + m < m + j by omega)]
        congr 1; omega
      · rw [if_neg (show ¬ (m - (i - j) ≤ x ∧ x < m - (i - j) + j) by omega), if_pos (show m - (i - j) + j ≤ x ∧ x < m + j by omega), if_neg (show ¬ (m - i ≤ x - j ∧ x - j < m - i + j) by omega), if_neg (show ¬ (m ≤ x - j ∧ x - j < m + j) by omega)]
    · rw [if_neg (by omega), if_neg (by omega), if_neg h1, if_neg (by omega), if_neg h1, if_neg h2]
theorem rot_less (f : Nat → Pe) {m i j : Nat} (hi : i ≤ m) (h : i < j) : rot (swpR f (m - i) (m + j - i) i) (m - i) m (m + (j - i)) = rot f (m - i) m (m + j) := by
  funext x
  unfold rot swpR
  have e : m + j - m = j := by omega
  have e2 : m + (j - i) - m = j - i := by omega
  rw [e, e2]
  by_cases h1 : m - i ≤ x ∧ x < m - i + j
  · rw [if_pos h1]
    by_cases h2 : x < m - i + (j - i)
    · rw [if_pos (by omega), if_neg (by omega), if_neg (by omega)]
    · rw [if_neg (by omega)]
      by_cases h3 : m - i + (j - i) ≤ x ∧ x < m + (j - i)
      · rw [if_pos h3, if_pos (by omega)]
        congr 1; omega
      · exact absurd h1 (by omega)
  · rw [if_neg h1]
    by_cases h2 : m - i + j ≤ x ∧ x < m + j
    · rw [if_pos h2, if_neg (by omega), if_neg (by omega), if_neg (by omega), if_pos (by omega)]
      congr 1; omega
    · rw [if_neg h2, if_neg (by omega), if_neg (by omega), if_neg (by omega), if_neg (by omega)]
theorem rot_same (f : Nat → Pe) {m i : Nat} (hi : i ≤ m) : swpR f (m - i) m i = rot f (m - i) m (m + i) := by
  funext x
  unfold rot swpR
  have e : m + i - m = i := by omega
  rw [e]
  by_cases h1 : m - i ≤ x ∧ x < m - i + i
  · rw [if_pos h1, if_pos h1]
  · rw [if_neg h1, if_neg h1]
    by_cases h2 : m ≤ x ∧ x < m + i
    · rw [if_pos h2, if_pos (by omega)]
      congr 1; omega
    · rw [if_neg h2, if_neg (by omega)]
theorem rot_out (f : Nat → Pe) {a m b x : Nat} (h1 : a ≤ m) (h2 : m ≤ b) (h : x < a ∨ b ≤ x) : rot f a m b x = f x := by
  unfold rot; rw [if_neg (by omega), if_neg (by omega)]
theorem rot_fst (f : Nat → Pe) {a m b : Nat} (h2 : m ≤ b) : seg (rot f a m b) a (a + (b - m)) = seg f m b :=
  seg_shift (by omega) fun i hi => by unfold rot; rw [if_pos (by omega)]; congr 1; omega
theorem rot_snd (f : Nat → Pe) {a m b : Nat} (h1 : a ≤ m) (h2 : m ≤ b) : seg (rot f a m b) (a + (b - m)) b = seg f a m :=
  seg_shift (by omega) fun i hi => by unfold rot; rw [if_neg (by omega), if_pos (by omega)]; congr 1; omega
theorem rot_none (f : Nat → Pe) {a m b : Nat} (h1 : a ≤ m) (h2 : m ≤ b) (h : a = m ∨ m = b) : rot f a m b = f := by
  funext x
  unfold rot
  rcases h with rfl | rfl
  · by_cases h3 : a ≤ x ∧ x < a + (b - a)
    · rw [if_pos h3]; congr 1; omega
    · rw [if_neg h3, if_neg (by omega)]
  · rw [if_neg (by omega)]
    by_cases h3 : a + (m - m) ≤ x ∧ x < m
    · rw [if_pos h3]; congr 1; omega
    · rw [if_neg h3]

/-! sorted, stably -/
def fl (k : Int) (L : List Pe) : List Pe := L.filter fun x => decide (x.1 = k)
theorem fl_append (k : Int) (A B : List Pe) : fl k (A ++ B) = fl k A ++ fl k B := List.filter_append ..
def Up (L : List Pe) : Prop := L.Pairwise fun x y => x.1 ≤ y.1
structure SO (l R : List Pe) : Prop where
  len : R.length = l.length
  up : Up R
  same : ∀ k, fl k R = fl k l
theorem SO.self {l : List Pe} (h : Up l) : SO l l := ⟨rfl, h, fun _ => rfl⟩
theorem SO.mem {l R : List Pe} (h : SO l R) {x : Pe} : x ∈ R ↔ x ∈ l := by
  have e := h.same x.1
  have a : x ∈ fl x.1 R ↔ x ∈ R := by simp [fl]
  have b : x ∈ fl x.1 l ↔ x ∈ l := by simp [fl]
  rw [← a, e, b]
theorem SO.trans {l R Q : List Pe} (h : SO l R) (k : SO R Q) : SO l Q := ⟨k.len.trans h.len, k.up, fun i => (k.same i).trans (h.same i)⟩
theorem fl_none {k : Int} {L : List Pe} (h : ∀ x ∈ L, x.1 ≠ k) : fl k L = [] := by
  unfold fl
  rw [List.filter_eq_nil_iff]
  intro x hx
  simpa using h x hx
/-- rows no address of which is in both may change places -/
theorem fl_swap (k : Int) {A B : List Pe} (h : ∀ x ∈ A, ∀ y ∈ B, y.1 < x.1) : fl k (A ++ B) = fl k (B ++ A) := by
  rw [fl_append, fl_append]
  by_cases ha : ∃ x ∈ A, x.1 = k
  · obtain ⟨x, hx, hk⟩ := ha
    rw [fl_none (L := B) (fun y hy e => by have := h x hx y hy; omega)]; simp
  · rw [fl_none (L := A) (fun x hx e => ha ⟨x, hx, e⟩)]; simp
theorem up_append {A B : List Pe} : Up (A ++ B) ↔ Up A ∧ Up B ∧ ∀ x ∈ A, ∀ y ∈ B, x.1 ≤ y.1 := List.pairwise_append
theorem SO.merge {A1 A2 B1 B2 R1 R2 : List Pe} (h1 : SO (A1 ++ B1) R1) (h2 : SO (A2 ++ B2) R2) (a : ∀ x ∈ A1, ∀ y ∈ A2, x.1 ≤ y.1) (b : ∀ x ∈ B1, ∀ y ∈ B2, x.1 ≤ y.1)
    (c : ∀ x ∈ A1, ∀ y ∈ B2, x.1 ≤ y.1) (d : ∀ x ∈ A2, ∀ y ∈ B1, y.1 < x.1) : SO ((A1 ++ A2) ++ (B1 ++ B2)) (R1 ++ R2) := by
  refine ⟨by have := h1.len; have := h2.len; simp only [List.length_append] at *; omega, up_append.2 ⟨h1.up, h2.up, fun x hx y hy => ?_⟩, fun k => ?_⟩
  · rw [h1.mem, List.mem_append] at hx
    rw [h2.mem, List.mem_append] at hy
    rcases hx with hx | hx <;> rcases hy with hy | hy
    · exact a x hx y hy
    · exact c x hx y hy
    · exact Int.le_of_lt (d y hy x hx)
    · exact b x hx y hy
  · rw [fl_append, h1.same, h2.same]
    have e := fl_swap k d
    simp only [fl_append] at e ⊢
    rw [List.append_assoc, List.append_assoc, ← List.append_assoc (fl k B1), ← e, List.append_assoc]
theorem up_seg {f : Nat → Pe} {a b : Nat} : Up (seg f a b) ↔ ∀ i j, a ≤ i → i < j → j < b → (f i).1 ≤ (f j).1 := by
  unfold Up
  rw [List.pairwise_iff_getElem]
  constructor
  · intro h i j h1 h2 h3
    have := h (i - a) (j - a) (by rw [seg_length]; omega) (by rw [seg_length]; omega) (by omega)
    simp only [seg, List.getElem_map, List.getElem_range] at this
    rwa [show a + (i - a) = i by omega, show a + (j - a) = j by omega] at this
  · intro h i j hi hj hij
    rw [seg_length] at hi hj
    simp only [seg, List.getElem_map, List.getElem_range]
    exact h _ _ (by omega) (by omega) (by omega)
/-- one is put in where it belongs -/
theorem SO.ins {l P : List Pe} (h : SO l P) {x : Pe} {k : Nat} (h1 : ∀ y ∈ P.drop k, x.1 < y.1) (h2 : ∀ y ∈ P.take k, y.1 ≤ x.1) : SO (l ++ [x]) (P.take k ++ x :: P.drop k) := by
  have hu := h.up
  rw [← List.take_append_drop k P, up_append] at hu
  refine ⟨by have := h.len; simp only [List.length_append, List.length_take, List.length_cons, List.length_drop, List.length_nil]; omega, ?_, fun i => ?_⟩
  · refine up_append.2 ⟨hu.1, ?_, fun y hy z hz => ?_⟩
    · exact List.pairwise_cons.2 ⟨fun y hy => Int.le_of_lt (h1 y hy), hu.2.1⟩
    · rcases List.mem_cons.1 hz with rfl | hz
      · exact h2 y hy
      · exact hu.2.2 y hy z hz
  · rw [show x :: P.drop k = [x] ++ P.drop k from rfl, fl_append, ← fl_swap i (A := P.drop k) (B := [x]) (fun y hy z hz => by
      obtain rfl : z = x := by simpa using hz
      exact h1 y hy), ← fl_append, ← List.append_assoc, List.take_append_drop, fl_append, fl_append, h.same]
end Go.Proofs.Ytfajfmcabpmchaa

namespace Go.Proofs.Ytfajfmcabpmchaa
open Go Go.RowKit

section
variable {P : Program} {ops : Array Oper} {md : Region.Mode} {w : World}

/-- all but those of ex are waited for before the tail begins -/
def sinkX (md : Region.Mode) (ops : Array Oper) (n : Nat) (ex : Nat → Bool) : Bool :=
  (List.range n).all fun i => ex i || (List.range (n + 1)).any fun j => decide (i < j) && Region.waitsFor md ops j i

theorem tail_waitsX {n : Nat} {ex : Nat → Bool} {listed : Array Bool} (hs : sinkX md ops n ex = true) (hc : chainW md ops n = true) (inv : HeadInv md ops n listed) (hp : ∀ i, i < n → ex i = true → listed.getD i false = true) :
    ∀ (d i : Nat), n - i = d → i < n → listed.getD i true = false → ∀ t, n ≤ t → t ∉ Region.ready md ops listed := by
  intro d
  induction d using Nat.strongRecOn with
  | _ d ih =>
    intro i hd hi hun t ht hr
    obtain ⟨_, ot, hot, hall⟩ := mem_ready.1 hr
    have htlt : t < ops.size := (Array.getElem?_eq_some_iff.1 hot).1
    by_cases htn : t = n
    · subst htn
      have h1 := List.all_eq_true.1 hs i (List.mem_range.2 hi)
      rw [Bool.or_eq_true] at h1
      rcases h1 with h1 | h1
      · have hp' := hp i hi h1
        rw [getD_both hun] at hp'
        cases hp'
      obtain ⟨j, hj, hj2⟩ := List.any_eq_true.1 h1
      simp only [Bool.and_eq_true, decide_eq_true_eq] at hj2
      obtain ⟨oj, hoj, e, he, hb, hon⟩ := Region.waitsFor_spec hj2.2
      have hjle : j ≤ t := by have := List.mem_range.1 hj; omega
      by_cases hjt : j = t
      · subst hjt
        have : oj = ot := Option.some.inj (hoj.symm.trans hot)
        subst this
        have h2 := hall e he hb
        rw [hon, getD_both hun] at h2
        cases h2
      · cases hl : listed.getD j false with
        | true =>
          have h2 := inv.closed j oj hoj hl e he hb
          rw [hon, getD_both hun] at h2
          cases h2
        | false =>
          have hjs : j < listed.size := by rw [inv.size]; omega
          exact ih (t - j) (by omega) j rfl (by omega) (getD_in hjs hl) t (Nat.le_refl _) hr
    · have h1 := List.all_eq_true.1 hc t (List.mem_range.2 htlt)
      simp only [Bool.or_eq_true, decide_eq_true_eq] at h1
      rcases h1 with h1 | h1
      · omega
      · obtain ⟨j, hj, hj2⟩ := List.any_eq_true.1 h1
        simp only [Bool.and_eq_true, decide_eq_true_eq] at hj2
        have hjt := List.mem_range.1 hj
        obtain ⟨o', ho', e, he, hb, hon⟩ := Region.waitsFor_spec hj2.2
        have : o' = ot := Option.some.inj (ho'.symm.trans hot)
        subst this
        have h2 := hall e he hb
        rw [hon, getD_both (inv.tail j hj2.1 (by omega))] at h2
        cases h2

theorem wpAnyL_firstX {n i : Nat} {ex : Nat → Bool} {oi : Oper} {v : Value} {L : Array Bool → Act → Prop} (hi : ops[i]? = some oi) (hsel : ∀ (j : Nat) (o : Oper) cs b, ops[j]? = some o → o.op ≠ .select cs b)
    (hs : sinkX md ops n ex = true) (hc : chainW md ops n = true) (hin : i < n)
    (hdone : ∀ listed a, L listed a → ∀ j ∈ Region.ready md ops listed, n ≤ j) :
    ∀ (f : Nat) (listed : Array Bool) (a : Act), HeadInv md ops n listed → (∀ i, i < n → ex i = true → listed.getD i false = true) →
      (∀ j oj, ops[j]? = some oj → j ≠ i → listed.getD j true = false → (∀ e ∈ oj.after, Region.binds md e = true → e.on ≠ i) → oi.apart ops oj = true) →
      i ∈ Region.ready md ops listed → YieldsAt P ops w oi v a →
      wpAnyL P md ops w n L f (listed.setIfInBounds i true) (a.put oi.dst v) → wpAnyL P md ops w n L (f + 1) listed a := by
  intro f
  induction f with
  | zero =>
    intro listed a inv hp _ hr hy H
    have hun := (mem_ready.1 hr).1
    refine ⟨fun h => (by rw [h] at hr; cases hr), fun j hj => ?_⟩
    have hjn : j < n := by
      rcases Nat.lt_or_ge j n with h | h
      · exact h
      · exact absurd hj (tail_waitsX hs hc inv hp _ i rfl hin hun j h)
    refine ⟨hjn, ?_⟩
    by_cases hji : j = i
    · subst hji; exact hy.stOp hi H
    · have := hdone _ _ H j (ready_mono hj hji)
      omega
  | succ f ih =>
    intro listed a inv hp hfree hr hy H
    have hun := (mem_ready.1 hr).1
    refine ⟨fun h => (by rw [h] at hr; cases hr), fun j hj => ?_⟩
    have hjn : j < n := by
      rcases Nat.lt_or_ge j n with h | h
      · exact h
      · exact absurd hj (tail_waitsX hs hc inv hp _ i rfl hin hun j h)
    refine ⟨hjn, ?_⟩
    by_cases hji : j = i
    · subst hji; exact hy.stOp hi H
    · have h1 := (H.2 j (ready_mono hj hji)).2
      obtain ⟨hjun, oj, hoj, hall⟩ := mem_ready.1 hj
      have hnot : ∀ e ∈ oj.after, Region.binds md e = true → e.on ≠ i := fun e he hb heq => by
        have h1 := hall e he hb
        rw [heq, getD_both hun] at h1
        cases h1
      have h2 := stOp_put hoj (hfree j oj hoj hji hjun hnot) (fun cs b => hsel i oi cs b hi) (fun cs b => hsel j oj cs b hoj) hy h1
      have hfree' : ∀ k ok, ops[k]? = some ok → k ≠ i → (listed.setIfInBounds j true).getD k true = false →
          (∀ e ∈ ok.after, Region.binds md e = true → e.on ≠ i) → oi.apart ops ok = true := fun k ok hk hki hun hno => by
        refine hfree k ok hk hki ?_ hno
        by_cases hjk : j = k
        · subst hjk; exact hjun
        · rw [getD_set_ne true hjk] at hun; exact hun
      refine stOp_mono (fun a' h3 => ih (listed.setIfInBounds j true) a' (inv.set hj hjn) (fun k hk hx => getD_set_true (hp k hk hx)) hfree' (ready_mono hr (Ne.symm hji)) h3.1 ?_) h2
      rw [Array.setIfInBounds_comm _ _ hji]
      exact h3.2

theorem wpAnyL_lexX {n g : Nat} {ex : Nat → Bool} {Lq : Act → Prop} (hsel : Region.noSelect ops = true) (hs : sinkX md ops n ex = true) (hc : chainW md ops n = true) :
    ∀ (ks : List Nat) (l : List Oper) (listed : Array Bool) (a : Act), l.map some = ks.map (fun k => ops[k]?) → HeadInv md ops n listed → (∀ i, i < n → ex i = true → listed.getD i false = true) →
    lexHeadI md ops g n ks listed = true → wpStill P ops w Lq l a →
    wpAnyL P md ops w n (fun listed' a' => (seqP md ops g n listed' && (Region.ready md ops listed').all (fun j => decide (n ≤ j))) = true ∧ Lq a') ks.length listed a
  | [], [], _, _, _, _, _, hB, h => ⟨by simpa only [lexHeadI] using hB, h⟩
  | [], _ :: _, _, _, hl, _, _, _, _ => by simp at hl
  | _ :: _, [], _, _, hl, _, _, _, _ => by simp at hl
  | k :: ks, o :: l, listed, a, hl, inv, hp, hB, h => by
    rw [List.map_cons, List.map_cons, List.cons.injEq] at hl
    have h0 : ops[k]? = some o := hl.1.symm
    simp only [lexHeadI, Bool.and_eq_true, decide_eq_true_eq] at hB
    obtain ⟨⟨⟨hr, hf⟩, hkn⟩, hB'⟩ := hB
    have hr' : k ∈ Region.ready md ops listed := by simpa using hr
    have hst : stOp P ops w k (wpStill P ops w Lq l) a := by unfold stOp; simp only [h0]; exact h
    obtain ⟨v, hy, hK⟩ := yieldsAt_of_stOp h0 hst
    exact wpAnyL_firstX h0 (Region.noSelect_spec hsel) hs hc hkn (fun listed' a' hL j hj => by
        have := hL.1
        rw [Bool.and_eq_true] at this
        simpa using List.all_eq_true.1 this.2 j hj) ks.length listed a inv hp (Region.free_spec h0 hf) hr' hy
      (wpAnyL_lexX hsel hs hc ks l _ _ hl.2 (inv.set hr' hkn) (fun k hk hx => getD_set_true (hp k hk hx)) hB' hK)


def closedX (md : Region.Mode) (ops : Array Oper) (n : Nat) (listed : Array Bool) : Bool :=
  decide (listed.size = ops.size) && ((List.range ops.size).all fun j => !listed.getD j false || (match ops[j]? with | some o => o.after.toList.all fun e => !Region.binds md e || listed.getD e.on false | none => true)) && ((List.range ops.size).all fun t => decide (t < n) || !listed.getD t true)
theorem closedX_inv {n : Nat} {listed : Array Bool} (h : closedX md ops n listed = true) : HeadInv md ops n listed := by
  simp only [closedX, Bool.and_eq_true, decide_eq_true_eq] at h
  obtain ⟨⟨h1, h2⟩, h3⟩ := h
  refine ⟨h1, fun j oj hj hl e he hb => ?_, fun t ht hts => ?_⟩
  · have hjs : j < ops.size := (Array.getElem?_eq_some_iff.1 hj).1
    have := List.all_eq_true.1 h2 j (List.mem_range.2 hjs)
    rw [hl, hj] at this
    simp only [Bool.not_true, Bool.false_or] at this
    have := List.all_eq_true.1 this e (by simpa using he)
    rw [hb] at this
    simpa using this
  · have := List.all_eq_true.1 h3 t (List.mem_range.2 hts)
    simp only [Bool.or_eq_true, decide_eq_true_eq, Bool.not_eq_true'] at this
    rcases this with h | h
    · omega
    · exact h
/-- the operations at these places -/
def pickL (l : List Oper) : List Nat → List Oper
  | [] => []
  | k :: ks => match l[k]? with
    | some o => o :: pickL l ks
    | none => pickL l ks
theorem pickL_map (l : List Oper) : ∀ ks : List Nat, (∀ k ∈ ks, k < l.length) → (pickL l ks).map some = ks.map fun k => l.toArray[k]?
  | [], _ => rfl
  | k :: ks, h => by
    have hk := h k (List.mem_cons_self ..)
    rw [pickL, List.getElem?_eq_getElem hk]
    simp only [List.map_cons]
    rw [pickL_map l ks fun j hj => h j (List.mem_cons_of_mem _ hj)]
    simp [hk]
/-- what is asked: which are taken, the places of those that follow, and where the tail begins -/
def tailX (md : Region.Mode) (ops : Array Oper) (n : Nat) (ks : List Nat) (listed : Array Bool) : Bool :=
  Region.noSelect ops && decide (n < ops.size) && closedX md ops n listed && sinkX md ops n (fun i => listed.getD i false) && chainW md ops n && lexHeadI md ops (ops.size - n) n ks listed && ks.all fun k => decide (k < ops.size)
theorem any_tailX {Q : Exit → Act → World → Prop} {a : Act} {l : List Oper} {listed : Array Bool} {fuel : Nat} (n : Nat) (ks : List Nat)
    (hB : tailX .any l.toArray n ks listed = true) (hf : fuel = ks.length + (l.toArray.size - n)) (hQ0 : ∀ c a t v w, Q (.panic c) (a.put (some t) v) w → Q (.panic c) a w)
    (h : wpStill P l.toArray w (fun a' => wpList P l.toArray Q (l.drop n) a' w) (pickL l ks) a) : wpAny P .any l.toArray Q fuel listed a w := by
  have hQ := panic_put hQ0
  simp only [tailX, Bool.and_eq_true, decide_eq_true_eq] at hB
  obtain ⟨⟨⟨⟨⟨⟨hsel, hn⟩, hcl⟩, hs⟩, hc⟩, hlex⟩, hks⟩ := hB
  have hn' : n < l.length := by simpa using hn
  have hdl : (l.drop n).length = l.toArray.size - n := by simp
  have H := wpAnyL_lexX (md := .any) (P := P) (w := w) (g := l.toArray.size - n) (Lq := fun a' => wpList P l.toArray Q (l.drop n) a' w) hsel hs hc ks (pickL l ks) listed a
    (pickL_map l ks fun k hk => by have := List.all_eq_true.1 hks k hk; simpa using this) (closedX_inv hcl) (fun i _ hi => hi) hlex h
  have H2 := wpAny_of_head (Q' := Q) (g := l.toArray.size - n) (fun listed a' hL => by
    have h1 := hL.1
    rw [Bool.and_eq_true] at h1
    have := wpAny_of_seqP (md := .any) (Q' := Q) hsel hQ (l.drop n) n listed a' w (fun j => by simp [List.getElem?_drop]) (by rw [hdl]; exact h1.1) hL.2
    rwa [hdl] at this) _ _ _ H
  rw [hf]
  exact H2
/-- a load from the middle of a block, of one that leaves the world alone -/
theorem wpStill_mid {rest : List Oper} {o : Oper} {a : Act} {Q : Act → Prop} (hgd : o.guard = none) (ty : TypeId) (x : Operand) (ho : o.op = .load ty x) (b off : Nat) (hx : a.eval x = .pointer (some ⟨b, off, none⟩)) (cs : List Value) (d : TypeDesc)
    (hc : w.rangeAt b off cs) (hu : P.underlying ty = some d) (hd : d.isRow = true) (hi : (P.info? ty).map (·.size) = some cs.length) (h : wpStill P ops w Q rest (a.put o.dst (.agg cs.toArray))) : wpStill P ops w Q (o :: rest) a := by
  have hw : Region.wanted o (yielded ops a.tmps) = true := by simp [Region.wanted, hgd]
  refine wpStill_step fun K hK => ?_
  rw [if_pos hw]
  unfold Oper.still execOp
  simp only [ho, hx, Sem.run_bind, run_loadAt_mid w b off ty cs d hc hu hd hi, Sem.run_pure, Result.andThen_ok]
  exact ⟨rfl, hK _ h⟩
end
end Go.Proofs.Ytfajfmcabpmchaa

namespace Go.Proofs.Ytfajfmcabpmchaa
set_option maxRecDepth 100000
open Go Go.RowKit Go.Sort

/-- the peers f 0 to f (n - 1) lie in block b, from offset o on, and may be written -/
structure Dat (w : World) (b o : Nat) (f : Nat → Pe) (n : Nat) : Prop where
  cells : w.rangeAt b o (flat (seg f 0 n))
  there : w.there b o (n * 21)
  lt : b < w.heap.size
theorem range_flatD {w : World} {b : Nat} : ∀ {L : List Pe} {o : Nat}, (∀ i x, L[i]? = some x → w.rangeAt b (o + i * 21) (peC x)) → w.rangeAt b o (flat L)
  | [], o, _ => fun j v hv => by simp [flat] at hv
  | x :: L, o, h => fun j v hv => by
    by_cases hj : j < 21
    · have := h 0 x rfl j v (by rw [flat, List.getElem?_append_left (by rw [peC_length]; exact hj)] at hv; exact hv)
      rwa [Nat.zero_mul, Nat.add_zero] at this
    · have := range_flatD (L := L) (o := o + 21) (fun i y hy => by
        have := h (i + 1) y (by simpa using hy)
        rwa [show o + (i + 1) * 21 = o + 21 + i * 21 by omega] at this) (j - 21) v (by rw [flat, List.getElem?_append_right (by rw [peC_length]; omega), peC_length] at hv; exact hv)
      rwa [show o + 21 + (j - 21) = o + j by omega] at this
theorem Dat.at {w : World} {b o n : Nat} {f : Nat → Pe} (h : Dat w b o f n) {i : Nat} (hi : i < n) : w.rangeAt b (o + i * 21) (peC (f i)) :=
  row_peer h.cells (by rw [seg_get _ _ _ _ (by omega), Nat.zero_add])
theorem Dat.thereAt {w : World} {b o n : Nat} {f : Nat → Pe} (h : Dat w b o f n) {i : Nat} (hi : i < n) : w.there b (o + i * 21) 21 := fun j hj => by
  have := h.there (i * 21 + j) (by omega)
  rwa [show o + (i * 21 + j) = o + i * 21 + j by omega] at this
theorem Dat.of {w : World} {b o n : Nat} {f : Nat → Pe} (h : ∀ i, i < n → w.rangeAt b (o + i * 21) (peC (f i))) (ht : w.there b o (n * 21)) (hl : b < w.heap.size) : Dat w b o f n :=
  ⟨range_flatD fun i x hx => by
    have hi : i < n := by have := (List.getElem?_eq_some_iff.1 hx).1; rw [seg_length] at this; omega
    rw [seg_get _ _ _ _ (by omega), Nat.zero_add, Option.some.injEq] at hx
    subst hx
    exact h i hi, ht, hl⟩
theorem there_kept {w w' : World} {b o n : Nat} (h : w.there b o n) (hk : w'.heap[b]? = w.heap[b]?) : w'.there b o n := fun j hj => by
  obtain ⟨h1, h2⟩ := h j hj
  exact ⟨by rw [World.cell?_of_block (a := ⟨b, o + j, none⟩) hk]; exact h1, by rw [World.frozen?_of_block (a := ⟨b, o + j, none⟩) hk]; exact h2⟩
theorem Dat.kept {w w' : World} {b o n : Nat} {f : Nat → Pe} (h : Dat w b o f n) (hk : w'.heap[b]? = w.heap[b]?) (hs : w.heap.size ≤ w'.heap.size) : Dat w' b o f n :=
  ⟨fun j v hv => (World.cell?_of_block (a := ⟨b, o + j, none⟩) hk).trans (h.cells j v hv), there_kept h.there hk, Nat.lt_of_lt_of_le h.lt hs⟩
theorem Dat.bel {w w' : World} {b o n : Nat} {f : Nat → Pe} (h : Dat w b o f n) (hb : Below w.heap.size w w') : Dat w' b o f n := h.kept (hb.block b h.lt) hb.size
theorem grownBy_trans {a b c : World} {r : Option Nat} (h : a.grownBy b r) (k : b.grownBy c r) : a.grownBy c r :=
  ⟨k.os.trans h.os, k.tape.trans h.tape, k.output.trans h.output, Nat.le_trans h.size k.size, fun i hi hr => (k.block i (Nat.lt_of_lt_of_le hi h.size) hr).trans (h.block i hi hr)⟩
theorem bel_grown {w w' : World} (h : Below w.heap.size w w') (r : Option Nat) : w.grownBy w' r := ⟨h.os, h.tape, h.output, h.size, fun i hi _ => h.block i hi⟩
theorem tape_setCells (b : Nat) : ∀ (vs : List Value) (o : Nat) (w : World), (w.setCells b o vs).tape = w.tape ∧ (w.setCells b o vs).heap.size = w.heap.size
  | [], _, _ => ⟨rfl, rfl⟩
  | v :: vs, o, w => by
    obtain ⟨h1, h2⟩ := tape_setCells b vs (o + 1) (w.setCell ⟨b, o, none⟩ v)
    exact ⟨h1, h2.trans (by simp [World.setCell])⟩
theorem grown_set (w : World) (b o : Nat) (vs : List Value) : w.grownBy (w.setCells b o vs) (some b) :=
  ⟨World.os_setCells w b o vs, (tape_setCells b vs o w).1, World.output_setCells w b o vs, Nat.le_of_eq (tape_setCells b vs o w).2.symm, fun i hi hr => World.heap_setCells_other w b o vs hi (fun e => hr (by rw [e]))⟩
theorem Dat.set {w : World} {b o n : Nat} {f : Nat → Pe} (h : Dat w b o f n) {i : Nat} (hi : i < n) (x : Pe) : Dat (w.setCells b (o + i * 21) (peC x)) b o (fun j => if j = i then x else f j) n := by
  refine .of (fun j hj => ?_) (World.there_setCells h.there _ _ _) (by rw [(tape_setCells _ _ _ _).2]; exact h.lt)
  by_cases e : j = i
  · subst e
    simp only [if_true]
    exact World.rangeAt_setCells_same _ _ _ _ (by rw [peC_length]; exact h.thereAt hi)
  · rw [if_neg e]
    refine World.rangeAt_setCells_apart (h.at hj) _ _ _ (.inr ?_)
    rw [peC_length, peC_length]; omega
/-- two places change -/
theorem Dat.swp {w : World} {b o n : Nat} {f : Nat → Pe} (h : Dat w b o f n) {p q : Nat} (hp : p < n) (hq : q < n) :
    Dat ((w.setCells b (o + p * 21) (peC (f q))).setCells b (o + q * 21) (peC (f p))) b o (swp f p q) n := (h.set hp (f q)).set hq (f p)
theorem grown_swp (w : World) (b o p q : Nat) (x y : Pe) : w.grownBy ((w.setCells b (o + p * 21) (peC x)).setCells b (o + q * 21) (peC y)) (some b) := grownBy_trans (grown_set ..) (grown_set ..)
theorem Dat.congr {w : World} {b o n : Nat} {f g : Nat → Pe} (h : Dat w b o f n) (e : ∀ i, i < n → f i = g i) : Dat w b o g n :=
  ⟨by rw [← seg_congr (f := f) (g := g) fun i _ hi => e i hi]; exact h.cells, h.there, h.lt⟩

theorem pe_oneL (x : Pe) : ∀ v ∈ peC x, v.oneCell' = true := peC_one x
theorem sizePL (x : Pe) : (Try.prog.info? 28).map (·.size) = some (peC x).length := by rw [peC_length]; exact sizeP

/-- a call of the row's sort: it changes block b alone -/
def Does (w : World) (b o n : Nat) (g : Nat → Pe) (e : Ending) (w' : World) : Prop := e = .returned (.tuple #[]) ∧ Dat w' b o g n ∧ w.grownBy w' (some b)
theorem sum_in (a i : Nat) (h : a + i ≤ 1000000) : IntKind.i64.wrap ((a : Int) + (i : Int)) = ((a + i : Nat) : Int) := by
  rw [← Int.natCast_add]; exact IntWalk.i64_in _ (by omega)
theorem p_idxP {ops : Array Oper} {rest : List Oper} {op : Oper} {a : Act} {w : World} {Q : Exit → Act → World → Prop} (hgd : op.guard = none) (s i : Operand) (ho : op.op = .indexAddr 37 s i)
    (b o n c p : Nat) (hs : a.eval s = .slice (some ⟨b, o, none⟩) n c) (hi : a.eval i = .int .i64 (p : Int)) (hp : p < n) (h : wpList Try.prog ops Q rest (a.put op.dst (.pointer (some ⟨b, o + p * 21, none⟩))) w) : wpList Try.prog ops Q (op :: rest) a w := by
  obtain ⟨i0, hi0, hq⟩ := Option.map_eq_some_iff.1 sizeP
  have hel : Try.prog.elem 37 = 28 := by simp [Program.elem, Try.underlying37]
  have hT : Try.prog.underlying 37 = some (.slice (Try.prog.elem 37)) := by rw [hel]; exact Try.underlying37
  have hr : (Instr.indexAt 37 (.slice (some ⟨b, o, none⟩) n c) (.int .i64 (p : Int))).run Try.prog w = .ok (.pointer (some ⟨b, o + p * 21, none⟩)) w := by
    rw [run_indexAt_slice _ _ _ _ _ _ _ hT, if_pos ⟨by omega, by omega⟩, hel]
    simp [sizeOf, typeInfo, hi0, hq, Result.andThen, Addr.add_mid]
  refine wpList_plain hgd fun K hK => ?_
  unfold Oper.wp execOp
  simp only [ho, hs, hi, Sem.run_bind, hr, Sem.run_pure, Result.andThen_ok]
  exact hK _ _ h
set_option maxHeartbeats 1000000 in
theorem swapRange_any {w : World} {b o c n : Nat} {f : Nat → Pe} {v : Value} (h : Dat w b o f n) (a m k : Nat) (hn : n ≤ 1000) (ha : a + k ≤ m) (hm : m + k ≤ n) :
    Calls Try.prog 99 #[.slice (some ⟨b, o, none⟩) n c, .int .i64 (a : Int), .int .i64 (m : Int), .int .i64 (k : Int), v] w (Does w b o n (swpR f a m k)) := by
  have H := Lib.hid h
  clear h
  go_enter Try.func99, Try.ntmps99
  go_wp2
  go_loopw [10] (fun i wr => ∃ q : Nat, q ≤ k ∧ i = .int .i64 (q : Int) ∧ Dat wr b o (swpR f a m q) n ∧ w.grownBy wr (some b)) (fun i _ => k - (intOf i).toNat)
  case atStart => exact ⟨0, by omega, rfl, by rw [swpR_zero]; exact H.out, World.grownBy.refl _ _⟩
  case round =>
    obtain ⟨q, hq, rfl, hD, hG⟩ := hrel
    by_cases hlt : q < k
    · have hD2 := (hD.bel (drew_bel wr)).swp (p := a + q) (q := m + q) (by omega) (by omega)
      rw [swpR_succ f (by omega)] at hD2
      have hG2 := fun x y => grownBy_trans (grownBy_trans hG (bel_grown (drew_bel wr) _)) (grown_swp wr.drew b o (a + q) (m + q) x y)
      have r1 := hD.at (i := a + q) (by omega)
      have r2 := hD.at (i := m + q) (by omega)
      have t1 := hD.thereAt (i := a + q) (by omega)
      have t2 := hD.thereAt (i := m + q) (by omega)
      generalize hx : swpR f a m q (a + q) = x at *
      generalize hy : swpR f a m q (m + q) = y at *
      clear hx hy
      have HD2 := Lib.hid hD2
      have HG2 := Lib.hid (hG2 y x)
      clear hD hG hD2 hG2
      have s1 := sum_in a q (by omega)
      have s2 := sum_in m q (by omega)
      have hu := Try.underlying28
      have i1 := sizePL x
      have i2 := sizePL y
      have l1 := peC_length x
      have l2 := peC_length y
      have o1 := pe_oneL x
      have o2 := pe_oneL y
      have b1 : ((a + q : Nat) : Int) < (n : Int) := by omega
      have b2 : ((m + q : Nat) : Int) < (n : Int) := by omega
      have b3 : (0 : Int) ≤ ((a + q : Nat) : Int) := by omega
      have b4 : (0 : Int) ≤ ((m + q : Nat) : Int) := by omega
      generalize hp1 : a + q = p1 at *
      generalize hp2 : m + q = p2 at *
      go_upto_region 3 with (fail)
      (try simp only [Act.put])
      have r1 := (show wr.drew.rangeAt b (o + p1 * 21) (peC x) from r1)
      have r2 := (show wr.drew.rangeAt b (o + p2 * 21) (peC y) from r2)
      have t1 := (show wr.drew.there b (o + p1 * 21) 21 from t1)
      have t2 := World.there_setCells (show wr.drew.there b (o + p2 * 21) 21 from t2) b (o + p1 * 21) (peC y)
      refine wp_region_any (by kernel_rfl) ?_
      change wpAny _ _ _ _ _ _ _ (World.drew _)
      refine wpAny_take (i := 4) (v := ?_) rfl (by kernel_rfl) (by kernel_rfl) (by kernel_rfl) (fun _ _ _ h => h) (Or.inl ⟨by rfl, ?_⟩) ?_
      rotate_left
      · intro w9
        go_simp
        (try with_reducible rfl)
      (try simp only [Act.put]); (try simp only [List.setIfInBounds_toArray]); (try simp only [List.set_cons_succ]); (try simp only [List.set_cons_zero])
      refine wpAny_take (i := 5) (v := ?_) rfl (by kernel_rfl) (by kernel_rfl) (by kernel_rfl) (fun _ _ _ h => h) (Or.inl ⟨by rfl, ?_⟩) ?_
      rotate_left
      · intro w9
        go_simp
        (try with_reducible rfl)
      (try simp only [Act.put]); (try simp only [List.setIfInBounds_toArray]); (try simp only [List.set_cons_succ]); (try simp only [List.set_cons_zero])
      refine wpAny_take (i := 6) (v := ?_) rfl (by kernel_rfl) (by kernel_rfl) (by kernel_rfl) (fun _ _ _ h => h) (Or.inl ⟨by rfl, ?_⟩) ?_
      rotate_left
      · intro w9
        go_simp
        (try with_reducible rfl)
      (try simp only [Act.put]); (try simp only [List.setIfInBounds_toArray]); (try simp only [List.set_cons_succ]); (try simp only [List.set_cons_zero])
      refine wpAny_take (i := 7) (v := ?_) rfl (by kernel_rfl) (by kernel_rfl) (by kernel_rfl) (fun _ _ _ h => h) (Or.inl ⟨by rfl, ?_⟩) ?_
      rotate_left
      · intro w9
        go_simp
        (try with_reducible rfl)
      (try simp only [Act.put]); (try simp only [List.setIfInBounds_toArray]); (try simp only [List.set_cons_succ]); (try simp only [List.set_cons_zero])
      refine any_tailX 20 [0, 1, 2, 3, 8, 9, 10, 11, 12, 13, 14, 15, 16, 17, 18, 19] (by kernel_rfl) (by rfl) (fun _ _ _ _ _ h => h) ?_
      simp only [pickL, List.getElem?_cons_succ, List.getElem?_cons_zero, List.drop_succ_cons, List.drop_zero]
      still_step
      still_step
      still_step
      still_step
      still_step
      still_step
      still_step
      still_step
      still_step
      refine wpStill_mid rfl 28 _ rfl b (o + p2 * 21) rfl (peC y) _ r2 Try.underlying28 rfl (sizePL y) ?_
      (try simp only [Act.put]); (try simp only [List.setIfInBounds_toArray]); (try simp only [List.set_cons_succ]); (try simp only [List.set_cons_zero])
      still_step
      still_step
      still_step
      still_step
      still_step
      refine wpStill_mid rfl 28 _ rfl b (o + p1 * 21) rfl (peC x) _ r1 Try.underlying28 rfl (sizePL x) ?_
      (try simp only [Act.put]); (try simp only [List.setIfInBounds_toArray]); (try simp only [List.set_cons_succ]); (try simp only [List.set_cons_zero])
      refine wpStill_nil ?_
      (try simp only [Act.put]); (try simp only [List.setIfInBounds_toArray]); (try simp only [List.set_cons_succ]); (try simp only [List.set_cons_zero])
      refine p_idxP rfl _ _ rfl b o n c p1 rfl rfl (by omega) ?_
      (try simp only [Act.put]); (try simp only [List.setIfInBounds_toArray]); (try simp only [List.set_cons_succ]); (try simp only [List.set_cons_zero])
      refine wpList_store_mid rfl 28 _ _ rfl b (o + p1 * 21) (peA y) rfl rfl (by rw [peA_size]; exact t1) (by rw [peA_size]; exact sizeP) (peA_one y) ?_
      rw [peA_list]
      (try simp only [Act.put]); (try simp only [List.setIfInBounds_toArray]); (try simp only [List.set_cons_succ]); (try simp only [List.set_cons_zero])
      refine p_idxP rfl _ _ rfl b o n c p2 rfl rfl (by omega) ?_
      (try simp only [Act.put]); (try simp only [List.setIfInBounds_toArray]); (try simp only [List.set_cons_succ]); (try simp only [List.set_cons_zero])
      refine wpList_store_mid rfl 28 _ _ rfl b (o + p2 * 21) (peA x) rfl rfl (by rw [peA_size]; exact t2) (by rw [peA_size]; exact sizeP) (peA_one x) ?_
      rw [peA_list]
      (try simp only [Act.put]); (try simp only [List.setIfInBounds_toArray]); (try simp only [List.set_cons_succ]); (try simp only [List.set_cons_zero])
      have HD3 := HD2.out
      have HG3 := HG2.out
      clear HD2 HG2
      generalize (wr.drew.setCells b (o + p1 * 21) (peC y)).setCells b (o + p2 * 21) (peC x) = W2 at *
      clear hu i1 i2 l1 l2 o1 o2 r1 r2 t1 t2
      go_wp2
      exact ⟨⟨q + 1, by omega, by go_num, HD3, HG3⟩, by simp [intOf]; omega⟩
    · obtain rfl : k = q := by omega
      go_wp2
      refine bodyPost_end (results_none rfl _ _ _) rfl ⟨rfl, hD, hG⟩
end Go.Proofs.Ytfajfmcabpmchaa

namespace Go.Proofs.Ytfajfmcabpmchaa
set_option maxRecDepth 100000
open Go Go.RowKit Go.Sort

def cmpV (a b : Int) : Int := if a < b then -1 else if b < a then 1 else 0
theorem cmpV_lt (a b : Int) : decide (cmpV a b < 0) = decide (a < b) := by
  unfold cmpV
  split
  · rename_i h; simp [h]
  · rename_i h
    split <;> simp [h]
theorem isNaN_any (a : Int) (w : World) : Calls Try.prog 92 #[.int .i64 a] w fun e w' => e = .returned (.bool false) ∧ w = w' := by
  go_enter Try.func92, Try.ntmps92
  go_wp2
  go_ret
  simp
theorem compare_any (a b : Int) (w : World) : Calls Try.prog 77 #[.int .i64 a, .int .i64 b] w fun e w' => e = .returned (.int .i64 (cmpV a b)) ∧ w = w' := by
  have HN := Lib.hid isNaN_any
  unfold cmpV
  by_cases h1 : a < b
  · rw [if_pos h1]
    go_enter Try.func77, Try.ntmps77
    go_wp2_with (go_at_call 92; (with_reducible refine (HN.out _ _).mono ?_); rintro e w1 ⟨rfl, rfl⟩)
    go_ret
    exact ⟨rfl, rfl⟩
  · rw [if_neg h1]
    by_cases h2 : b < a
    · rw [if_pos h2]
      go_enter Try.func77, Try.ntmps77
      go_wp2_with (go_at_call 92; (with_reducible refine (HN.out _ _).mono ?_); rintro e w1 ⟨rfl, rfl⟩)
      go_ret
      exact ⟨rfl, rfl⟩
    · rw [if_neg h2]
      go_enter Try.func77, Try.ntmps77
      go_wp2_with (go_at_call 92; (with_reducible refine (HN.out _ _).mono ?_); rintro e w1 ⟨rfl, rfl⟩)
      go_ret
      exact ⟨rfl, rfl⟩
/-- the function that the sort is handed -/
abbrev cmpF : Value := .func (.func 76) #[] #[]
theorem cmp_any (x y : Pe) (w : World) : Calls Try.prog 76 #[.agg (peA x), .agg (peA y)] w fun e w' => e = .returned (.int .i64 (cmpV x.1 y.1)) ∧ Below w.heap.size w w' := by
  have B0 := ((Below.refl w.heap.size w).alloc (Nat.le_refl _) (.cells (peA x) 28)).alloc (by simp) (.cells (peA y) 28)
  have c0 : ((w.alloc (.cells (peA x) 28)).alloc (.cells (peA y) 28)).cell? ⟨w.heap.size, 0, none⟩ = some (.int .i64 x.1) := ((Blk.new w (peA x) 28).alloc _).cell 0
  have c1 : ((w.alloc (.cells (peA x) 28)).alloc (.cells (peA y) 28)).cell? ⟨w.heap.size + 1, 0, none⟩ = some (.int .i64 y.1) := by
    have := (Blk.new (w.alloc (.cells (peA x) 28)) (peA y) 28).cell 0
    rwa [World.size_alloc] at this
  have HC := Lib.hid (compare_any x.1 y.1)
  have HB := Lib.hid B0
  clear B0
  go_enter Try.func76, Try.ntmps76
  go_upto_region 1 with (fail)
  generalize (w.alloc _).alloc _ = W at *
  generalize peA x = X at *
  generalize peA y = Y at *
  go_wp2_with (go_at_call 77; (with_reducible refine (HC.out _).mono ?_); rintro e w1 ⟨rfl, rfl⟩)
  go_ret
  exact ⟨rfl, HB.out⟩
theorem cmp_gives (x y : Pe) : Gives Try.prog 76 #[.agg (peA x), .agg (peA y)] (.int .i64 (cmpV x.1 y.1)) := cmp_any x y
theorem eq_any (x y : Pe) (w : World) : Calls Try.prog 79 #[.agg (peA x), .agg (peA y)] w fun e w' => e = .returned (.bool (x.1 == y.1)) ∧ Below w.heap.size w w' := by
  have B0 := ((Below.refl w.heap.size w).alloc (Nat.le_refl _) (.cells (peA x) 28)).alloc (by simp) (.cells (peA y) 28)
  have c0 : ((w.alloc (.cells (peA x) 28)).alloc (.cells (peA y) 28)).cell? ⟨w.heap.size, 0, none⟩ = some (.int .i64 x.1) := ((Blk.new w (peA x) 28).alloc _).cell 0
  have c1 : ((w.alloc (.cells (peA x) 28)).alloc (.cells (peA y) 28)).cell? ⟨w.heap.size + 1, 0, none⟩ = some (.int .i64 y.1) := by
    have := (Blk.new (w.alloc (.cells (peA x) 28)) (peA y) 28).cell 0
    rwa [World.size_alloc] at this
  have HB := Lib.hid B0
  clear B0
  go_enter Try.func79, Try.ntmps79
  go_upto_region 1 with (fail)
  generalize (w.alloc _).alloc _ = W at *
  generalize peA x = X at *
  generalize peA y = Y at *
  go_wp2
  go_ret
  exact ⟨rfl, HB.out⟩
theorem eq_gives (x y : Pe) : Gives Try.prog 79 #[.agg (peA x), .agg (peA y)] (.bool (x.1 == y.1)) := eq_any x y

set_option maxHeartbeats 2000000 in
theorem rotate_any {w : World} {b o c n : Nat} {f : Nat → Pe} {v : Value} (h : Dat w b o f n) (a m e : Nat) (hn : n ≤ 1000) (ha : a < m) (hm : m < e) (he : e ≤ n) :
    Calls Try.prog 98 #[.slice (some ⟨b, o, none⟩) n c, .int .i64 (a : Int), .int .i64 (m : Int), .int .i64 (e : Int), v] w (Does w b o n (rot f a m e)) := by
  have H := Lib.hid h
  clear h
  have w1 : IntKind.i64.wrap ((m : Int) - (a : Int)) = ((m - a : Nat) : Int) := by rw [← Int.ofNat_sub (by omega)]; exact IntWalk.i64_in _ (by omega)
  have w2 : IntKind.i64.wrap ((e : Int) - (m : Int)) = ((e - m : Nat) : Int) := by rw [← Int.ofNat_sub (by omega)]; exact IntWalk.i64_in _ (by omega)
  have hr : rot f (m - (m - a)) m (m + (e - m)) = rot f a m e := by rw [show m - (m - a) = a by omega, show m + (e - m) = e by omega]
  generalize hi0 : m - a = i0 at *
  generalize hj0 : e - m = j0 at *
  rw [← hr]
  have p0 : 0 < i0 ∧ 0 < j0 ∧ i0 ≤ m ∧ m + j0 ≤ n := by omega
  clear hr hi0 hj0
  have HP := Lib.hid p0
  clear p0 ha hm he
  go_enter Try.func98, Try.ntmps98
  go_wp2
  clear w1 w2
  go_loopw [10, 11] (fun x y wr => ∃ (i j : Nat) (g : Nat → Pe), x = .int .i64 (i : Int) ∧ y = .int .i64 (j : Int) ∧ 0 < i ∧ 0 < j ∧ i ≤ m ∧ m + j ≤ n ∧ Dat wr b o g n ∧ rot g (m - i) m (m + j) = rot f (m - i0) m (m + j0) ∧ w.grownBy wr (some b)) (fun x y _ => (intOf x).toNat + (intOf y).toNat)
  case atStart => exact ⟨i0, j0, f, rfl, rfl, HP.out.1, HP.out.2.1, HP.out.2.2.1, HP.out.2.2.2, H.out, rfl, World.grownBy.refl _ _⟩
  case round =>
    obtain ⟨i, j, g, rfl, rfl, hi, hj, him, hjn, hD, hR, hG⟩ := hrel
    have HR := Lib.hid hR
    clear hR
    have w1 : IntKind.i64.wrap ((m : Int) - (i : Int)) = ((m - i : Nat) : Int) := by rw [← Int.ofNat_sub him]; exact IntWalk.i64_in _ (by omega)
    rcases Nat.lt_trichotomy i j with hlt | rfl | hgt
    · have w2 : IntKind.i64.wrap ((j : Int) - (i : Int)) = ((j - i : Nat) : Int) := by rw [← Int.ofNat_sub (Nat.le_of_lt hlt)]; exact IntWalk.i64_in _ (by omega)
      have w3 : IntKind.i64.wrap (IntKind.i64.wrap ((m : Int) + (j : Int)) - (i : Int)) = ((m + j - i : Nat) : Int) := by rw [sum_in m j (by omega), ← Int.ofNat_sub (by omega)]; exact IntWalk.i64_in _ (by omega)
      have w4 : IntKind.i64.wrap ((m : Int) + (j : Int) - (i : Int)) = ((m + j - i : Nat) : Int) := by rw [← Int.natCast_add, ← Int.ofNat_sub (by omega)]; exact IntWalk.i64_in _ (by omega)
      have d1 : ((i : Int) == (j : Int)) = false := by simp; omega
      have d2 : decide ((j : Int) < (i : Int)) = false := decide_eq_false (by omega)
      have HS := Lib.hid (swapRange_any (v := v) (c := c) hD (m - i) (m + j - i) i hn (by omega) (by omega))
      have HL := Lib.hid (rot_less g him hlt)
      have hz1 : 0 < j - i := by omega
      have hz2 : m + (j - i) ≤ n := by omega
      have hz3 : (i : Int) + ((j - i : Nat) : Int) < (i : Int) + (j : Int) := by omega
      generalize hx1 : m - i = x1 at *
      generalize hx2 : m + j - i = x2 at *
      generalize hx3 : j - i = x3 at *
      go_wp2_with (go_at_call 99; (with_reducible refine HS.out.mono ?_); rintro e w5 ⟨rfl, hD5, hG5⟩)
      refine ⟨⟨i, x3, _, rfl, rfl, hi, hz1, him, hz2, hD5, ?_, grownBy_trans hG hG5⟩, by simp [intOf]; omega⟩
      rw [← HR.out, ← HL.out, hx1]
    · have d1 : ((i : Int) == (i : Int)) = true := by simp
      have HS := Lib.hid (swapRange_any (v := v) (c := c) hD (m - i) m i hn (by omega) (by omega))
      have HL := Lib.hid (rot_same g him)
      generalize hx1 : m - i = x1 at *
      go_wp2_with (go_at_call 99; (with_reducible refine HS.out.mono ?_); rintro e w5 ⟨rfl, hD5, hG5⟩)
      refine bodyPost_end (results_none rfl _ _ _) rfl ⟨rfl, ?_, grownBy_trans hG hG5⟩
      rw [← HR.out, ← HL.out]
      exact hD5
    · have w2 : IntKind.i64.wrap ((i : Int) - (j : Int)) = ((i - j : Nat) : Int) := by rw [← Int.ofNat_sub (Nat.le_of_lt hgt)]; exact IntWalk.i64_in _ (by omega)
      have d1 : ((i : Int) == (j : Int)) = false := by simp; omega
      have d2 : decide ((j : Int) < (i : Int)) = true := decide_eq_true (by omega)
      have HS := Lib.hid (swapRange_any (v := v) (c := c) hD (m - i) m j hn (by omega) (by omega))
      have HL := Lib.hid (rot_more g him hgt)
      have hz1 : 0 < i - j := by omega
      have hz2 : i - j ≤ m := by omega
      have hz3 : ((i - j : Nat) : Int) + (j : Int) < (i : Int) + (j : Int) := by omega
      generalize hx1 : m - i = x1 at *
      generalize hx3 : i - j = x3 at *
      go_wp2_with (go_at_call 99; (with_reducible refine HS.out.mono ?_); rintro e w5 ⟨rfl, hD5, hG5⟩)
      refine ⟨⟨x3, j, _, rfl, rfl, hz1, hj, hz2, hjn, hD5, ?_, grownBy_trans hG hG5⟩, by simp [intOf]; omega⟩
      rw [← HR.out, ← HL.out]
end Go.Proofs.Ytfajfmcabpmchaa

namespace Go.Proofs.Ytfajfmcabpmchaa
set_option maxRecDepth 100000
open Go Go.RowKit Go.Sort

/-- the one at p is moved down to q -/
def mov (f : Nat → Pe) (q p : Nat) : Nat → Pe := fun x => if x = q then f p else if q < x ∧ x ≤ p then f (x - 1) else f x
theorem mov_self (f : Nat → Pe) (p : Nat) : mov f p p = f := by
  funext x; unfold mov
  by_cases h : x = p
  · rw [if_pos h, h]
  · rw [if_neg h, if_neg (by omega)]
theorem mov_step (f : Nat → Pe) {q p : Nat} (h : q + 1 ≤ p) : swp (mov f (q + 1) p) (q + 1) q = mov f q p := by
  funext x
  unfold swp mov
  by_cases h1 : x = q
  · rw [if_pos h1, if_pos rfl, if_pos h1]
  · rw [if_neg h1]
    by_cases h2 : x = q + 1
    · rw [if_pos h2, if_neg (by omega), if_neg (by omega), if_neg h1, if_pos (by omega)]
      congr 1; omega
    · rw [if_neg h2, if_neg h2, if_neg h1]
      by_cases h3 : q + 1 < x ∧ x ≤ p
      · rw [if_pos h3, if_pos (by omega)]
      · rw [if_neg h3, if_neg (by omega)]
theorem mov_out (f : Nat → Pe) {q p x : Nat} (hq : q ≤ p) (h : x < q ∨ p < x) : mov f q p x = f x := by
  unfold mov; rw [if_neg (by omega), if_neg (by omega)]
theorem mov_at (f : Nat → Pe) (q p : Nat) : mov f q p q = f p := by unfold mov; rw [if_pos rfl]
theorem mov_seg (f : Nat → Pe) {a q p : Nat} (h1 : a ≤ q) (h2 : q ≤ p) : seg (mov f q p) a (p + 1) = (seg f a p).take (q - a) ++ f p :: (seg f a p).drop (q - a) := by
  have e1 : (seg f a p).take (q - a) = seg f a q := by rw [seg_split f h1 h2, List.take_append_of_le_length (by rw [seg_length]; exact Nat.le_refl _), List.take_of_length_le (by rw [seg_length]; exact Nat.le_refl _)]
  have e2 : (seg f a p).drop (q - a) = seg f q p := by rw [seg_split f h1 h2, List.drop_append, seg_length, List.drop_eq_nil_of_le (by rw [seg_length]; exact Nat.le_refl _), Nat.sub_self, List.drop_zero, List.nil_append]
  rw [e1, e2, seg_split (mov f q p) h1 (show q ≤ p + 1 by omega), seg_split (mov f q p) (show q ≤ q + 1 by omega) (show q + 1 ≤ p + 1 by omega), seg_one, mov_at]
  rw [seg_congr (f := mov f q p) (g := f) (a := a) (b := q) fun i _ hi => mov_out f h2 (.inl hi)]
  rw [seg_shift (f := mov f q p) (g := f) (a := q + 1) (b := p + 1) (c := q) (d := p) (by omega) fun i hi => by
    unfold mov; rw [if_neg (by omega), if_pos (by omega)]; congr 1; omega]
  rfl
theorem sub_in (q : Nat) (h : q ≤ 1000000) : IntKind.i64.wrap (((q + 1 : Nat) : Int) - 1) = (q : Int) := by
  rw [show ((q + 1 : Nat) : Int) - 1 = (q : Int) by omega]; exact IntWalk.i64_in _ (by omega)
theorem sub_in' (q : Nat) (h : q ≤ 1000000) : IntKind.i64.wrap ((q : Int) + 1 - 1) = (q : Int) := by
  rw [show (q : Int) + 1 - 1 = (q : Int) by omega]; exact IntWalk.i64_in _ (by omega)
set_option maxHeartbeats 4000000 in
theorem insertion_any {w : World} {b o c n : Nat} {f : Nat → Pe} (h : Dat w b o f n) (a e : Nat) (hn : n ≤ 1000) (ha : a ≤ e) (he : e ≤ n) :
    Calls Try.prog 94 #[.slice (some ⟨b, o, none⟩) n c, .int .i64 (a : Int), .int .i64 (e : Int), cmpF] w fun r w' =>
      ∃ g, Does w b o n g r w' ∧ (∀ x, x < a ∨ e ≤ x → g x = f x) ∧ SO (seg f a e) (seg g a e) := by
  have H := Lib.hid h
  clear h
  rcases Nat.lt_or_ge a e with hae | hae
  rotate_left
  · obtain rfl : e = a := by omega
    have d1 : decide ((e : Int) + 1 < (e : Int)) = false := decide_eq_false (by omega)
    go_enter Try.func94, Try.ntmps94
    go_wp2
    refine wp_loop_rounds 1 ?_
    rw [rounds_succ]
    go_wp2
    refine bodyPost_end (results_none rfl _ _ _) rfl ⟨f, ⟨rfl, H.out, World.grownBy.refl _ _⟩, fun _ _ => rfl, ?_⟩
    rw [seg_none f (Nat.le_refl _)]
    exact SO.self List.Pairwise.nil
  go_enter Try.func94, Try.ntmps94
  go_wp2
  go_loopw [8] (fun i wr => ∃ (p : Nat) (g : Nat → Pe), i = .int .i64 (p : Int) ∧ a + 1 ≤ p ∧ p ≤ e ∧ Dat wr b o g n ∧ w.grownBy wr (some b) ∧ (∀ x, x < a ∨ p ≤ x → g x = f x) ∧ SO (seg f a p) (seg g a p)) (fun i _ => e + 1 - (intOf i).toNat)
  case atStart => exact ⟨a + 1, f, by go_num, Nat.le_refl _, hae, H.out, World.grownBy.refl _ _, fun _ _ => rfl, SO.self (by rw [seg_one]; exact List.pairwise_singleton _ _)⟩
  case round =>
    obtain ⟨p, g, rfl, hp1, hp2, hD, hG, ho, hS⟩ := hrel
    have HO := Lib.hid ho
    have HS := Lib.hid hS
    have HG := Lib.hid hG
    have HD := Lib.hid hD
    have HP2 := Lib.hid hp2
    clear ho hS hG hD hp2
    by_cases hlt : p < e
    · go_upto_region 4 with (fail)
      go_loopw [9] (fun j wv => ∃ q : Nat, j = .int .i64 (q : Int) ∧ a ≤ q ∧ q ≤ p ∧ Dat wv b o (mov g q p) n ∧ w.grownBy wv (some b) ∧ ∀ x, q ≤ x → x < p → (g p).1 < (g x).1) (fun j _ => (intOf j).toNat)
      case atStart => exact ⟨p, rfl, by omega, Nat.le_refl _, by rw [mov_self]; exact HD.out, HG.out, fun x h1 h2 => by omega⟩
      case round =>
        obtain ⟨q, rfl, hq1, hq2, hDq, hGq, hM⟩ := hrel
        have HM := Lib.hid hM
        have HGq := Lib.hid hGq
        have HDq := Lib.hid hDq
        clear hM hGq hDq
        have fin : (q = a ∨ (g (q - 1)).1 ≤ (g p).1) → SO (seg f a (p + 1)) (seg (mov g q p) a (p + 1)) := fun hh => by
          rw [mov_seg g hq1 hq2, seg_split f (show a ≤ p by omega) (show p ≤ p + 1 by omega), seg_one, ← HO.out p (.inr (Nat.le_refl _))]
          have hu := up_seg.1 HS.out.up
          refine HS.out.ins (fun y hy => ?_) (fun y hy => ?_)
          · obtain ⟨i, h1, h2, rfl⟩ := seg_mem (f := g) (a := q) (b := p) (x := y) (by
              rw [seg_split g hq1 hq2, List.drop_append, seg_length, List.drop_eq_nil_of_le (by rw [seg_length]; exact Nat.le_refl _), Nat.sub_self, List.drop_zero, List.nil_append] at hy
              exact hy)
            exact HM.out i h1 h2
          · obtain ⟨i, h1, h2, rfl⟩ := seg_mem (f := g) (a := a) (b := q) (x := y) (by
              rw [seg_split g hq1 hq2, List.take_append_of_le_length (by rw [seg_length]; exact Nat.le_refl _)] at hy
              exact List.mem_of_mem_take hy)
            rcases hh with rfl | hh
            · omega
            · rcases Nat.lt_or_ge i (q - 1) with h3 | h3
              · exact Int.le_trans (hu i (q - 1) h1 h3 (by omega)) hh
              · obtain rfl : i = q - 1 := by omega
                exact hh
        have HF := Lib.hid fin
        clear fin
        have out : ∀ x, x < a ∨ p + 1 ≤ x → mov g q p x = f x := fun x hx => by
          rw [mov_out g hq2 (by omega)]
          exact HO.out x (by omega)
        have HOut := Lib.hid out
        clear out
        rcases Nat.lt_or_ge a q with h3 | h3
        rotate_left
        · obtain rfl : q = a := by omega
          have d1 : decide ((q : Int) < (q : Int)) = false := by simp
          have hSO := Lib.hid (HF.out (.inl rfl))
          clear HF HM
          go_upto_region 4 with (fail)
          refine wp_region_quiet_below (by kernel_rfl) (by kernel_rfl) ?_
          repeat (first
            | go_big_quiet_skip
            | (go_big_quiet_want
               first
               | (first | fail
                  simp only [Act.put, List.setIfInBounds_toArray, List.set_cons_succ, List.set_cons_zero]
                  go_big_quiet_on)
               | (go_big_quiet_op
                  first | go_big_quiet_on | go_big_quiet_call (first | fail))))
          refine wpQuiet_nil ?_
          intro w2 hw'
          have hb2 := quiet_end hw'
          clear hw'
          have hD2 := HDq.out.bel hb2
          have hG2 := grownBy_trans HGq.out (bel_grown hb2 (some b))
          clear hb2 d1
          go_wp2
          exact ⟨⟨p + 1, _, by go_num, by omega, by omega, hD2, hG2, HOut.out, hSO.out⟩, by simp [intOf]; omega⟩
        · obtain ⟨s, rfl⟩ : ∃ s, q = s + 1 := ⟨q - 1, by omega⟩
          have r1 : wr.rangeAt b (o + (s + 1) * 21) (peC (g p)) := by have := HDq.out.at (i := s + 1) (by omega); rwa [mov_at] at this
          have r2 : wr.rangeAt b (o + s * 21) (peC (g s)) := by have := HDq.out.at (i := s) (by omega); rwa [mov_out g hq2 (by omega)] at this
          have hC := cmp_gives (g p) (g s)
          have hcv := cmpV_lt (g p).1 (g s).1
          have hM2 : (g p).1 < (g s).1 → ∀ x, s ≤ x → x < p → (g p).1 < (g x).1 := fun hh x h1 h2 => by
            rcases Nat.lt_or_ge s x with h | h
            · exact HM.out x (by omega) h2
            · obtain rfl : x = s := by omega
              exact hh
          have HM2 := Lib.hid hM2
          clear hM2 HM HO HS HG HD
          rw [Nat.add_sub_cancel] at HF
          have b1 : (a : Int) < (s : Int) + 1 := by omega
          have b2 : decide ((a : Int) < (s : Int) + 1) = true := decide_eq_true b1
          have b3 : (s : Int) + 1 < (n : Int) := by omega
          have b4 : (s : Int) < (n : Int) := by omega
          have b5 : (0 : Int) ≤ (s : Int) := by omega
          have b6 : (0 : Int) ≤ (s : Int) + 1 := by omega
          have s1 := sub_in' s (by omega)
          have s2 := sub_in s (by omega)
          have s3 : IntKind.i64.wrap (s : Int) = (s : Int) := IntWalk.i64_in _ (by omega)
          generalize hcc : cmpV (g p).1 (g s).1 = cc at *
          clear hcc
          by_cases hh : (g p).1 < (g s).1
          · rw [decide_eq_true hh] at hcv
            have hMM := Lib.hid (HM2.out hh)
            clear HF HM2 hh
            generalize hgp : g p = x at *
            generalize hgs : g s = y at *
            go_upto_region 4 with (fail)
            refine wp_region_quiet_below (by kernel_rfl) (by kernel_rfl) ?_
            repeat (first
              | go_big_quiet_skip
              | (go_big_quiet_want
                 first
                 | (first | (refine q_midP _ rfl b (o + (s + 1) * 21) rfl x (by with_reducible exact r1) ?_) | (refine q_midP _ rfl b (o + s * 21) rfl y (by with_reducible exact r2) ?_)
                    simp only [Act.put, List.setIfInBounds_toArray, List.set_cons_succ, List.set_cons_zero]
                    go_big_quiet_on)
                 | (go_big_quiet_op
                    first | go_big_quiet_on | go_big_quiet_call (first | with_reducible exact hC.grown _ _))))
            refine wpQuiet_nil ?_
            intro w2 hw'
            have hb2 := quiet_end hw'
            clear hw'
            have hDb := (HDq.out.bel hb2).bel (drew_bel w2)
            have hD2 := hDb.swp (p := s + 1) (q := s) (by omega) (by omega)
            rw [mov_step g hq2, mov_at, mov_out g hq2 (by omega), hgp, hgs] at hD2
            have hG2 := grownBy_trans (grownBy_trans (grownBy_trans HGq.out (bel_grown hb2 (some b))) (bel_grown (drew_bel w2) (some b))) (grown_swp w2.drew b o (s + 1) s y x)
            have r1 := hDb.at (i := s + 1) (by omega)
            have r2 := hDb.at (i := s) (by omega)
            rw [mov_at, hgp] at r1
            rw [mov_out g hq2 (by omega), hgs] at r2
            have t1 := hDb.thereAt (i := s + 1) (by omega)
            have t2 := World.there_setCells (hDb.thereAt (i := s) (by omega)) b (o + (s + 1) * 21) (peC y)
            have HD2 := Lib.hid hD2
            have HG2 := Lib.hid hG2
            clear hDb hD2 hG2
            go_upto_region 6 with (fail)
            clear hb2
            refine wp_region_any (by kernel_rfl) ?_
            change wpAny _ _ _ _ _ _ _ (World.drew _)
            refine wpAny_take (i := 2) (v := ?_) rfl (by kernel_rfl) (by kernel_rfl) (by kernel_rfl) (fun _ _ _ h => h) (Or.inl ⟨by rfl, ?_⟩) ?_
            rotate_left
            · intro w9
              go_simp
              (try with_reducible rfl)
            (try simp only [Act.put]); (try simp only [List.setIfInBounds_toArray]); (try simp only [List.set_cons_succ]); (try simp only [List.set_cons_zero])
            refine wpAny_take (i := 3) (v := ?_) rfl (by kernel_rfl) (by kernel_rfl) (by kernel_rfl) (fun _ _ _ h => h) (Or.inl ⟨by rfl, ?_⟩) ?_
            rotate_left
            · intro w9
              go_simp
              (try with_reducible rfl)
            (try simp only [Act.put]); (try simp only [List.setIfInBounds_toArray]); (try simp only [List.set_cons_succ]); (try simp only [List.set_cons_zero])
            refine wpAny_take (i := 4) (v := ?_) rfl (by kernel_rfl) (by kernel_rfl) (by kernel_rfl) (fun _ _ _ h => h) (Or.inl ⟨by rfl, ?_⟩) ?_
            rotate_left
            · intro w9
              go_simp
              (try with_reducible rfl)
            (try simp only [Act.put]); (try simp only [List.setIfInBounds_toArray]); (try simp only [List.set_cons_succ]); (try simp only [List.set_cons_zero])
            refine any_tailX 14 [0, 1, 5, 6, 7, 8, 9, 10, 11, 12, 13] (by kernel_rfl) (by rfl) (fun _ _ _ _ _ h => h) ?_
            simp only [pickL, List.getElem?_cons_succ, List.getElem?_cons_zero, List.drop_succ_cons, List.drop_zero]
            still_step
            still_step
            still_step
            still_step
            still_step
            still_step
            refine wpStill_mid rfl 28 _ rfl b (o + s * 21) rfl (peC y) _ r2 Try.underlying28 rfl (sizePL y) ?_
            (try simp only [Act.put]); (try simp only [List.setIfInBounds_toArray]); (try simp only [List.set_cons_succ]); (try simp only [List.set_cons_zero])
            still_step
            still_step
            still_step
            refine wpStill_mid rfl 28 _ rfl b (o + (s + 1) * 21) rfl (peC x) _ r1 Try.underlying28 rfl (sizePL x) ?_
            (try simp only [Act.put]); (try simp only [List.setIfInBounds_toArray]); (try simp only [List.set_cons_succ]); (try simp only [List.set_cons_zero])
            refine wpStill_nil ?_
            (try simp only [Act.put]); (try simp only [List.setIfInBounds_toArray]); (try simp only [List.set_cons_succ]); (try simp only [List.set_cons_zero])
            refine p_idxP rfl _ _ rfl b o n c (s + 1) rfl rfl (by omega) ?_
            (try simp only [Act.put]); (try simp only [List.setIfInBounds_toArray]); (try simp only [List.set_cons_succ]); (try simp only [List.set_cons_zero])
            refine wpList_store_mid rfl 28 _ _ rfl b (o + (s + 1) * 21) (peA y) rfl rfl (by rw [peA_size]; exact t1) (by rw [peA_size]; exact sizeP) (peA_one y) ?_
            rw [peA_list]
            (try simp only [Act.put]); (try simp only [List.setIfInBounds_toArray]); (try simp only [List.set_cons_succ]); (try simp only [List.set_cons_zero])
            refine p_idxP rfl _ _ rfl b o n c s rfl rfl (by omega) ?_
            (try simp only [Act.put]); (try simp only [List.setIfInBounds_toArray]); (try simp only [List.set_cons_succ]); (try simp only [List.set_cons_zero])
            refine wpList_store_mid rfl 28 _ _ rfl b (o + s * 21) (peA x) rfl rfl (by rw [peA_size]; exact t2) (by rw [peA_size]; exact sizeP) (peA_one x) ?_
            rw [peA_list]
            (try simp only [Act.put]); (try simp only [List.setIfInBounds_toArray]); (try simp only [List.set_cons_succ]); (try simp only [List.set_cons_zero])
            have hD3 := HD2.out
            have hG3 := HG2.out
            clear HD2 HG2 r1 r2 t1 t2
            generalize (w2.drew.setCells b (o + (s + 1) * 21) (peC y)).setCells b (o + s * 21) (peC x) = W2 at *
            go_wp2
            exact ⟨⟨s, by go_num, by omega, by omega, hD3, hG3, hMM.out⟩, by simp [intOf]⟩
          · rw [decide_eq_false hh] at hcv
            have hSO := Lib.hid (HF.out (.inr (by omega)))
            clear HF HM2 hh
            generalize g p = x at *
            generalize g s = y at *
            go_upto_region 4 with (fail)
            refine wp_region_quiet_below (by kernel_rfl) (by kernel_rfl) ?_
            repeat (first
              | go_big_quiet_skip
              | (go_big_quiet_want
                 first
                 | (first | (refine q_midP _ rfl b (o + (s + 1) * 21) rfl x (by with_reducible exact r1) ?_) | (refine q_midP _ rfl b (o + s * 21) rfl y (by with_reducible exact r2) ?_)
                    simp only [Act.put, List.setIfInBounds_toArray, List.set_cons_succ, List.set_cons_zero]
                    go_big_quiet_on)
                 | (go_big_quiet_op
                    first | go_big_quiet_on | go_big_quiet_call (first | with_reducible exact hC.grown _ _))))
            refine wpQuiet_nil ?_
            intro w2 hw'
            have hb2 := quiet_end hw'
            clear hw'
            have hD2 := HDq.out.bel hb2
            have hG2 := grownBy_trans HGq.out (bel_grown hb2 (some b))
            clear hb2 r1 r2
            go_wp2
            exact ⟨⟨p + 1, _, by go_num, by omega, by omega, hD2, hG2, HOut.out, hSO.out⟩, by simp [intOf]; omega⟩
    · go_wp2
      obtain rfl : p = e := by have := HP2.out; omega
      refine bodyPost_end (results_none rfl _ _ _) rfl ⟨g, ⟨rfl, HD.out, HG.out⟩, HO.out, HS.out⟩
end Go.Proofs.Ytfajfmcabpmchaa

namespace Go.Proofs.Ytfajfmcabpmchaa
set_option maxRecDepth 100000
open Go Go.RowKit Go.Sort

/-- the one at a is moved up to k -/
def mup (f : Nat → Pe) (k a : Nat) : Nat → Pe := fun x => if x = k then f a else if a ≤ x ∧ x < k then f (x + 1) else f x
theorem mup_self (f : Nat → Pe) (a : Nat) : mup f a a = f := by
  funext x; unfold mup
  by_cases h : x = a
  · rw [if_pos h, h]
  · rw [if_neg h, if_neg (by omega)]
theorem mup_step (f : Nat → Pe) {k a : Nat} (h : a ≤ k) : swp (mup f k a) k (k + 1) = mup f (k + 1) a := by
  funext x
  unfold swp mup
  by_cases h1 : x = k + 1
  · rw [if_pos h1, if_pos rfl, if_pos h1]
  · rw [if_neg h1, if_neg h1]
    by_cases h2 : x = k
    · rw [if_pos h2, if_neg (by omega), if_neg (by omega), if_pos (by omega), h2]
    · rw [if_neg h2, if_neg h2]
      by_cases h3 : a ≤ x ∧ x < k
      · rw [if_pos h3, if_pos (by omega)]
      · rw [if_neg h3, if_neg (by omega)]
theorem mup_out (f : Nat → Pe) {k a x : Nat} (hk : a ≤ k) (h : x < a ∨ k < x) : mup f k a x = f x := by
  unfold mup; rw [if_neg (by omega), if_neg (by omega)]
theorem mup_at (f : Nat → Pe) (k a : Nat) : mup f k a k = f a := by unfold mup; rw [if_pos rfl]
theorem mup_seg (f : Nat → Pe) {a k e : Nat} (h1 : a ≤ k) (h2 : k < e) : seg (mup f k a) a e = seg f (a + 1) (k + 1) ++ ([f a] ++ seg f (k + 1) e) := by
  rw [seg_split (mup f k a) h1 (show k ≤ e by omega), seg_split (mup f k a) (show k ≤ k + 1 by omega) (show k + 1 ≤ e by omega), seg_one, mup_at]
  rw [seg_congr (f := mup f k a) (g := f) (a := k + 1) (b := e) fun i hi _ => mup_out f h1 (.inr hi)]
  rw [seg_shift (f := mup f k a) (g := f) (a := a) (b := k) (c := a + 1) (d := k + 1) (by omega) fun i hi => by
    unfold mup; rw [if_neg (by omega), if_pos (by omega)]; congr 1; omega]
theorem merge_left {f : Nat → Pe} {a k e : Nat} (h1 : a ≤ k) (h2 : k < e) (hu : Up (seg f (a + 1) e)) (hl : ∀ x, a + 1 ≤ x → x < k + 1 → (f x).1 < (f a).1) (hg : k + 1 < e → (f a).1 ≤ (f (k + 1)).1) : SO (seg f a e) (seg (mup f k a) a e) := by
  rw [mup_seg f h1 h2, seg_split f (show a ≤ a + 1 by omega) (show a + 1 ≤ e by omega), seg_one, seg_split f (show a + 1 ≤ k + 1 by omega) (show k + 1 ≤ e by omega)]
  rw [seg_split f (show a + 1 ≤ k + 1 by omega) (show k + 1 ≤ e by omega), up_append] at hu
  have hu2 := up_seg.1 hu.2.1
  have := SO.merge (A1 := []) (A2 := [f a]) (B1 := seg f (a + 1) (k + 1)) (B2 := seg f (k + 1) e) (SO.self (by rw [List.nil_append]; exact hu.1)) (SO.self (up_append.2 ⟨List.pairwise_singleton _ _, hu.2.1, fun x hx y hy => by
    obtain rfl : x = f a := by simpa using hx
    obtain ⟨i, h3, h4, rfl⟩ := seg_mem hy
    have h5 := hg (by omega)
    rcases Nat.lt_or_ge (k + 1) i with h6 | h6
    · have := hu2 (k + 1) i (Nat.le_refl _) h6 h4; omega
    · obtain rfl : i = k + 1 := by omega
      omega⟩)) (fun x hx => by cases hx) hu.2.2 (fun x hx => by cases hx) (fun x hx y hy => by
    obtain rfl : x = f a := by simpa using hx
    obtain ⟨i, h3, h4, rfl⟩ := seg_mem hy
    exact hl i h3 h4)
  simpa using this
set_option maxHeartbeats 4000000 in
theorem symLeft_any {w : World} {b o c n : Nat} {f : Nat → Pe} (h : Dat w b o f n) (a e : Nat) (hn : n ≤ 1000) (ha : a + 1 < e) (he : e ≤ n) (hu : Up (seg f (a + 1) e)) :
    Calls Try.prog 95 #[.slice (some ⟨b, o, none⟩) n c, .int .i64 (a : Int), .int .i64 ((a + 1 : Nat) : Int), .int .i64 (e : Int), cmpF] w fun r w' =>
      ∃ g, Does w b o n g r w' ∧ (∀ x, x < a ∨ e ≤ x → g x = f x) ∧ SO (seg f a e) (seg g a e) := by
  obtain ⟨m, hm⟩ : ∃ m, m = a + 1 := ⟨_, rfl⟩
  rw [← hm] at hu ha ⊢
  have H := Lib.hid h
  have HU := Lib.hid (up_seg.1 hu)
  have HL : Hid (∀ k, a ≤ k → k < e → (∀ x, m ≤ x → x < k + 1 → (f x).1 < (f a).1) → (k + 1 < e → (f a).1 ≤ (f (k + 1)).1) → SO (seg f a e) (seg (mup f k a) a e)) := fun k h1 h2 h3 h4 => merge_left h1 h2 (by rw [← hm]; exact hu) (by rw [← hm]; exact h3) h4
  have w1 : IntKind.i64.wrap ((m : Int) - (a : Int)) = 1 := by rw [show (m : Int) - (a : Int) = 1 by omega]; exact IntWalk.i64_in _ (by omega)
  clear h hu
  have ham : a < m := by omega
  have HM := Lib.hid hm
  clear hm
  go_enter Try.func95, Try.ntmps95
  go_upto_region 3 with (fail)
  clear w1
  go_loopw [10, 11] (fun x y wr => ∃ i j : Nat, x = .int .i64 (i : Int) ∧ y = .int .i64 (j : Int) ∧ m ≤ i ∧ i ≤ j ∧ j ≤ e ∧ (∀ x, m ≤ x → x < i → (f x).1 < (f a).1) ∧ (j < e → (f a).1 ≤ (f j).1) ∧ Below w.heap.size w wr) (fun x y _ => (intOf y).toNat - (intOf x).toNat)
  case atStart => exact ⟨m, e, rfl, rfl, Nat.le_refl _, by omega, Nat.le_refl _, fun x h1 h2 => by omega, fun h => by omega, Below.refl _ _⟩
  case round =>
    obtain ⟨i, j, rfl, rfl, hi, hij, hj, hl, hg, hB⟩ := hrel
    have HLo := Lib.hid hl
    have HHi := Lib.hid hg
    have HB := Lib.hid hB
    clear hl hg hB
    by_cases hlt : i < j
    · obtain ⟨h, hh⟩ : ∃ h, h = (i + j) / 2 := ⟨_, rfl⟩
      have hsh : ((i : Int) + (j : Int)) / 2 = (h : Int) := by omega
      have h1 : i ≤ h := by omega
      have h2 : h < j := by omega
      clear hh
      have hD := H.out.bel HB.out
      have r1 := hD.at (i := h) (by omega)
      have r2 := hD.at (i := a) (by omega)
      have hC := cmp_gives (f h) (f a)
      have hcv := cmpV_lt (f h).1 (f a).1
      have b3 : (h : Int) < (n : Int) := by omega
      have b4 : (a : Int) < (n : Int) := by omega
      have b5 : (0 : Int) ≤ (h : Int) := by omega
      have up : (f h).1 < (f a).1 → ∀ x, m ≤ x → x < h + 1 → (f x).1 < (f a).1 := fun hx x h3 h4 => by
        rcases Nat.lt_or_ge x h with h5 | h5
        · have := HU.out x h h3 h5 (by omega); omega
        · obtain rfl : x = h := by omega
          exact hx
      have HUp := Lib.hid up
      clear up hD
      generalize hcc : cmpV (f h).1 (f a).1 = cc at *
      clear hcc
      by_cases hx : (f h).1 < (f a).1
      · rw [decide_eq_true hx] at hcv
        have hz := Lib.hid (HUp.out hx)
        clear HUp HLo hx
        generalize f h = x at *
        generalize f a = y at *
        go_upto_region 5 with (fail)
        clear hsh
        refine wp_region_quiet_below (by kernel_rfl) (by kernel_rfl) ?_
        repeat (first
          | go_big_quiet_skip
          | (go_big_quiet_want
             first
             | (first | (refine q_midP _ rfl b (o + h * 21) rfl x (by with_reducible exact r1) ?_) | (refine q_midP _ rfl b (o + a * 21) rfl y (by with_reducible exact r2) ?_)
                simp only [Act.put, List.setIfInBounds_toArray, List.set_cons_succ, List.set_cons_zero]
                go_big_quiet_on)
             | (go_big_quiet_op
                first | go_big_quiet_on | go_big_quiet_call (first | with_reducible exact hC.grown _ _))))
        refine wpQuiet_nil ?_
        intro w2 hw'
        have hb2 := quiet_end hw'
        clear hw'
        have HB2 := Lib.hid (step HB.out hb2)
        clear hb2 r1 r2
        go_wp2
        exact ⟨⟨h + 1, j, by go_num, rfl, by omega, by omega, hj, hz.out, HHi.out, HB2.out⟩, by simp [intOf]; omega⟩
      · rw [decide_eq_false hx] at hcv
        have hz : Hid ((f a).1 ≤ (f h).1) := (by omega : (f a).1 ≤ (f h).1)
        clear HUp HHi hx
        generalize hfx : f h = x at *
        generalize f a = y at *
        go_upto_region 5 with (fail)
        clear hsh
        refine wp_region_quiet_below (by kernel_rfl) (by kernel_rfl) ?_
        repeat (first
          | go_big_quiet_skip
          | (go_big_quiet_want
             first
             | (first | (refine q_midP _ rfl b (o + h * 21) rfl x (by with_reducible exact r1) ?_) | (refine q_midP _ rfl b (o + a * 21) rfl y (by with_reducible exact r2) ?_)
                simp only [Act.put, List.setIfInBounds_toArray, List.set_cons_succ, List.set_cons_zero]
                go_big_quiet_on)
             | (go_big_quiet_op
                first | go_big_quiet_on | go_big_quiet_call (first | with_reducible exact hC.grown _ _))))
        refine wpQuiet_nil ?_
        intro w2 hw'
        have hb2 := quiet_end hw'
        clear hw'
        have HB2 := Lib.hid (step HB.out hb2)
        clear hb2 r1 r2
        go_wp2
        exact ⟨⟨i, h, rfl, rfl, hi, h1, by omega, HLo.out, fun _ => by rw [hfx]; exact hz.out, HB2.out⟩, by simp [intOf]; omega⟩
    · obtain rfl : j = i := by omega
      obtain ⟨s, hs⟩ : ∃ s, j = s + 1 := ⟨j - 1, by omega⟩
      have hSO := Lib.hid (HL.out s (by have := HM.out; omega) (by omega) (by rw [← hs]; exact HLo.out) (by rw [← hs]; exact HHi.out))
      have has : a ≤ s := by have := HM.out; omega
      have hse : s < e := by omega
      have s3 : IntKind.i64.wrap ((j : Int) - 1) = (s : Int) := by rw [show (j : Int) - 1 = (s : Int) by omega]; exact IntWalk.i64_in _ (by omega)
      clear hs
      have hD0 := Lib.hid (H.out.bel HB.out)
      have hG0 := Lib.hid (bel_grown HB.out (some b))
      clear HLo HHi HL HU HM H HB
      go_upto_region 9 with (fail)
      go_loopw [13] (fun k wv => ∃ k' : Nat, k = .int .i64 (k' : Int) ∧ a ≤ k' ∧ k' ≤ s ∧ Dat wv b o (mup f k' a) n ∧ w.grownBy wv (some b)) (fun k _ => s - (intOf k).toNat)
      case atStart => exact ⟨a, rfl, Nat.le_refl _, has, by rw [mup_self]; exact hD0.out, hG0.out⟩
      case round =>
        obtain ⟨k, rfl, hk1, hk2, hD, hG⟩ := hrel
        by_cases hks : k < s
        · have hD1 := hD.bel (drew_bel wr)
          have hD2 := hD1.swp (p := k) (q := k + 1) (by omega) (by omega)
          rw [mup_step f hk1, mup_at, mup_out f hk1 (.inr (by omega))] at hD2
          have hG2 := grownBy_trans (grownBy_trans hG (bel_grown (drew_bel wr) (some b))) (grown_swp wr.drew b o k (k + 1) (f (k + 1)) (f a))
          have r1 := hD1.at (i := k) (by omega)
          have r2 := hD1.at (i := k + 1) (by omega)
          rw [mup_at] at r1
          rw [mup_out f hk1 (.inr (by omega))] at r2
          have t1 := hD1.thereAt (i := k) (by omega)
          have t2 := World.there_setCells (hD1.thereAt (i := k + 1) (by omega)) b (o + k * 21) (peC (f (k + 1)))
          have b3 : (k : Int) < (s : Int) := by omega
          have b4 : (k : Int) < (n : Int) := by omega
          have b5 : (k : Int) + 1 < (n : Int) := by omega
          have b6 : (0 : Int) ≤ (k : Int) + 1 := by omega
          have s4 : IntKind.i64.wrap ((k : Int) + 1) = (k : Int) + 1 := IntWalk.i64_in _ (by omega)
          have HD2 := Lib.hid hD2
          have HG2 := Lib.hid hG2
          clear hD hG hD1 hD2 hG2 hSO hD0 hG0
          generalize f a = x at *
          generalize f (k + 1) = y at *
          go_upto_region 11 with (fail)
          refine wp_region_any (by kernel_rfl) ?_
          change wpAny _ _ _ _ _ _ _ (World.drew _)
          refine wpAny_take (i := 2) (v := ?_) rfl (by kernel_rfl) (by kernel_rfl) (by kernel_rfl) (fun _ _ _ h => h) (Or.inl ⟨by rfl, ?_⟩) ?_
          rotate_left
          · intro w9
            go_simp
            (try with_reducible rfl)
          (try simp only [Act.put]); (try simp only [List.setIfInBounds_toArray]); (try simp only [List.set_cons_succ]); (try simp only [List.set_cons_zero])
          refine wpAny_take (i := 3) (v := ?_) rfl (by kernel_rfl) (by kernel_rfl) (by kernel_rfl) (fun _ _ _ h => h) (Or.inl ⟨by rfl, ?_⟩) ?_
          rotate_left
          · intro w9
            go_simp
            (try with_reducible rfl)
          (try simp only [Act.put]); (try simp only [List.setIfInBounds_toArray]); (try simp only [List.set_cons_succ]); (try simp only [List.set_cons_zero])
          refine wpAny_take (i := 4) (v := ?_) rfl (by kernel_rfl) (by kernel_rfl) (by kernel_rfl) (fun _ _ _ h => h) (Or.inl ⟨by rfl, ?_⟩) ?_
          rotate_left
          · intro w9
            go_simp
            (try with_reducible rfl)
          (try simp only [Act.put]); (try simp only [List.setIfInBounds_toArray]); (try simp only [List.set_cons_succ]); (try simp only [List.set_cons_zero])
          refine any_tailX 14 [0, 1, 5, 6, 7, 8, 9, 10, 11, 12, 13] (by kernel_rfl) (by rfl) (fun _ _ _ _ _ h => h) ?_
          simp only [pickL, List.getElem?_cons_succ, List.getElem?_cons_zero, List.drop_succ_cons, List.drop_zero]
          still_step
          still_step
          still_step
          still_step
          still_step
          still_step
          refine wpStill_mid rfl 28 _ rfl b (o + (k + 1) * 21) rfl (peC y) _ r2 Try.underlying28 rfl (sizePL y) ?_
          (try simp only [Act.put]); (try simp only [List.setIfInBounds_toArray]); (try simp only [List.set_cons_succ]); (try simp only [List.set_cons_zero])
          still_step
          still_step
          still_step
          refine wpStill_mid rfl 28 _ rfl b (o + k * 21) rfl (peC x) _ r1 Try.underlying28 rfl (sizePL x) ?_
          (try simp only [Act.put]); (try simp only [List.setIfInBounds_toArray]); (try simp only [List.set_cons_succ]); (try simp only [List.set_cons_zero])
          refine wpStill_nil ?_
          (try simp only [Act.put]); (try simp only [List.setIfInBounds_toArray]); (try simp only [List.set_cons_succ]); (try simp only [List.set_cons_zero])
          refine p_idxP rfl _ _ rfl b o n c k rfl rfl (by omega) ?_
          (try simp only [Act.put]); (try simp only [List.setIfInBounds_toArray]); (try simp only [List.set_cons_succ]); (try simp only [List.set_cons_zero])
          refine wpList_store_mid rfl 28 _ _ rfl b (o + k * 21) (peA y) rfl rfl (by rw [peA_size]; exact t1) (by rw [peA_size]; exact sizeP) (peA_one y) ?_
          rw [peA_list]
          (try simp only [Act.put]); (try simp only [List.setIfInBounds_toArray]); (try simp only [List.set_cons_succ]); (try simp only [List.set_cons_zero])
          refine p_idxP rfl _ _ rfl b o n c (k + 1) rfl rfl (by omega) ?_
          (try simp only [Act.put]); (try simp only [List.setIfInBounds_toArray]); (try simp only [List.set_cons_succ]); (try simp only [List.set_cons_zero])
          refine wpList_store_mid rfl 28 _ _ rfl b (o + (k + 1) * 21) (peA x) rfl rfl (by rw [peA_size]; exact t2) (by rw [peA_size]; exact sizeP) (peA_one x) ?_
          rw [peA_list]
          (try simp only [Act.put]); (try simp only [List.setIfInBounds_toArray]); (try simp only [List.set_cons_succ]); (try simp only [List.set_cons_zero])
          have hD3 := HD2.out
          have hG3 := HG2.out
          clear HD2 HG2 r1 r2 t1 t2
          generalize (wr.drew.setCells b (o + k * 21) (peC y)).setCells b (o + (k + 1) * 21) (peC x) = W2 at *
          go_wp2
          exact ⟨⟨k + 1, by go_num, by omega, by omega, hD3, hG3⟩, by simp [intOf]; omega⟩
        · obtain rfl : k = s := by omega
          go_wp2
          refine bodyPost_ret (results_none rfl _ _ _) rfl ⟨mup f k a, ⟨rfl, hD, hG⟩, fun x hx => mup_out f has (by omega), hSO.out⟩
end Go.Proofs.Ytfajfmcabpmchaa

namespace Go.Proofs.Ytfajfmcabpmchaa
set_option maxRecDepth 100000
open Go Go.RowKit Go.Sort

theorem merge_right {f : Nat → Pe} {a i m : Nat} (h1 : a ≤ i) (h2 : i ≤ m) (hu : Up (seg f a m)) (hl : ∀ x, a ≤ x → x < i → (f x).1 ≤ (f m).1) (hg : i < m → (f m).1 < (f i).1) : SO (seg f a (m + 1)) (seg (mov f i m) a (m + 1)) := by
  rw [mov_seg f h1 h2, seg_split f (show a ≤ m by omega) (show m ≤ m + 1 by omega), seg_one]
  have hu2 := up_seg.1 hu
  refine (SO.self hu).ins (fun y hy => ?_) (fun y hy => ?_)
  · rw [seg_split f h1 h2, List.drop_append, seg_length, List.drop_eq_nil_of_le (by rw [seg_length]; exact Nat.le_refl _), Nat.sub_self, List.drop_zero, List.nil_append] at hy
    obtain ⟨k, h3, h4, rfl⟩ := seg_mem hy
    have h5 := hg (by omega)
    rcases Nat.lt_or_ge i k with h6 | h6
    · have := hu2 i k h1 h6 h4; omega
    · obtain rfl : i = k := by omega
      exact h5
  · rw [seg_split f h1 h2, List.take_append_of_le_length (by rw [seg_length]; exact Nat.le_refl _)] at hy
    obtain ⟨k, h3, h4, rfl⟩ := seg_mem (List.mem_of_mem_take hy)
    exact hl k h3 h4
set_option maxHeartbeats 4000000 in
theorem symRight_any {w : World} {b o c n : Nat} {f : Nat → Pe} (h : Dat w b o f n) (a m : Nat) (hn : n ≤ 1000) (ha : a + 1 < m) (he : m + 1 ≤ n) (hu : Up (seg f a m)) :
    Calls Try.prog 95 #[.slice (some ⟨b, o, none⟩) n c, .int .i64 (a : Int), .int .i64 (m : Int), .int .i64 ((m + 1 : Nat) : Int), cmpF] w fun r w' =>
      ∃ g, Does w b o n g r w' ∧ (∀ x, x < a ∨ m + 1 ≤ x → g x = f x) ∧ SO (seg f a (m + 1)) (seg g a (m + 1)) := by
  obtain ⟨e, hm⟩ : ∃ e, e = m + 1 := ⟨_, rfl⟩
  have H := Lib.hid h
  have HU := Lib.hid (up_seg.1 hu)
  have HL : Hid (∀ i, a ≤ i → i ≤ m → (∀ x, a ≤ x → x < i → (f x).1 ≤ (f m).1) → (i < m → (f m).1 < (f i).1) → SO (seg f a e) (seg (mov f i m) a e)) := fun k h1 h2 h3 h4 => by rw [hm]; exact merge_right h1 h2 hu h3 h4
  have w1 : IntKind.i64.wrap ((m : Int) - (a : Int)) = ((m - a : Nat) : Int) := by rw [← Int.ofNat_sub (by omega)]; exact IntWalk.i64_in _ (by omega)
  have w2 : IntKind.i64.wrap ((e : Int) - (m : Int)) = 1 := by rw [show (e : Int) - (m : Int) = 1 by omega]; exact IntWalk.i64_in _ (by omega)
  have d1 : (((m - a : Nat) : Int) == 1) = false := by simp; omega
  have hem : m < e := by omega
  have hen : e ≤ n := by omega
  rw [← hm]
  clear h hu
  have HM := Lib.hid hm
  clear hm he
  generalize m - a = ma at *
  go_enter Try.func95, Try.ntmps95
  go_upto_region 15 with (fail)
  clear w1 w2 d1
  go_loopw [14, 15] (fun x y wr => ∃ i j : Nat, x = .int .i64 (i : Int) ∧ y = .int .i64 (j : Int) ∧ a ≤ i ∧ i ≤ j ∧ j ≤ m ∧ (∀ x, a ≤ x → x < i → (f x).1 ≤ (f m).1) ∧ (j < m → (f m).1 < (f j).1) ∧ Below w.heap.size w wr) (fun x y _ => (intOf y).toNat - (intOf x).toNat)
  case atStart => exact ⟨a, m, rfl, rfl, Nat.le_refl _, by omega, Nat.le_refl _, fun x h1 h2 => by omega, fun h => by omega, Below.refl _ _⟩
  case round =>
    obtain ⟨i, j, rfl, rfl, hi, hij, hj, hl, hg, hB⟩ := hrel
    have HLo := Lib.hid hl
    have HHi := Lib.hid hg
    have HB := Lib.hid hB
    clear hl hg hB
    by_cases hlt : i < j
    · obtain ⟨h, hh⟩ : ∃ h, h = (i + j) / 2 := ⟨_, rfl⟩
      have hsh : ((i : Int) + (j : Int)) / 2 = (h : Int) := by omega
      have h1 : i ≤ h := by omega
      have h2 : h < j := by omega
      clear hh
      have hD := H.out.bel HB.out
      have r1 := hD.at (i := m) (by omega)
      have r2 := hD.at (i := h) (by omega)
      have hC := cmp_gives (f m) (f h)
      have hcv := cmpV_lt (f m).1 (f h).1
      have b3 : (h : Int) < (n : Int) := by omega
      have b4 : (m : Int) < (n : Int) := by omega
      have b5 : (0 : Int) ≤ (h : Int) := by omega
      have up : ¬ (f m).1 < (f h).1 → ∀ x, a ≤ x → x < h + 1 → (f x).1 ≤ (f m).1 := fun hx x h3 h4 => by
        rcases Nat.lt_or_ge x h with h5 | h5
        · have := HU.out x h h3 h5 (by omega); omega
        · obtain rfl : x = h := by omega
          omega
      have HUp := Lib.hid up
      clear up hD
      generalize hcc : cmpV (f m).1 (f h).1 = cc at *
      clear hcc
      by_cases hx : (f m).1 < (f h).1
      · rw [decide_eq_true hx] at hcv
        have hz := Lib.hid hx
        clear HUp HHi hx
        generalize hfx : f h = y at *
        generalize f m = x at *
        go_upto_region 17 with (fail)
        clear hsh
        refine wp_region_quiet_below (by kernel_rfl) (by kernel_rfl) ?_
        repeat (first
          | go_big_quiet_skip
          | (go_big_quiet_want
             first
             | (first | (refine q_midP _ rfl b (o + m * 21) rfl x (by with_reducible exact r1) ?_) | (refine q_midP _ rfl b (o + h * 21) rfl y (by with_reducible exact r2) ?_)
                simp only [Act.put, List.setIfInBounds_toArray, List.set_cons_succ, List.set_cons_zero]
                go_big_quiet_on)
             | (go_big_quiet_op
                first | go_big_quiet_on | go_big_quiet_call (first | with_reducible exact hC.grown _ _))))
        refine wpQuiet_nil ?_
        intro w2 hw'
        have hb2 := quiet_end hw'
        clear hw'
        have HB2 := Lib.hid (step HB.out hb2)
        clear hb2 r1 r2
        go_wp2
        exact ⟨⟨i, h, rfl, rfl, hi, h1, by omega, HLo.out, fun _ => by rw [hfx]; exact hz.out, HB2.out⟩, by simp [intOf]; omega⟩
      · rw [decide_eq_false hx] at hcv
        have hz := Lib.hid (HUp.out hx)
        clear HUp HLo hx
        generalize f h = y at *
        generalize f m = x at *
        go_upto_region 17 with (fail)
        clear hsh
        refine wp_region_quiet_below (by kernel_rfl) (by kernel_rfl) ?_
        repeat (first
          | go_big_quiet_skip
          | (go_big_quiet_want
             first
             | (first | (refine q_midP _ rfl b (o + m * 21) rfl x (by with_reducible exact r1) ?_) | (refine q_midP _ rfl b (o + h * 21) rfl y (by with_reducible exact r2) ?_)
                simp only [Act.put, List.setIfInBounds_toArray, List.set_cons_succ, List.set_cons_zero]
                go_big_quiet_on)
             | (go_big_quiet_op
                first | go_big_quiet_on | go_big_quiet_call (first | with_reducible exact hC.grown _ _))))
        refine wpQuiet_nil ?_
        intro w2 hw'
        have hb2 := quiet_end hw'
        clear hw'
        have HB2 := Lib.hid (step HB.out hb2)
        clear hb2 r1 r2
        go_wp2
        exact ⟨⟨h + 1, j, by go_num, rfl, by omega, by omega, hj, hz.out, HHi.out, HB2.out⟩, by simp [intOf]; omega⟩
    · obtain rfl : j = i := by omega
      have hSO := Lib.hid (HL.out j hi hj HLo.out HHi.out)
      have hD0 := Lib.hid (H.out.bel HB.out)
      have hG0 := Lib.hid (bel_grown HB.out (some b))
      clear HLo HHi HL HU H HB
      go_upto_region 21 with (fail)
      go_loopw [17] (fun k wv => ∃ k' : Nat, k = .int .i64 (k' : Int) ∧ j ≤ k' ∧ k' ≤ m ∧ Dat wv b o (mov f k' m) n ∧ w.grownBy wv (some b)) (fun k _ => (intOf k).toNat)
      case atStart => exact ⟨m, rfl, hj, Nat.le_refl _, by rw [mov_self]; exact hD0.out, hG0.out⟩
      case round =>
        obtain ⟨k, rfl, hk1, hk2, hD, hG⟩ := hrel
        by_cases hks : j < k
        · obtain ⟨s, hs⟩ : ∃ s, k = s + 1 := ⟨k - 1, by omega⟩
          have hD1 := hD.bel (drew_bel wr)
          have hD2 := hD1.swp (p := k) (q := s) (by omega) (by omega)
          rw [hs, mov_step f (by omega), mov_at, mov_out f (by omega) (.inl (by omega)), ← hs] at hD2
          have hG2 := grownBy_trans (grownBy_trans hG (bel_grown (drew_bel wr) (some b))) (grown_swp wr.drew b o k s (f s) (f m))
          have r1 := hD1.at (i := k) (by omega)
          have r2 := hD1.at (i := s) (by omega)
          rw [mov_at] at r1
          rw [mov_out f (by omega) (.inl (by omega))] at r2
          have t1 := hD1.thereAt (i := k) (by omega)
          have t2 := World.there_setCells (hD1.thereAt (i := s) (by omega)) b (o + k * 21) (peC (f s))
          have b3 : (j : Int) < (k : Int) := by omega
          have b4 : (k : Int) < (n : Int) := by omega
          have b5 : (s : Int) < (n : Int) := by omega
          have b6 : (0 : Int) ≤ (s : Int) := by omega
          have s4 : IntKind.i64.wrap ((k : Int) - 1) = (s : Int) := by rw [show (k : Int) - 1 = (s : Int) by omega]; exact IntWalk.i64_in _ (by omega)
          have hjs : j ≤ s := by omega
          have hsk : s < k := by omega
          have HD2 := Lib.hid hD2
          have HG2 := Lib.hid hG2
          clear hD hG hD1 hD2 hG2 hSO hD0 hG0 hs
          generalize f m = x at *
          generalize f s = y at *
          go_upto_region 23 with (fail)
          refine wp_region_any (by kernel_rfl) ?_
          change wpAny _ _ _ _ _ _ _ (World.drew _)
          refine wpAny_take (i := 2) (v := ?_) rfl (by kernel_rfl) (by kernel_rfl) (by kernel_rfl) (fun _ _ _ h => h) (Or.inl ⟨by rfl, ?_⟩) ?_
          rotate_left
          · intro w9
            go_simp
            (try with_reducible rfl)
          (try simp only [Act.put]); (try simp only [List.setIfInBounds_toArray]); (try simp only [List.set_cons_succ]); (try simp only [List.set_cons_zero])
          refine wpAny_take (i := 3) (v := ?_) rfl (by kernel_rfl) (by kernel_rfl) (by kernel_rfl) (fun _ _ _ h => h) (Or.inl ⟨by rfl, ?_⟩) ?_
          rotate_left
          · intro w9
            go_simp
            (try with_reducible rfl)
          (try simp only [Act.put]); (try simp only [List.setIfInBounds_toArray]); (try simp only [List.set_cons_succ]); (try simp only [List.set_cons_zero])
          refine wpAny_take (i := 4) (v := ?_) rfl (by kernel_rfl) (by kernel_rfl) (by kernel_rfl) (fun _ _ _ h => h) (Or.inl ⟨by rfl, ?_⟩) ?_
          rotate_left
          · intro w9
            go_simp
            (try with_reducible rfl)
          (try simp only [Act.put]); (try simp only [List.setIfInBounds_toArray]); (try simp only [List.set_cons_succ]); (try simp only [List.set_cons_zero])
          refine any_tailX 14 [0, 1, 5, 6, 7, 8, 9, 10, 11, 12, 13] (by kernel_rfl) (by rfl) (fun _ _ _ _ _ h => h) ?_
          simp only [pickL, List.getElem?_cons_succ, List.getElem?_cons_zero, List.drop_succ_cons, List.drop_zero]
          still_step
          still_step
          still_step
          still_step
          still_step
          still_step
          refine wpStill_mid rfl 28 _ rfl b (o + s * 21) rfl (peC y) _ r2 Try.underlying28 rfl (sizePL y) ?_
          (try simp only [Act.put]); (try simp only [List.setIfInBounds_toArray]); (try simp only [List.set_cons_succ]); (try simp only [List.set_cons_zero])
          still_step
          still_step
          still_step
          refine wpStill_mid rfl 28 _ rfl b (o + k * 21) rfl (peC x) _ r1 Try.underlying28 rfl (sizePL x) ?_
          (try simp only [Act.put]); (try simp only [List.setIfInBounds_toArray]); (try simp only [List.set_cons_succ]); (try simp only [List.set_cons_zero])
          refine wpStill_nil ?_
          (try simp only [Act.put]); (try simp only [List.setIfInBounds_toArray]); (try simp only [List.set_cons_succ]); (try simp only [List.set_cons_zero])
          refine p_idxP rfl _ _ rfl b o n c k rfl rfl (by omega) ?_
          (try simp only [Act.put]); (try simp only [List.setIfInBounds_toArray]); (try simp only [List.set_cons_succ]); (try simp only [List.set_cons_zero])
          refine wpList_store_mid rfl 28 _ _ rfl b (o + k * 21) (peA y) rfl rfl (by rw [peA_size]; exact t1) (by rw [peA_size]; exact sizeP) (peA_one y) ?_
          rw [peA_list]
          (try simp only [Act.put]); (try simp only [List.setIfInBounds_toArray]); (try simp only [List.set_cons_succ]); (try simp only [List.set_cons_zero])
          refine p_idxP rfl _ _ rfl b o n c s rfl rfl (by omega) ?_
          (try simp only [Act.put]); (try simp only [List.setIfInBounds_toArray]); (try simp only [List.set_cons_succ]); (try simp only [List.set_cons_zero])
          refine wpList_store_mid rfl 28 _ _ rfl b (o + s * 21) (peA x) rfl rfl (by rw [peA_size]; exact t2) (by rw [peA_size]; exact sizeP) (peA_one x) ?_
          rw [peA_list]
          (try simp only [Act.put]); (try simp only [List.setIfInBounds_toArray]); (try simp only [List.set_cons_succ]); (try simp only [List.set_cons_zero])
          have hD3 := HD2.out
          have hG3 := HG2.out
          clear HD2 HG2 r1 r2 t1 t2
          generalize (wr.drew.setCells b (o + k * 21) (peC y)).setCells b (o + s * 21) (peC x) = W2 at *
          go_wp2
          exact ⟨⟨s, by go_num, by omega, by omega, hD3, hG3⟩, by simp [intOf]; omega⟩
        · obtain rfl : k = j := by omega
          go_wp2
          refine bodyPost_ret (results_none rfl _ _ _) rfl ⟨mov f k m, ⟨rfl, hD, hG⟩, fun x hx => mov_out f hj (by omega), hSO.out⟩
end Go.Proofs.Ytfajfmcabpmchaa

namespace Go.Proofs.Ytfajfmcabpmchaa
set_option maxRecDepth 100000
open Go Go.RowKit Go.Sort

/-- where two rows are parted, so that what is ahead goes ahead -/
structure SymAt (f : Nat → Pe) (a m e d x t : Nat) : Prop where
  ax : a ≤ x
  xm : x ≤ m
  mt : m ≤ t
  te : t ≤ e
  mid : d + m = x + t
  u1 : Up (seg f a m)
  u2 : Up (seg f m e)
  hA : x = a ∨ t = e ∨ (f (x - 1)).1 ≤ (f t).1
  hB : x = m ∨ t = m ∨ (f (t - 1)).1 < (f x).1
theorem SymAt.l {f : Nat → Pe} {a m e d x t : Nat} (h : SymAt f a m e d x t) : seg (rot f x m t) a d = seg f a x ++ seg f m t := by
  have := h.ax; have := h.xm; have := h.mt; have := h.mid
  rw [seg_split (rot f x m t) (show a ≤ x by omega) (show x ≤ d by omega)]
  congr 1
  · exact seg_congr fun i _ hi => rot_out f h.xm h.mt (.inl hi)
  · rw [show d = x + (t - m) by omega]; exact rot_fst f h.mt
theorem SymAt.r {f : Nat → Pe} {a m e d x t : Nat} (h : SymAt f a m e d x t) : seg (rot f x m t) d e = seg f x m ++ seg f t e := by
  have := h.ax; have := h.xm; have := h.mt; have := h.mid; have := h.te
  rw [seg_split (rot f x m t) (show d ≤ t by omega) (show t ≤ e by omega)]
  congr 1
  · rw [show d = x + (t - m) by omega]; exact rot_snd f h.xm h.mt
  · exact seg_congr fun i hi _ => rot_out f h.xm h.mt (.inr hi)
theorem up_part {f : Nat → Pe} {a b c d : Nat} (h : Up (seg f a d)) (h1 : a ≤ b) (h2 : c ≤ d) : Up (seg f b c) := by
  rw [up_seg] at h ⊢
  exact fun i j h3 h4 h5 => h i j (by omega) h4 (by omega)
theorem SymAt.p1 {f : Nat → Pe} {a m e d x t : Nat} (h : SymAt f a m e d x t) : Up (seg (rot f x m t) a x) := by
  rw [seg_congr (g := f) fun i _ hi => rot_out f h.xm h.mt (.inl hi)]
  exact up_part h.u1 (Nat.le_refl _) h.xm
theorem SymAt.p2 {f : Nat → Pe} {a m e d x t : Nat} (h : SymAt f a m e d x t) : Up (seg (rot f x m t) x d) := by
  have := h.ax; have := h.xm; have := h.mt; have := h.mid
  rw [show d = x + (t - m) by omega, rot_fst f h.mt]
  exact up_part h.u2 (Nat.le_refl _) h.te
theorem SymAt.p3 {f : Nat → Pe} {a m e d x t : Nat} (h : SymAt f a m e d x t) : Up (seg (rot f x m t) d t) := by
  have := h.ax; have := h.xm; have := h.mt; have := h.mid
  rw [show d = x + (t - m) by omega, rot_snd f h.xm h.mt]
  exact up_part h.u1 h.ax (Nat.le_refl _)
theorem SymAt.p4 {f : Nat → Pe} {a m e d x t : Nat} (h : SymAt f a m e d x t) : Up (seg (rot f x m t) t e) := by
  rw [seg_congr (g := f) fun i hi _ => rot_out f h.xm h.mt (.inr hi)]
  exact up_part h.u2 h.mt (Nat.le_refl _)
theorem SymAt.left0 {f : Nat → Pe} {a m e d x t : Nat} (h : SymAt f a m e d x t) (hn : ¬ (a < x ∧ x < d)) : Up (seg (rot f x m t) a d) := by
  have := h.ax; have := h.xm; have := h.mt; have := h.mid
  by_cases h1 : a < x
  · rw [show d = x by omega]; exact h.p1
  · obtain rfl : x = a := by omega
    exact h.p2
theorem SymAt.right0 {f : Nat → Pe} {a m e d x t : Nat} (h : SymAt f a m e d x t) (hn : ¬ (d < t ∧ t < e)) : Up (seg (rot f x m t) d e) := by
  have := h.ax; have := h.xm; have := h.mt; have := h.mid; have := h.te
  by_cases h1 : d < t
  · have e1 : t = e := by omega
    have := h.p3
    rwa [e1] at this ⊢
  · rw [show d = t by omega]; exact h.p4
theorem SymAt.rot0 {f : Nat → Pe} {a m e d x t : Nat} (h : SymAt f a m e d x t) (hn : ¬ (x < m ∧ m < t)) : rot f x m t = f := by
  have := h.xm; have := h.mt
  exact rot_none f h.xm h.mt (by omega)
theorem SymAt.fin {f : Nat → Pe} {a m e d x t : Nat} (h : SymAt f a m e d x t) {R1 R2 : List Pe} (h1 : SO (seg (rot f x m t) a d) R1) (h2 : SO (seg (rot f x m t) d e) R2) : SO (seg f a e) (R1 ++ R2) := by
  have := h.ax; have := h.xm; have := h.mt; have := h.mid; have := h.te
  have v1 := up_seg.1 h.u1
  have v2 := up_seg.1 h.u2
  rw [h.l] at h1
  rw [h.r] at h2
  rw [seg_split f (show a ≤ m by omega) (show m ≤ e by omega), seg_split f h.ax h.xm, seg_split f h.mt h.te]
  refine SO.merge h1 h2 ?_ ?_ ?_ ?_
  · intro y hy z hz
    obtain ⟨i, i1, i2, rfl⟩ := seg_mem hy
    obtain ⟨j, j1, j2, rfl⟩ := seg_mem hz
    exact v1 i j i1 (by omega) j2
  · intro y hy z hz
    obtain ⟨i, i1, i2, rfl⟩ := seg_mem hy
    obtain ⟨j, j1, j2, rfl⟩ := seg_mem hz
    exact v2 i j i1 (by omega) j2
  · intro y hy z hz
    obtain ⟨i, i1, i2, rfl⟩ := seg_mem hy
    obtain ⟨j, j1, j2, rfl⟩ := seg_mem hz
    rcases h.hA with h3 | h3 | h3
    · omega
    · omega
    · have w1 : (f i).1 ≤ (f (x - 1)).1 := by
        rcases Nat.lt_or_ge i (x - 1) with h4 | h4
        · exact v1 i (x - 1) i1 h4 (by omega)
        · obtain rfl : i = x - 1 := by omega
          exact Int.le_refl _
      have w2 : (f t).1 ≤ (f j).1 := by
        rcases Nat.lt_or_ge t j with h4 | h4
        · exact v2 t j h.mt h4 j2
        · obtain rfl : t = j := by omega
          exact Int.le_refl _
      omega
  · intro y hy z hz
    obtain ⟨i, i1, i2, rfl⟩ := seg_mem hy
    obtain ⟨j, j1, j2, rfl⟩ := seg_mem hz
    rcases h.hB with h3 | h3 | h3
    · omega
    · omega
    · have w1 : (f x).1 ≤ (f i).1 := by
        rcases Nat.lt_or_ge x i with h4 | h4
        · exact v1 x i h.ax h4 i2
        · obtain rfl : i = x := by omega
          exact Int.le_refl _
      have w2 : (f j).1 ≤ (f (t - 1)).1 := by
        rcases Nat.lt_or_ge j (t - 1) with h4 | h4
        · exact v2 j (t - 1) j1 h4 (by omega)
        · obtain rfl : j = t - 1 := by omega
          exact Int.le_refl _
      omega
/-- what a merge answers -/
def Merges (w : World) (b o n : Nat) (f : Nat → Pe) (a e : Nat) (r : Ending) (w' : World) : Prop :=
  ∃ g, Does w b o n g r w' ∧ (∀ x, x < a ∨ e ≤ x → g x = f x) ∧ SO (seg f a e) (seg g a e)
set_option maxHeartbeats 16000000 in
theorem symMain {w : World} {b o c n : Nat} {f : Nat → Pe} (h : Dat w b o f n) (a m e : Nat) (hn : n ≤ 1000) (ha : a + 1 < m) (hm : m + 1 < e) (he : e ≤ n) (hu1 : Up (seg f a m)) (hu2 : Up (seg f m e))
    (ih : ∀ {w : World} {f : Nat → Pe}, Dat w b o f n → ∀ a' m' e', a' < m' → m' < e' → e' ≤ n → e' - a' < e - a → Up (seg f a' m') → Up (seg f m' e') →
      Calls Try.prog 95 #[.slice (some ⟨b, o, none⟩) n c, .int .i64 (a' : Int), .int .i64 (m' : Int), .int .i64 (e' : Int), cmpF] w (Merges w b o n f a' e')) :
    Calls Try.prog 95 #[.slice (some ⟨b, o, none⟩) n c, .int .i64 (a : Int), .int .i64 (m : Int), .int .i64 (e : Int), cmpF] w (Merges w b o n f a e) := by
  have H := Lib.hid h
  have HU1 := Lib.hid hu1
  have HU2 := Lib.hid hu2
  have HI : Hid (∀ (w : World) (f : Nat → Pe), Dat w b o f n → ∀ a' m' e', a' < m' → m' < e' → e' ≤ n → e' - a' < e - a → Up (seg f a' m') → Up (seg f m' e') →
      Calls Try.prog 95 #[.slice (some ⟨b, o, none⟩) n c, .int .i64 (a' : Int), .int .i64 (m' : Int), .int .i64 (e' : Int), cmpF] w (Merges w b o n f a' e')) := fun w f => ih (w := w) (f := f)
  clear h hu1 hu2 ih
  have w1 : IntKind.i64.wrap ((m : Int) - (a : Int)) = ((m - a : Nat) : Int) := by rw [← Int.ofNat_sub (by omega)]; exact IntWalk.i64_in _ (by omega)
  have w2 : IntKind.i64.wrap ((e : Int) - (m : Int)) = ((e - m : Nat) : Int) := by rw [← Int.ofNat_sub (by omega)]; exact IntWalk.i64_in _ (by omega)
  have d1 : (((m - a : Nat) : Int) == 1) = false := by simp; omega
  have d2 : (((e - m : Nat) : Int) == 1) = false := by simp; omega
  generalize m - a = ma at *
  generalize e - m = em at *
  obtain ⟨d, hd⟩ : ∃ d, d = (a + e) / 2 := ⟨_, rfl⟩
  have hsh : ((a : Int) + (e : Int)) / 2 = (d : Int) := by omega
  have hd1 : 2 * d ≤ a + e := by omega
  have hd2 : a + e ≤ 2 * d + 1 := by omega
  clear hd
  have w3 := sum_in d m (by omega)
  obtain ⟨N, hN⟩ : ∃ N, N = d + m - 1 := ⟨_, rfl⟩
  have hN1 : d + m = N + 1 := by omega
  rw [hN1] at w3
  have w4 : IntKind.i64.wrap (((N + 1 : Nat) : Int) - 1) = (N : Int) := sub_in N (by omega)
  have w4' : IntKind.i64.wrap ((N : Int) + 1 - 1) = (N : Int) := sub_in' N (by omega)
  clear hN
  go_enter Try.func95, Try.ntmps95
  go_upto_region 27 with (fail)
  clear w1 w2 w3 d1 d2 hsh
  obtain ⟨s0, r0, hS, hcase⟩ : ∃ s0 r0 : Nat, (a ≤ s0 ∧ s0 ≤ r0 ∧ r0 ≤ m ∧ ((s0 = a ∨ N + 1 = e + s0) ∧ N + 1 ≤ e + s0) ∧ ((r0 = m ∨ N + 1 = m + r0) ∧ m + r0 ≤ N + 1) ∧ ∀ c, s0 ≤ c → c < r0 → c < m ∧ m ≤ N - c ∧ N - c < e ∧ c ≤ N) ∧ ((d < m ∧ s0 + e = N + 1 ∧ r0 = d) ∨ (¬ d < m ∧ s0 = a ∧ r0 = m)) := by
    by_cases hdm : d < m
    · exact ⟨N + 1 - e, d, ⟨by omega, by omega, by omega, by omega, by omega, fun c h1 h2 => by omega⟩, .inl ⟨hdm, by omega, rfl⟩⟩
    · exact ⟨a, m, ⟨by omega, by omega, by omega, by omega, by omega, fun c h1 h2 => by omega⟩, .inr ⟨hdm, rfl, rfl⟩⟩
  have HS := Lib.hid hS
  clear hS
  go_upto_if 140 with (fail)
  go_cut [20, 21] from 138 (fun u v wx => u = .int .i64 (s0 : Int) ∧ v = .int .i64 (r0 : Int) ∧ wx = w)
  case first =>
    rcases hcase with ⟨h1, h2, h3⟩ | ⟨h1, h2, h3⟩
    · have w5 : IntKind.i64.wrap (((N + 1 : Nat) : Int) - (e : Int)) = (s0 : Int) := by rw [show ((N + 1 : Nat) : Int) - (e : Int) = (s0 : Int) by omega]; exact IntWalk.i64_in _ (by omega)
      have w5' : IntKind.i64.wrap ((N : Int) + 1 - (e : Int)) = (s0 : Int) := by rw [show (N : Int) + 1 - (e : Int) = (s0 : Int) by omega]; exact IntWalk.i64_in _ (by omega)
      go_wp2
      go_meet
      exact ⟨rfl, by rw [h3], rfl⟩
    · go_wp2
      go_meet
      exact ⟨by rw [h2], by rw [h3], rfl⟩
  case rest =>
    obtain ⟨rfl, rfl, hcut⟩ := hcut
    replace hcut := hcut.symm
    subst hcut
    clear hcase
    have hsr : s0 ≤ r0 := HS.out.2.1
    have hrm : r0 ≤ m := HS.out.2.2.1
    go_upto_region 33 with (fail)
    clear w4 w4'
    go_loopw [20, 21] (fun x y wr => ∃ i j : Nat, x = .int .i64 (i : Int) ∧ y = .int .i64 (j : Int) ∧ s0 ≤ i ∧ i ≤ j ∧ j ≤ r0 ∧ (i = s0 ∨ (f (i - 1)).1 ≤ (f (N + 1 - i)).1) ∧ (j = r0 ∨ (f (N - j)).1 < (f j).1) ∧ Below w.heap.size w wr) (fun x y _ => (intOf y).toNat - (intOf x).toNat)
    case atStart => exact ⟨s0, r0, rfl, rfl, Nat.le_refl _, hsr, Nat.le_refl _, .inl rfl, .inl rfl, Below.refl _ _⟩
    case round =>
      obtain ⟨i, j, rfl, rfl, hi, hij, hj, hl, hg, hB⟩ := hrel
      have HLo := Lib.hid hl
      have HHi := Lib.hid hg
      have HB := Lib.hid hB
      clear hl hg hB
      by_cases hlt : i < j
      · obtain ⟨k, hk⟩ : ∃ k, k = (i + j) / 2 := ⟨_, rfl⟩
        have hsh : ((i : Int) + (j : Int)) / 2 = (k : Int) := by omega
        have h1 : i ≤ k := by omega
        have h2 : k < j := by omega
        clear hk
        obtain ⟨k1, k2, k3, k4⟩ := HS.out.2.2.2.2.2 k (by omega) (by omega)
        obtain ⟨q, hq⟩ : ∃ q, q = N - k := ⟨_, rfl⟩
        have hqN : q + k = N := by omega
        have hq2 : IntKind.i64.wrap ((N : Int) - (k : Int)) = (q : Int) := by rw [show (N : Int) - (k : Int) = (q : Int) by omega]; exact IntWalk.i64_in _ (by omega)
        have hD := H.out.bel HB.out
        have r1 := hD.at (i := q) (by omega)
        have r2 := hD.at (i := k) (by omega)
        have hC := cmp_gives (f q) (f k)
        have hcv := cmpV_lt (f q).1 (f k).1
        have b1 : (q : Int) < (n : Int) := by omega
        have b2 : (0 : Int) ≤ (q : Int) := by omega
        have b3 : (k : Int) < (n : Int) := by omega
        have b5 : (0 : Int) ≤ (k : Int) := by omega
        have HQ := Lib.hid hqN
        clear hD hq hqN k1 k2 k3 k4
        generalize hcc : cmpV (f q).1 (f k).1 = cc at *
        clear hcc
        by_cases hx : (f q).1 < (f k).1
        · rw [decide_eq_true hx] at hcv
          have hz := Lib.hid hx
          clear HHi hx
          generalize hfx : f q = y at *
          generalize hfy : f k = x at *
          go_upto_region 35 with (fail)
          clear hsh
          refine wp_region_quiet_below (by kernel_rfl) (by kernel_rfl) ?_
          repeat (first
            | go_big_quiet_skip
            | (go_big_quiet_want
               first
               | (first | (refine q_midP _ rfl b (o + q * 21) rfl y (by with_reducible exact r1) ?_) | (refine q_midP _ rfl b (o + k * 21) rfl x (by with_reducible exact r2) ?_)
                  simp only [Act.put, List.setIfInBounds_toArray, List.set_cons_succ, List.set_cons_zero]
                  go_big_quiet_on)
               | (go_big_quiet_op
                  first | go_big_quiet_on | go_big_quiet_call (first | with_reducible exact hC.grown _ _))))
          refine wpQuiet_nil ?_
          intro w2 hw'
          have hb2 := quiet_end hw'
          clear hw'
          have HB2 := Lib.hid (step HB.out hb2)
          clear hb2 r1 r2
          go_wp2
          exact ⟨⟨i, k, rfl, rfl, hi, h1, by omega, HLo.out, .inr (by rw [show N - k = q by have := HQ.out; omega, hfx, hfy]; exact hz.out), HB2.out⟩, by simp [intOf]; omega⟩
        · rw [decide_eq_false hx] at hcv
          have hz : Hid ((f k).1 ≤ (f q).1) := (by omega : (f k).1 ≤ (f q).1)
          clear HLo hx
          generalize hfx : f q = y at *
          generalize hfy : f k = x at *
          go_upto_region 35 with (fail)
          clear hsh
          refine wp_region_quiet_below (by kernel_rfl) (by kernel_rfl) ?_
          repeat (first
            | go_big_quiet_skip
            | (go_big_quiet_want
               first
               | (first | (refine q_midP _ rfl b (o + q * 21) rfl y (by with_reducible exact r1) ?_) | (refine q_midP _ rfl b (o + k * 21) rfl x (by with_reducible exact r2) ?_)
                  simp only [Act.put, List.setIfInBounds_toArray, List.set_cons_succ, List.set_cons_zero]
                  go_big_quiet_on)
               | (go_big_quiet_op
                  first | go_big_quiet_on | go_big_quiet_call (first | with_reducible exact hC.grown _ _))))
          refine wpQuiet_nil ?_
          intro w2 hw'
          have hb2 := quiet_end hw'
          clear hw'
          have HB2 := Lib.hid (step HB.out hb2)
          clear hb2 r1 r2
          go_wp2
          exact ⟨⟨k + 1, j, by go_num, rfl, by omega, by omega, hj, .inr (by rw [Nat.add_sub_cancel, show N + 1 - (k + 1) = q by have := HQ.out; omega, hfx, hfy]; exact hz.out), HHi.out, HB2.out⟩, by simp [intOf]; omega⟩
      · obtain rfl : j = i := by omega
        have hS := HS.out
        obtain ⟨t, ht⟩ : ∃ t, t = N + 1 - j := ⟨_, rfl⟩
        have w5 : IntKind.i64.wrap (((N + 1 : Nat) : Int) - (j : Int)) = (t : Int) := by rw [show ((N + 1 : Nat) : Int) - (j : Int) = (t : Int) by omega]; exact IntWalk.i64_in _ (by omega)
        have w5' : IntKind.i64.wrap ((N : Int) + 1 - (j : Int)) = (t : Int) := by rw [show (N : Int) + 1 - (j : Int) = (t : Int) by omega]; exact IntWalk.i64_in _ (by omega)
        have T : SymAt f a m e d j t := ⟨by omega, by omega, by omega, by omega, by omega, HU1.out, HU2.out, by
          rcases HLo.out with h1 | h1
          · omega
          · exact .inr (.inr (by rw [ht]; exact h1)), by
          rcases HHi.out with h1 | h1
          · omega
          · exact .inr (.inr (by rw [show t - 1 = N - j by omega]; exact h1))⟩
        have hD := H.out.bel HB.out
        have hG := bel_grown HB.out (some b)
        have g1 := T.ax
        have g2 := T.xm
        have g3 := T.mt
        have g4 := T.te
        have g5 : d < e := by omega
        have g6 : j ≤ d ∧ d ≤ t := by have := T.mid; omega
        have g7 : a < d := by omega
        have HT := Lib.hid T
        have HD := Lib.hid hD
        have HG := Lib.hid hG
        clear T hD hG hS ht HLo HHi HB H HU1 HU2 HS hi hj hlt hij hN1 hd1 hd2 hsr hrm
        go_upto_region 39 with (fail)
        clear w5 w5'
        obtain ⟨B, hBB⟩ : ∃ B, B = decide (j < m ∧ m < t) := ⟨_, rfl⟩
        have HBB := Lib.hid hBB
        clear hBB
        go_cut [185] from 178 (fun v wx => v = .bool B ∧ wx = wr)
        case first =>
          by_cases c1 : j < m
          · by_cases c2 : m < t
            · have hb : B = true := by rw [HBB.out]; exact decide_eq_true ⟨c1, c2⟩
              clear HBB
              subst hb
              go_wp2
              go_meet
              exact ⟨rfl, rfl⟩
            · have hb : B = false := by rw [HBB.out]; exact decide_eq_false (fun h => c2 h.2)
              clear HBB
              subst hb
              go_wp2
              go_meet
              exact ⟨rfl, rfl⟩
          · have hb : B = false := by rw [HBB.out]; exact decide_eq_false (fun h => c1 h.1)
            clear HBB
            subst hb
            go_wp2
            go_meet
            exact ⟨rfl, rfl⟩
        case rest =>
          obtain ⟨rfl, hcut⟩ := hcut
          replace hcut := hcut.symm
          subst hcut
          go_upto_if 185 with (fail)
          go_cut [] from 178 (fun wx => Hid (Dat wx b o (rot f j m t) n) ∧ Hid (w.grownBy wx (some b)))
          case first =>
            cases B
            · have c1 := of_decide_eq_false HBB.out.symm
              have HD1 : Hid (Dat wr b o (rot f j m t) n) := (by rw [HT.out.rot0 c1]; exact HD.out : Dat wr b o (rot f j m t) n)
              clear c1
              go_wp2
              go_meet
              exact ⟨HD1, HG⟩
            · have c1 := of_decide_eq_true HBB.out.symm
              have HS := Lib.hid (rotate_any (v := cmpF) (c := c) HD.out j m t hn c1.1 c1.2 (by omega))
              go_wp2_with (go_at_call 98; (with_reducible refine HS.out.mono ?_); rintro e1 W1 ⟨rfl, hD1, hG1⟩; have HD1 := Lib.hid hD1; have HG1 := Lib.hid (grownBy_trans HG.out hG1); clear hD1 hG1)
              go_meet
              exact ⟨HD1, HG1⟩
          case rest =>
            obtain ⟨HD1, HG1⟩ := hcut
            clear HD HG
            go_upto_region 41 with (fail)
            clear HBB
            obtain ⟨B, hBB⟩ : ∃ B, B = decide (a < j ∧ j < d) := ⟨_, rfl⟩
            have HBB := Lib.hid hBB
            clear hBB
            go_cut [199] from 192 (fun v wx => v = .bool B ∧ wx = wc)
            case first =>
              by_cases c1 : a < j
              · by_cases c2 : j < d
                · have hb : B = true := by rw [HBB.out]; exact decide_eq_true ⟨c1, c2⟩
                  clear HBB
                  subst hb
                  go_wp2
                  go_meet
                  exact ⟨rfl, rfl⟩
                · have hb : B = false := by rw [HBB.out]; exact decide_eq_false (fun h => c2 h.2)
                  clear HBB
                  subst hb
                  go_wp2
                  go_meet
                  exact ⟨rfl, rfl⟩
              · have hb : B = false := by rw [HBB.out]; exact decide_eq_false (fun h => c1 h.1)
                clear HBB
                subst hb
                go_wp2
                go_meet
                exact ⟨rfl, rfl⟩
            case rest =>
              obtain ⟨rfl, hcut⟩ := hcut
              replace hcut := hcut.symm
              subst hcut
              go_upto_if 199 with (fail)
              go_cut [] from 192 (fun wx => ∃ g, Hid (Dat wx b o g n) ∧ Hid (w.grownBy wx (some b)) ∧ Hid (∀ x, x < a ∨ d ≤ x → g x = rot f j m t x) ∧ Hid (SO (seg (rot f j m t) a d) (seg g a d)))
              case first =>
                cases B
                · have c1 := of_decide_eq_false HBB.out.symm
                  have HS2 : Hid (SO (seg (rot f j m t) a d) (seg (rot f j m t) a d)) := SO.self (HT.out.left0 c1)
                  clear c1
                  go_wp2
                  go_meet
                  exact ⟨_, HD1, HG1, fun _ _ => rfl, HS2⟩
                · have c1 := of_decide_eq_true HBB.out.symm
                  have HS := Lib.hid (HI.out _ _ HD1.out a j d c1.1 c1.2 (by omega) (by omega) HT.out.p1 HT.out.p2)
                  go_wp2_with (go_at_call 95; (with_reducible refine HS.out.mono ?_); rintro e1 W2 ⟨g, ⟨rfl, hD2, hG2⟩, ho2, hs2⟩; have HD2 := Lib.hid hD2; have HG2 := Lib.hid (grownBy_trans HG1.out hG2); have HO2 := Lib.hid ho2; have HS2 := Lib.hid hs2; clear hD2 hG2 ho2 hs2)
                  go_meet
                  exact ⟨g, HD2, HG2, HO2, HS2⟩
              case rest =>
                obtain ⟨g, HD2, HG2, HO2, HS2⟩ := hcut
                clear HD1 HG1
                have e1 : seg g d t = seg (rot f j m t) d t := seg_congr fun i h1 h2 => HO2.out i (.inr h1)
                have e2 : seg g t e = seg (rot f j m t) t e := seg_congr fun i h1 h2 => HO2.out i (.inr (by omega))
                have e3 : seg g d e = seg (rot f j m t) d e := seg_congr fun i h1 h2 => HO2.out i (.inr h1)
                have P3 : Hid (Up (seg g d t)) := (by rw [e1]; exact HT.out.p3 : Up (seg g d t))
                have P4 : Hid (Up (seg g t e)) := (by rw [e2]; exact HT.out.p4 : Up (seg g t e))
                have P5 : Hid (¬ (d < t ∧ t < e) → Up (seg g d e)) := fun hh => by rw [e3]; exact HT.out.right0 hh
                have fin : ∀ q : Nat → Pe, (∀ x, x < d ∨ e ≤ x → q x = g x) → SO (seg g d e) (seg q d e) → (∀ x, x < a ∨ e ≤ x → q x = f x) ∧ SO (seg f a e) (seg q a e) := fun q hq hs => by
                  refine ⟨fun x hx => ?_, ?_⟩
                  · rw [hq x (by omega), HO2.out x (by omega)]
                    exact rot_out f g2 g3 (by omega)
                  · rw [seg_split q (show a ≤ d by omega) (show d ≤ e by omega), seg_congr (f := q) (g := g) (a := a) (b := d) fun i _ hi => hq i (.inl hi)]
                    exact HT.out.fin HS2.out (e3 ▸ hs)
                have HF := Lib.hid fin
                clear e1 e2 e3 fin HO2 HS2 HT
                clear HBB
                go_upto_region 43 with (fail)
                obtain ⟨B, hBB⟩ : ∃ B, B = decide (d < t ∧ t < e) := ⟨_, rfl⟩
                have HBB := Lib.hid hBB
                clear hBB
                go_cut [213] from 206 (fun v wx => v = .bool B ∧ wx = wc)
                case first =>
                  by_cases c1 : d < t
                  · by_cases c2 : t < e
                    · have hb : B = true := by rw [HBB.out]; exact decide_eq_true ⟨c1, c2⟩
                      clear HBB
                      subst hb
                      go_wp2
                      go_meet
                      exact ⟨rfl, rfl⟩
                    · have hb : B = false := by rw [HBB.out]; exact decide_eq_false (fun h => c2 h.2)
                      clear HBB
                      subst hb
                      go_wp2
                      go_meet
                      exact ⟨rfl, rfl⟩
                  · have hb : B = false := by rw [HBB.out]; exact decide_eq_false (fun h => c1 h.1)
                    clear HBB
                    subst hb
                    go_wp2
                    go_meet
                    exact ⟨rfl, rfl⟩
                case rest =>
                  obtain ⟨rfl, hcut⟩ := hcut
                  replace hcut := hcut.symm
                  subst hcut
                  cases B
                  · have c1 := of_decide_eq_false HBB.out.symm
                    have HQ := Lib.hid (HF.out g (fun _ _ => rfl) (SO.self (P5.out c1)))
                    clear c1
                    go_wp2
                    exact bodyPost_end (results_none rfl _ _ _) rfl ⟨g, ⟨rfl, HD2.out, HG2.out⟩, HQ.out⟩
                  · have c1 := of_decide_eq_true HBB.out.symm
                    have HS := Lib.hid (HI.out _ _ HD2.out d t e c1.1 c1.2 (by omega) (by omega) P3.out P4.out)
                    go_wp2_with (go_at_call 95; (with_reducible refine HS.out.mono ?_); rintro e1 W3 ⟨q, ⟨rfl, hD3, hG3⟩, ho3, hs3⟩; have HD3 := Lib.hid hD3; have HG3 := Lib.hid (grownBy_trans HG2.out hG3); have HQ := Lib.hid (HF.out q ho3 hs3); clear hD3 hG3 ho3 hs3)
                    exact bodyPost_end (results_none rfl _ _ _) rfl ⟨q, ⟨rfl, HD3.out, HG3.out⟩, HQ.out⟩
theorem symMerge_any {b o c n : Nat} (hn : n ≤ 1000) : ∀ (z : Nat) {w : World} {f : Nat → Pe}, Dat w b o f n → ∀ a m e, a < m → m < e → e ≤ n → e - a ≤ z → Up (seg f a m) → Up (seg f m e) →
    Calls Try.prog 95 #[.slice (some ⟨b, o, none⟩) n c, .int .i64 (a : Int), .int .i64 (m : Int), .int .i64 (e : Int), cmpF] w (Merges w b o n f a e) := by
  intro z
  induction z with
  | zero => intro w f h a m e ha hm he hz; omega
  | succ z ih =>
    intro w f h a m e ha hm he hz hu1 hu2
    by_cases h1 : m = a + 1
    · subst h1
      exact symLeft_any h a e hn (by omega) he hu2
    · by_cases h2 : e = m + 1
      · subst h2
        exact symRight_any h a m hn (by omega) he hu1
      · exact symMain h a m e hn (by omega) (by omega) he hu1 hu2 fun h' a' m' e' h1 h2 h3 h4 h5 h6 => ih h' a' m' e' h1 h2 h3 (by omega) h5 h6
end Go.Proofs.Ytfajfmcabpmchaa

namespace Go.Proofs.Ytfajfmcabpmchaa
set_option maxRecDepth 100000
open Go Go.RowKit Go.Sort

/-- the same peers, those of one address in the same order -/
structure Sta (l R : List Pe) : Prop where
  len : R.length = l.length
  same : ∀ k, fl k R = fl k l
theorem Sta.refl (l : List Pe) : Sta l l := ⟨rfl, fun _ => rfl⟩
theorem Sta.trans {l R Q : List Pe} (h : Sta l R) (k : Sta R Q) : Sta l Q := ⟨k.len.trans h.len, fun i => (k.same i).trans (h.same i)⟩
theorem sta_part {f g : Nat → Pe} {a e n : Nat} (h1 : a ≤ e) (h2 : e ≤ n) (ho : ∀ x, x < a ∨ e ≤ x → g x = f x) (hs : SO (seg f a e) (seg g a e)) : Sta (seg f 0 n) (seg g 0 n) := by
  refine ⟨by rw [seg_length, seg_length], fun k => ?_⟩
  rw [seg_split g (show 0 ≤ a by omega) (show a ≤ n by omega), seg_split g h1 h2, seg_split f (show 0 ≤ a by omega) (show a ≤ n by omega), seg_split f h1 h2, fl_append, fl_append, fl_append, fl_append, hs.same]
  rw [seg_congr (f := g) (g := f) (a := 0) (b := a) fun i _ hi => ho i (.inl hi), seg_congr (f := g) (g := f) (a := e) (b := n) fun i hi _ => ho i (.inr hi)]
/-- the row while it is sorted -/
structure Srt (w wr : World) (b o n : Nat) (f g : Nat → Pe) : Prop where
  dat : Dat wr b o g n
  grown : w.grownBy wr (some b)
  sta : Sta (seg f 0 n) (seg g 0 n)
theorem Srt.step {w wr w2 : World} {b o n : Nat} {f g : Nat → Pe} {a e : Nat} {r : Ending} (h : Srt w wr b o n f g) (h1 : a ≤ e) (h2 : e ≤ n) (m : Merges wr b o n g a e r w2) :
    r = .returned (.tuple #[]) ∧ ∃ g2, Srt w w2 b o n f g2 ∧ (∀ x, x < a ∨ e ≤ x → g2 x = g x) ∧ Up (seg g2 a e) := by
  obtain ⟨g2, ⟨rfl, hD, hG⟩, ho, hs⟩ := m
  exact ⟨rfl, g2, ⟨hD, grownBy_trans h.grown hG, h.sta.trans (sta_part h1 h2 ho hs)⟩, ho, hs.up⟩
/-- blocks of bs stand in order from a on -/
def Bl (g : Nat → Pe) (bs a n : Nat) : Prop := ∀ k, a + k * bs < n → Up (seg g (a + k * bs) (min (a + k * bs + bs) n))
theorem Bl.next {g : Nat → Pe} {bs a n : Nat} (h : Bl g bs a n) : Bl g bs (a + bs) n := fun k hk => by
  have e : a + bs + k * bs = a + (k + 1) * bs := by rw [Nat.succ_mul]; omega
  rw [e] at hk ⊢
  exact h (k + 1) hk
theorem Bl.congr {g g2 : Nat → Pe} {bs a n : Nat} (h : Bl g bs a n) (e : ∀ x, a ≤ x → x < n → g2 x = g x) : Bl g2 bs a n := fun k hk => by
  rw [seg_congr (g := g) fun i h1 h2 => e i (by omega) (by omega)]
  exact h k hk
theorem Bl.fst {g : Nat → Pe} {bs a n : Nat} (h : Bl g bs a n) (ha : a < n) : Up (seg g a (min (a + bs) n)) := by
  have := h 0 (by omega)
  rwa [Nat.zero_mul, Nat.add_zero] at this
/-- the first q blocks of s stand in order -/
def Dn (g : Nat → Pe) (s q : Nat) : Prop := ∀ k, k < q → Up (seg g (k * s) (k * s + s))
theorem Dn.more {g g2 : Nat → Pe} {s q A : Nat} (h : Dn g s q) (hA : A = q * s) (e : ∀ x, x < A → g2 x = g x) (hu : Up (seg g2 A (A + s))) : Dn g2 s (q + 1) := fun k hk => by
  rcases Nat.lt_or_ge k q with h1 | h1
  · have h2 : (k + 1) * s ≤ q * s := Nat.mul_le_mul_right s h1
    rw [Nat.succ_mul] at h2
    rw [seg_congr (g := g) fun i _ hi => e i (by omega)]
    exact h k h1
  · obtain rfl : k = q := by omega
    rw [← hA]; exact hu
theorem Dn.all {g : Nat → Pe} {s q A n : Nat} (h : Dn g s q) (hA : A = q * s) (h1 : A ≤ n) (h2 : n < A + s) (hu : A < n → Up (seg g A n)) : Bl g s 0 n := fun k hk => by
  rw [Nat.zero_add] at hk ⊢
  rcases Nat.lt_trichotomy k q with h3 | h3 | h3
  · have h4 : (k + 1) * s ≤ q * s := Nat.mul_le_mul_right s h3
    rw [Nat.succ_mul] at h4
    rw [Nat.min_eq_left (by omega)]
    exact h k h3
  · subst h3
    rw [← hA] at hk ⊢
    rw [Nat.min_eq_right (by omega)]
    exact hu hk
  · have h4 : (q + 1) * s ≤ k * s := Nat.mul_le_mul_right s h3
    rw [Nat.succ_mul] at h4
    omega
set_option maxHeartbeats 16000000 in
theorem stable_any {w : World} {b o c n : Nat} {f : Nat → Pe} (h : Dat w b o f n) (hn : n ≤ 1000) :
    Calls Try.prog 91 #[.slice (some ⟨b, o, none⟩) n c, .int .i64 (n : Int), cmpF] w fun r w' => ∃ g, Does w b o n g r w' ∧ SO (seg f 0 n) (seg g 0 n) := by
  have HI : Hid (∀ (w : World) (g : Nat → Pe), Dat w b o g n → ∀ a e, a ≤ e → e ≤ n → Calls Try.prog 94 #[.slice (some ⟨b, o, none⟩) n c, .int .i64 (a : Int), .int .i64 (e : Int), cmpF] w (Merges w b o n g a e)) := fun w g hD a e ha he => insertion_any hD a e hn ha he
  have HM : Hid (∀ (w : World) (g : Nat → Pe), Dat w b o g n → ∀ a m e, a < m → m < e → e ≤ n → Up (seg g a m) → Up (seg g m e) → Calls Try.prog 95 #[.slice (some ⟨b, o, none⟩) n c, .int .i64 (a : Int), .int .i64 (m : Int), .int .i64 (e : Int), cmpF] w (Merges w b o n g a e)) := fun w g hD a m e ha hm he u1 u2 => symMerge_any hn (e - a) hD a m e ha hm he (Nat.le_refl _) u1 u2
  have H0 : Hid (Srt w w b o n f f) := ⟨h, World.grownBy.refl _ _, Sta.refl _⟩
  clear h
  go_enter Try.func91, Try.ntmps91
  go_upto_region 2 with (fail)
  go_loopw [7, 8] (fun x y wr => ∃ (q a e : Nat) (g : Nat → Pe), x = .int .i64 (a : Int) ∧ y = .int .i64 (e : Int) ∧ a = q * 20 ∧ e = a + 20 ∧ a ≤ n ∧ Srt w wr b o n f g ∧ Dn g 20 q) (fun _ y _ => n + 20 - (intOf y).toNat)
  case atStart => exact ⟨0, 0, 20, f, rfl, rfl, rfl, rfl, Nat.zero_le _, H0.out, fun k hk => by omega⟩
  case round =>
    obtain ⟨q, a, e, g, rfl, rfl, hA, he, han, hS, hDn⟩ := hrel
    have HS := Lib.hid hS
    have HA := Lib.hid hA
    have HDn := Lib.hid hDn
    clear hS hDn hA
    by_cases hen : e ≤ n
    · have hC := Lib.hid (HI.out _ _ HS.out.dat a e (by omega) hen)
      have w1 : IntKind.i64.wrap ((e : Int) + 20) = (e : Int) + 20 := IntWalk.i64_in _ (by omega)
      have HE := Lib.hid he
      clear he
      go_wp2_with (go_at_call 94; (with_reducible refine hC.out.mono ?_); rintro r w2 hm; obtain ⟨rfl, g2, s2, o2, u2⟩ := HS.out.step (by have := HE.out; omega) hen hm; have HS2 := Lib.hid s2; have HO2 := Lib.hid o2; have HU2 := Lib.hid u2; clear hm s2 o2 u2)
      have he := HE.out
      exact ⟨⟨q + 1, e, e + 20, g2, rfl, by go_num, by rw [he, HA.out]; omega, rfl, hen, HS2.out, HDn.out.more HA.out (fun x hx => HO2.out x (.inl hx)) (by rw [← he]; exact HU2.out)⟩, by simp [intOf]; omega⟩
    · have hC := Lib.hid (HI.out _ _ HS.out.dat a n han (Nat.le_refl _))
      have HE : Hid (a + 20 > n) := (by omega : a + 20 > n)
      clear he
      go_upto_region 7 with (go_at_call 94; (with_reducible refine hC.out.mono ?_); rintro r w2 hm; obtain ⟨rfl, g2, s2, o2, u2⟩ := HS.out.step han (Nat.le_refl _) hm; have HS2 := Lib.hid s2; have HO2 := Lib.hid o2; have HU2 := Lib.hid u2; clear hm s2 o2 u2)
      have HB : Hid (Bl g2 20 0 n) := by
        have hd : Dn g2 20 q := fun k hk => by
          have ha := HA.out
          rw [seg_congr (g := g) fun i _ hi => HO2.out i (.inl (by omega))]
          exact HDn.out k hk
        exact hd.all HA.out han HE.out fun _ => HU2.out
      clear HS HA HDn HE HO2 HU2 hC H0 HI hen han
      go_loopw [6, 7, 8, 9] (fun x _ _ _ wr => ∃ (bs : Nat) (g : Nat → Pe), x = .int .i64 (bs : Int) ∧ 20 ≤ bs ∧ bs ≤ 2000 ∧ Srt w wr b o n f g ∧ Bl g bs 0 n) (fun x _ _ _ _ => n - (intOf x).toNat)
      case atStart => exact ⟨20, g2, rfl, Nat.le_refl _, by omega, HS2.out, HB.out⟩
      case round =>
        obtain ⟨bs, g, rfl, hb1, hb2, hS, hB⟩ := hrel
        clear HS2 HB
        have HS := Lib.hid hS
        have HB := Lib.hid hB
        clear hS hB
        by_cases hlt : bs < n
        · obtain ⟨s, hs⟩ : ∃ s, s = 2 * bs := ⟨_, rfl⟩
          have w1 : IntKind.i64.wrap (2 * (bs : Int)) = (s : Int) := by rw [show 2 * (bs : Int) = (s : Int) by omega]; exact IntWalk.i64_in _ (by omega)
          have w2 : IntKind.i64.wrap ((bs : Int) * 2) = (s : Int) := by rw [show (bs : Int) * 2 = (s : Int) by omega]; exact IntWalk.i64_in _ (by omega)
          have HE := Lib.hid hs
          have hs1 : s ≤ 2000 := by omega
          have hs2 : bs < s := by omega
          clear hs
          go_upto_region 9 with (fail)
          go_loopw [7, 8] (fun x y wr => ∃ (q a e : Nat) (g : Nat → Pe), x = .int .i64 (a : Int) ∧ y = .int .i64 (e : Int) ∧ a = q * s ∧ e = a + s ∧ a ≤ n ∧ Srt w wr b o n f g ∧ Dn g s q ∧ Bl g bs a n) (fun _ y _ => n + s - (intOf y).toNat)
          case atStart => exact ⟨0, 0, s, g, rfl, rfl, by rw [Nat.zero_mul], (Nat.zero_add s).symm, Nat.zero_le _, HS.out, fun k hk => by omega, HB.out⟩
          case round =>
            clear HS HB
            obtain ⟨q, a, e, g, rfl, rfl, hA, he, han, hS, hDn, hB⟩ := hrel
            have HS := Lib.hid hS
            have HA := Lib.hid hA
            have HDn := Lib.hid hDn
            have HB := Lib.hid hB
            clear hS hDn hA hB
            obtain ⟨m, hm⟩ : ∃ m, m = a + bs := ⟨_, rfl⟩
            have w3 : IntKind.i64.wrap ((a : Int) + (bs : Int)) = (m : Int) := by rw [show (a : Int) + (bs : Int) = (m : Int) by omega]; exact IntWalk.i64_in _ (by omega)
            have HMM := Lib.hid hm
            by_cases hen : e ≤ n
            · have u1 : Up (seg g a m) := by have := HB.out.fst (by omega); rwa [Nat.min_eq_left (by omega), ← hm] at this
              have u2 : Up (seg g m e) := by have := HB.out.next.fst (by omega); rwa [← hm, Nat.min_eq_left (by have := HE.out; omega), show m + bs = e by have := HE.out; omega] at this
              have hC := Lib.hid (HM.out _ _ HS.out.dat a m e (by omega) (by have := HE.out; omega) hen u1 u2)
              have w4 : IntKind.i64.wrap ((e : Int) + (s : Int)) = (e : Int) + (s : Int) := IntWalk.i64_in _ (by omega)
              have HEe := Lib.hid he
              clear he hm u1 u2
              go_wp2_with (go_at_call 95; (with_reducible refine hC.out.mono ?_); rintro r w5 hm; obtain ⟨rfl, g2, s2, o2, u2⟩ := HS.out.step (by have := HEe.out; omega) hen hm; have HS2 := Lib.hid s2; have HO2 := Lib.hid o2; have HU2 := Lib.hid u2; clear hm s2 o2 u2)
              have he := HEe.out
              exact ⟨⟨q + 1, e, e + s, g2, rfl, by go_num, by rw [he, HA.out, Nat.succ_mul], rfl, hen, HS2.out, HDn.out.more HA.out (fun x hx => HO2.out x (.inl hx)) (by rw [← he]; exact HU2.out), by
                have h2 := HB.out.next.next
                rw [show a + bs + bs = e by have := HE.out; omega] at h2
                exact h2.congr fun x hx _ => HO2.out x (.inr hx)⟩, by simp [intOf]; omega⟩
            · by_cases hmn : m < n
              · have u1 : Up (seg g a m) := by have := HB.out.fst (by omega); rwa [Nat.min_eq_left (by omega), ← hm] at this
                have u2 : Up (seg g m n) := by have := HB.out.next.fst (by omega); rwa [← hm, Nat.min_eq_right (by have := HE.out; omega)] at this
                have hC := Lib.hid (HM.out _ _ HS.out.dat a m n (by omega) hmn (Nat.le_refl _) u1 u2)
                have HEe := Lib.hid he
                clear he hm u1 u2
                go_wp2_with (go_at_call 95; (with_reducible refine hC.out.mono ?_); rintro r w5 hm; obtain ⟨rfl, g2, s2, o2, u2⟩ := HS.out.step han (Nat.le_refl _) hm; have HS2 := Lib.hid s2; have HO2 := Lib.hid o2; have HU2 := Lib.hid u2; clear hm s2 o2 u2)
                have he := HEe.out
                have fin : Bl g2 s 0 n := by
                  have hd : Dn g2 s q := fun k hk => by
                    have ha := HA.out
                    have h4 : (k + 1) * s ≤ q * s := Nat.mul_le_mul_right s hk
                    rw [Nat.succ_mul] at h4
                    rw [seg_congr (g := g) fun i _ hi => HO2.out i (.inl (by omega))]
                    exact HDn.out k hk
                  exact hd.all HA.out han (by omega) fun _ => HU2.out
                exact ⟨⟨s, g2, rfl, by omega, hs1, HS2.out, fin⟩, by simp [intOf]; omega⟩
              · have fin : Bl g s 0 n := HDn.out.all HA.out han (by omega) fun h1 => by
                  have := HB.out.fst h1; rwa [Nat.min_eq_right (by omega)] at this
                have HF := Lib.hid fin
                clear fin he hm
                go_wp2
                exact ⟨⟨s, g, rfl, by omega, hs1, HS.out, HF.out⟩, by simp [intOf]; omega⟩
        · go_wp2
          refine bodyPost_end (results_none rfl _ _ _) rfl ⟨g, ⟨rfl, HS.out.dat, HS.out.grown⟩, ⟨HS.out.sta.len, ?_, HS.out.sta.same⟩⟩
          rcases Nat.eq_zero_or_pos n with rfl | h0
          · rw [seg_none g (Nat.le_refl _)]; exact List.Pairwise.nil
          · have := HB.out.fst h0
            rwa [Nat.min_eq_right (by omega)] at this
theorem sortStable_any {w : World} {b o c n : Nat} {f : Nat → Pe} (h : Dat w b o f n) (hn : n ≤ 1000) :
    Calls Try.prog 75 #[.slice (some ⟨b, o, none⟩) n c, cmpF] w fun r w' => ∃ g, Does w b o n g r w' ∧ SO (seg f 0 n) (seg g 0 n) := by
  have HC := Lib.hid (stable_any (c := c) h hn)
  clear h
  go_enter Try.func75, Try.ntmps75
  go_wp2_with (go_at_call 91; (with_reducible refine HC.out.mono ?_); rintro r w2 ⟨g, ⟨rfl, hD, hG⟩, hS⟩)
  exact bodyPost_end (results_none rfl _ _ _) rfl ⟨g, ⟨rfl, hD, hG⟩, hS⟩
end Go.Proofs.Ytfajfmcabpmchaa

namespace Go.Proofs.Ytfajfmcabpmchaa
set_option maxRecDepth 100000
open Go Go.RowKit Go.Sort

theorem elemP : Try.prog.elem 37 = 28 := by kernel_rfl
theorem sliceP : Try.prog.underlying 37 = some (.slice (Try.prog.elem 37)) := by rw [elemP]; exact Try.underlying37
theorem p_uptoS {w : World} {ops : Array Oper} {rest : List Oper} {op : Oper} {a : Act} {Q : Exit → Act → World → Prop} (hgd : op.guard = none) (s hi_ : Operand)
    (ho : op.op = .slice 37 s none (some hi_) none) (b o n c r : Nat) (hs : a.eval s = .slice (some ⟨b, o, none⟩) n c) (hlo : a.eval hi_ = .int .i64 (r : Int)) (hr : r ≤ c)
    (h : wpList Try.prog ops Q rest (a.put op.dst (.slice (some ⟨b, o, none⟩) r c)) w) : wpList Try.prog ops Q (op :: rest) a w := by
  obtain ⟨i, hi', hq⟩ := Option.map_eq_some_iff.1 sizeP
  have run : (Instr.sliceAt 37 (.slice (some ⟨b, o, none⟩) n c) none (some (.int .i64 (r : Int))) none).run Try.prog w = .ok (sliced (some ⟨b, o, none⟩) 0 r c 21) w := by
    rw [run_sliceAt_slice w 37 _ _ _ _ sliceP, run_slice_h w 37 _ n c sliceP .i64 (r : Int) (by omega) (by omega), elemP]
    simp [sizeOf, typeInfo, hi', Result.andThen, hq]
  have hv : sliced (some ⟨b, o, none⟩) 0 r c 21 = .slice (some ⟨b, o, none⟩) r c := by
    unfold sliced; split <;> simp [Addr.add_mid]
  refine wpList_plain hgd fun K hK => ?_
  unfold Oper.wp execOp
  simp only [ho, Option.map, hs, hlo, Sem.run_bind, Result.andThen_ok, run, hv]
  exact hK _ _ h
theorem p_fromS {w : World} {ops : Array Oper} {rest : List Oper} {op : Oper} {a : Act} {Q : Exit → Act → World → Prop} (hgd : op.guard = none) (s lo : Operand)
    (ho : op.op = .slice 37 s (some lo) none none) (b o n c r : Nat) (hs : a.eval s = .slice (some ⟨b, o, none⟩) n c) (hlo : a.eval lo = .int .i64 (r : Int)) (hr : r < n) (hc : n ≤ c)
    (h : wpList Try.prog ops Q rest (a.put op.dst (.slice (some ⟨b, o + r * 21, none⟩) (n - r) (c - r))) w) : wpList Try.prog ops Q (op :: rest) a w := by
  obtain ⟨i, hi', hq⟩ := Option.map_eq_some_iff.1 sizeP
  have run : (Instr.sliceAt 37 (.slice (some ⟨b, o, none⟩) n c) (some (.int .i64 (r : Int))) none none).run Try.prog w = .ok (sliced (some ⟨b, o, none⟩) r n c 21) w := by
    rw [run_sliceAt_slice w 37 _ _ _ _ sliceP, run_slice_l w 37 _ n c sliceP .i64 (r : Int) (by omega) (by omega), elemP]
    simp [sizeOf, typeInfo, hi', Result.andThen, hq]
  have hv : sliced (some ⟨b, o, none⟩) r n c 21 = .slice (some ⟨b, o + r * 21, none⟩) (n - r) (c - r) := by
    unfold sliced; rw [if_neg (by omega)]; simp [Addr.add_mid]
  refine wpList_plain hgd fun K hK => ?_
  unfold Oper.wp execOp
  simp only [ho, Option.map, hs, hlo, Sem.run_bind, Result.andThen_ok, run, hv]
  exact hK _ _ h
theorem zeroPe (w : World) : (zeroValue 28).run Try.prog w = .ok (.agg (peA (0, 0))) w := by kernel_rfl
/-- the cells of n zero peers -/
def zeroC (n : Nat) : List Value := (Builtin.zeroCells (peA (0, 0)) n).toList
theorem zeroC_length (n : Nat) : (zeroC n).length = n * 21 := by
  unfold zeroC Builtin.zeroCells
  rw [Array.length_toList, Array.size_map, Array.size_range, peA_size]
theorem zeroC_one (n : Nat) : ∀ v ∈ zeroC n, v.oneCell' = true := by
  intro v hv
  unfold zeroC Builtin.zeroCells at hv
  rw [Array.toList_map, List.mem_map] at hv
  obtain ⟨i, _, rfl⟩ := hv
  have hs := peA_size (0, 0)
  rw [getElem!_pos (peA (0, 0)) (i % (peA (0, 0)).size) (Nat.mod_lt _ (by omega))]
  exact (Array.all_eq_true_iff_forall_mem.1 (peA_one (0, 0))) _ (Array.getElem_mem _)
theorem run_clearP (w : World) (ty : TypeId) (b o n c : Nat) (hn : 0 < n) (ht : w.there b o (n * 21)) :
    (Builtin.clear_ #[37] ty #[.slice (some ⟨b, o, none⟩) n c]).run Try.prog w = .ok (.tuple #[]) (w.setCells b o (zeroC n)) := by
  have hst := run_storeCells_cells (P := Try.prog) b o (zeroC n) 0 w (fun j hj => by rw [zeroC_length] at hj; exact (ht j hj).1) (fun j hj => by rw [zeroC_length] at hj; exact (ht j hj).2) (zeroC_one n)
  rw [Nat.add_zero] at hst
  obtain ⟨m, rfl⟩ : ∃ m, n = m + 1 := ⟨n - 1, by omega⟩
  simp [Builtin.clear_, run_underlying Try.underlying37]
  change ((storeCells ⟨b, o, none⟩ (zeroC (m + 1))).run Try.prog w).andThen _ = _
  rw [hst]
  rfl
theorem p_clearP {w : World} {ops : Array Oper} {rest : List Oper} {op : Oper} {a : Act} {Q : Exit → Act → World → Prop} (hgd : op.guard = none) (s : Operand)
    (ho : op.op = .call { callee := .builtin .clear, args := #[s], argTypes := #[37] }) (b o n c : Nat) (hs : a.eval s = .slice (some ⟨b, o, none⟩) n c) (hn : 0 < n) (ht : w.there b o (n * 21))
    (h : wpList Try.prog ops Q rest (a.put op.dst (.tuple #[])) (w.setCells b o (zeroC n))) : wpList Try.prog ops Q (op :: rest) a w := by
  refine wpList_plain hgd fun K hK => ?_
  have hrun := run_clearP w op.type b o n c hn ht
  unfold Oper.wp execOp
  simp only [ho, resolve, invoke, builtin, Sem.run_bind, Sem.run_pure, Result.andThen_ok, List.map_toArray, List.map_cons, List.map_nil, hs, hrun]
  exact hK _ _ h
/-- the first k stay as they are -/
theorem Dat.take {w : World} {b o n : Nat} {f : Nat → Pe} (h : Dat w b o f n) {k : Nat} (hk : k ≤ n) : Dat w b o f k :=
  .of (fun i hi => h.at (by omega)) (fun j hj => h.there j (by omega)) h.lt
theorem Dat.cleared {w : World} {b o n : Nat} {f : Nat → Pe} (h : Dat w b o f n) {k : Nat} (hk : k < n) : Dat (w.setCells b (o + k * 21) (zeroC (n - k))) b o f k := by
  refine .of (fun i hi => ?_) (World.there_setCells (fun j hj => h.there j (by omega)) _ _ _) (by rw [(tape_setCells _ _ _ _).2]; exact h.lt)
  refine World.rangeAt_setCells_apart (h.at (by omega)) _ _ _ (.inr ?_)
  rw [peC_length, zeroC_length]; omega
theorem Dat.restThere {w : World} {b o n : Nat} {f : Nat → Pe} (h : Dat w b o f n) {k : Nat} (hk : k ≤ n) : w.there b (o + k * 21) ((n - k) * 21) := fun j hj => by
  have := h.there (k * 21 + j) (by omega)
  rwa [show o + (k * 21 + j) = o + k * 21 + j by omega] at this
theorem Dat.lies {w : World} {b o n c : Nat} {f : Nat → Pe} (h : Dat w b o f n) (hc : n ≤ c) : Lies w (.slice (some ⟨b, o, none⟩) n c) (seg f 0 n) :=
  .inr ⟨b, o, c, by rw [seg_length]; rfl, by rw [seg_length]; omega, h.cells⟩

/-- the row without those that follow one of their own address -/
def cptF (f : Nat → Pe) : Nat → List Pe
  | 0 => []
  | i + 1 => cptF f i ++ if i = 0 ∨ (f (i - 1)).1 ≠ (f i).1 then [f i] else []
theorem cpt_yes (f : Nat → Pe) {i : Nat} (h : i = 0 ∨ (f (i - 1)).1 ≠ (f i).1) : cptF f (i + 1) = cptF f i ++ [f i] := by rw [cptF, if_pos h]
theorem cpt_no (f : Nat → Pe) {i : Nat} (h0 : 0 < i) (h : (f (i - 1)).1 = (f i).1) : cptF f (i + 1) = cptF f i := by
  rw [cptF, if_neg, List.append_nil]
  rintro (h1 | h1)
  · omega
  · exact h1 h
theorem cpt_seg (f : Nat → Pe) : ∀ {k : Nat}, (∀ i, 1 ≤ i → i < k → (f (i - 1)).1 ≠ (f i).1) → cptF f k = seg f 0 k
  | 0, _ => rfl
  | k + 1, h => by
    rw [cpt_yes f (by
      rcases Nat.eq_zero_or_pos k with h0 | h0
      · exact .inl h0
      · exact .inr (h k h0 (by omega))), cpt_seg f fun i h1 h2 => h i h1 (by omega), seg_split f (show 0 ≤ k by omega) (show k ≤ k + 1 by omega), seg_one]
theorem seg_more {g : Nat → Pe} {k : Nat} {x : Pe} : seg (fun j => if j = k then x else g j) 0 (k + 1) = seg g 0 k ++ [x] := by
  rw [seg_split _ (show 0 ≤ k by omega) (show k ≤ k + 1 by omega), seg_one]
  congr 1
  · exact seg_congr fun i _ hi => if_neg (by omega)
  · simp
theorem beq_addr {x y : Int} : (x == y) = decide (x = y) := by
  by_cases h : x = y
  · subst h; simp
  · rw [decide_eq_false h]; simpa using h
abbrev eqF : Value := .func (.func 79) #[] #[]
end Go.Proofs.Ytfajfmcabpmchaa

namespace Go.Proofs.Ytfajfmcabpmchaa
set_option maxRecDepth 100000
open Go Go.RowKit Go.Sort

/-- what is left of the row -/
def Compacts (w : World) (b o n c : Nat) (f : Nat → Pe) (r : Ending) (w' : World) : Prop :=
  ∃ k g, r = .returned (.slice (some ⟨b, o, none⟩) k c) ∧ k ≤ n ∧ Dat w' b o g k ∧ w.grownBy w' (some b) ∧ seg g 0 k = cptF f n
set_option maxHeartbeats 8000000 in
theorem compact_any {w : World} {b o c n : Nat} {f : Nat → Pe} (h : Dat w b o f n) (hn : n ≤ 1000) (hc : n ≤ c) :
    Calls Try.prog 78 #[.slice (some ⟨b, o, none⟩) n c, eqF] w (Compacts w b o n c f) := by
  have H := Lib.hid h
  clear h
  by_cases h2 : n < 2
  · have h2i : (n : Int) < 2 := by omega
    go_enter Try.func78, Try.ntmps78
    go_wp2
    go_ret
    refine ⟨n, f, rfl, Nat.le_refl _, H.out, World.grownBy.refl _ _, (cpt_seg f fun i h1 h2 => by omega).symm⟩
  have h2i : ¬ (n : Int) < 2 := by omega
  go_enter Try.func78, Try.ntmps78
  go_upto_region 4 with (fail)
  clear h2i
  go_loopw [5] (fun i wr => ∃ k : Nat, i = .int .i64 (k : Int) ∧ 1 ≤ k ∧ k ≤ n ∧ (∀ i, 1 ≤ i → i < k → (f (i - 1)).1 ≠ (f i).1) ∧ Below w.heap.size w wr) (fun i _ => n - (intOf i).toNat)
  case atStart => exact ⟨1, rfl, Nat.le_refl _, by omega, fun i h1 h2 => by omega, Below.refl _ _⟩
  case round =>
    obtain ⟨k, rfl, hk1, hkn, hall, hB⟩ := hrel
    have HA := Lib.hid hall
    have HB := Lib.hid hB
    clear hall hB
    by_cases hlt : k < n
    · obtain ⟨k0, hk0⟩ : ∃ k0, k = k0 + 1 := ⟨k - 1, by omega⟩
      have hD := H.out.bel HB.out
      have r1 := hD.at (i := k) (by omega)
      have r2 := hD.at (i := k0) (by omega)
      have hC := eq_gives (f k) (f k0)
      have b1 : (k : Int) < (n : Int) := by omega
      have b2 : (0 : Int) ≤ (k : Int) := by omega
      have b3 : (k0 : Int) < (n : Int) := by omega
      have b4 : (0 : Int) ≤ (k0 : Int) := by omega
      have s1 : IntKind.i64.wrap ((k : Int) - 1) = (k0 : Int) := by rw [show (k : Int) - 1 = (k0 : Int) by omega]; exact IntWalk.i64_in _ (by omega)
      have s2 : IntKind.i64.wrap ((k : Int) + 1) = (k : Int) + 1 := IntWalk.i64_in _ (by omega)
      have HK0 := Lib.hid hk0
      clear hk0
      by_cases hx : (f k0).1 = (f k).1
      · have e1 : ((f k).1 == (f k0).1) = true := by rw [beq_addr]; exact decide_eq_true hx.symm
        have c0 : cptF f (k + 1) = seg f 0 k := by
          rw [cpt_no f (by omega) (by rw [show k - 1 = k0 by have := HK0.out; omega]; exact hx)]; exact cpt_seg f HA.out
        have HC0 := Lib.hid c0
        clear c0 hD hx
        rw [e1] at hC
        clear e1
        generalize f k = x at *
        generalize f k0 = y at *
        go_upto_region 6 with (fail)
        refine wp_region_quiet_below (by kernel_rfl) (by kernel_rfl) ?_
        repeat (first
          | go_big_quiet_skip
          | (go_big_quiet_want
             first
             | (first | (refine q_midP _ rfl b (o + k * 21) rfl x (by with_reducible exact r1) ?_) | (refine q_midP _ rfl b (o + k0 * 21) rfl y (by with_reducible exact r2) ?_)
                simp only [Act.put, List.setIfInBounds_toArray, List.set_cons_succ, List.set_cons_zero]
                go_big_quiet_on)
             | (go_big_quiet_op
                first | go_big_quiet_on | go_big_quiet_call (first | with_reducible exact hC.grown _ _))))
        refine wpQuiet_nil ?_
        intro w2 hw'
        have hb2 := quiet_end hw'
        clear hw'
        have HB2 := Lib.hid (step HB.out hb2)
        clear hb2 r1 r2
        have hD2 := H.out.bel HB2.out
        have hG2 := bel_grown HB2.out (some b)
        have HD2 := Lib.hid hD2
        have HG2 := Lib.hid hG2
        clear hD2 hG2 HB HB2 HA H hC b3 b4 s1 s2
        have hkn' : k < n := hlt
        have hnk : ((n - k : Nat) : Int) = (n : Int) - (k : Int) := by omega
        obtain ⟨m, hm⟩ : ∃ m, m = n - k := ⟨_, rfl⟩
        rw [← hm] at hnk
        have hm1 : k + m = n := by omega
        go_upto_region 8 with (refine p_fromS rfl _ _ rfl b o n c k rfl rfl hkn' hc ?_)
        rw [← hm]
        clear hm hnk
        go_upto_region 9 with (fail)
        go_loopw [5, 7] (fun x y wv => ∃ (i j : Nat) (g : Nat → Pe), x = .int .i64 (i : Int) ∧ y = .int .i64 (j : Int) ∧ k ≤ i ∧ i < k + j ∧ j ≤ m ∧ Dat wv b o g n ∧ w.grownBy wv (some b) ∧ seg g 0 i = cptF f (k + j) ∧ ∀ q, i ≤ q → q < n → g q = f q) (fun _ y _ => m - (intOf y).toNat)
        case atStart => exact ⟨k, 1, f, rfl, rfl, Nat.le_refl _, by omega, by omega, HD2.out, HG2.out, HC0.out.symm, fun _ _ _ => rfl⟩
        case round =>
          clear HD2 HG2 HC0
          obtain ⟨i, j, g, rfl, rfl, hi1, hi2, hj, hD, hG, hS, hE⟩ := hrel
          have HD := Lib.hid hD
          have HG := Lib.hid hG
          have HS := Lib.hid hS
          have HE := Lib.hid hE
          clear hD hG hS hE
          by_cases hlt2 : j < m
          · obtain ⟨j0, hj0⟩ : ∃ j0, j = j0 + 1 := ⟨j - 1, by omega⟩
            have r1 := HD.out.at (i := k + j) (by omega)
            have r2 := HD.out.at (i := k + j0) (by omega)
            rw [HE.out _ (by omega) (by omega)] at r1 r2
            rw [show o + (k + j) * 21 = o + k * 21 + j * 21 by omega] at r1
            rw [show o + (k + j0) * 21 = o + k * 21 + j0 * 21 by omega] at r2
            have hC := eq_gives (f (k + j)) (f (k + j0))
            have b1 : (j : Int) < (m : Int) := by omega
            have b2 : (0 : Int) ≤ (j : Int) := by omega
            have b3 : (j0 : Int) < (m : Int) := by omega
            have b4 : (0 : Int) ≤ (j0 : Int) := by omega
            have s1 : IntKind.i64.wrap ((j : Int) - 1) = (j0 : Int) := by rw [show (j : Int) - 1 = (j0 : Int) by omega]; exact IntWalk.i64_in _ (by omega)
            have s2 : IntKind.i64.wrap ((j : Int) + 1) = (j : Int) + 1 := IntWalk.i64_in _ (by omega)
            have HJ0 := Lib.hid hj0
            clear hj0
            by_cases hx : (f (k + j0)).1 = (f (k + j)).1
            · have e1 : ((f (k + j)).1 == (f (k + j0)).1) = true := by rw [beq_addr]; exact decide_eq_true hx.symm
              have c1 : seg g 0 i = cptF f (k + (j + 1)) := by
                rw [show k + (j + 1) = k + j + 1 from rfl, cpt_no f (by omega) (by rw [show k + j - 1 = k + j0 by have := HJ0.out; omega]; exact hx)]; exact HS.out
              have HC1 := Lib.hid c1
              rw [e1] at hC
              clear e1 c1 hx HS
              generalize f (k + j) = x at *
              generalize f (k + j0) = y at *
              go_upto_region 11 with (fail)
              refine wp_region_quiet_below (by kernel_rfl) (by kernel_rfl) ?_
              repeat (first
                | go_big_quiet_skip
                | (go_big_quiet_want
                   first
                   | (first | (refine q_midP _ rfl b (o + k * 21 + j * 21) rfl x (by with_reducible exact r1) ?_) | (refine q_midP _ rfl b (o + k * 21 + j0 * 21) rfl y (by with_reducible exact r2) ?_)
                      simp only [Act.put, List.setIfInBounds_toArray, List.set_cons_succ, List.set_cons_zero]
                      go_big_quiet_on)
                   | (go_big_quiet_op
                      first | go_big_quiet_on | go_big_quiet_call (first | with_reducible exact hC.grown _ _))))
              refine wpQuiet_nil ?_
              intro w2 hw'
              have hb2 := quiet_end hw'
              clear hw'
              clear r1 r2 hC
              go_wp2
              exact ⟨⟨i, j + 1, g, rfl, by go_num, hi1, by omega, by omega, HD.out.bel hb2, grownBy_trans HG.out (bel_grown hb2 (some b)), HC1.out, HE.out⟩, by simp [intOf]; omega⟩
            · have e1 : ((f (k + j)).1 == (f (k + j0)).1) = false := by rw [beq_addr]; exact decide_eq_false (fun h => hx h.symm)
              have c1 : seg (fun q => if q = i then f (k + j) else g q) 0 (i + 1) = cptF f (k + (j + 1)) := by
                rw [seg_more, show k + (j + 1) = k + j + 1 from rfl, cpt_yes f (.inr (by rw [show k + j - 1 = k + j0 by have := HJ0.out; omega]; exact hx)), HS.out]
              have HC1 := Lib.hid c1
              rw [e1] at hC
              clear e1 c1 hx HS
              generalize hfx : f (k + j) = x at *
              generalize f (k + j0) = y at *
              go_upto_region 11 with (fail)
              refine wp_region_quiet_below (by kernel_rfl) (by kernel_rfl) ?_
              repeat (first
                | go_big_quiet_skip
                | (go_big_quiet_want
                   first
                   | (first | (refine q_midP _ rfl b (o + k * 21 + j * 21) rfl x (by with_reducible exact r1) ?_) | (refine q_midP _ rfl b (o + k * 21 + j0 * 21) rfl y (by with_reducible exact r2) ?_)
                      simp only [Act.put, List.setIfInBounds_toArray, List.set_cons_succ, List.set_cons_zero]
                      go_big_quiet_on)
                   | (go_big_quiet_op
                      first | go_big_quiet_on | go_big_quiet_call (first | with_reducible exact hC.grown _ _))))
              refine wpQuiet_nil ?_
              intro w2 hw'
              have hb2 := quiet_end hw'
              clear hw'
              clear r1 r2 hC
              have hD3 := HD.out.bel hb2
              have r1 := hD3.at (i := k + j) (by omega)
              rw [HE.out _ (by omega) (by omega), hfx, show o + (k + j) * 21 = o + k * 21 + j * 21 by omega] at r1
              have t1 := hD3.thereAt (i := i) (by omega)
              have HD4 := Lib.hid (hD3.set (i := i) (by omega) x)
              have HG4 := Lib.hid (grownBy_trans (grownBy_trans HG.out (bel_grown hb2 (some b))) (grown_set w2 b (o + i * 21) (peC x)))
              clear hD3 HD HG hb2
              have b5 : (i : Int) < (n : Int) := by omega
              have b6 : (0 : Int) ≤ (i : Int) := by omega
              have s3 : IntKind.i64.wrap ((i : Int) + 1) = (i : Int) + 1 := IntWalk.i64_in _ (by omega)
              go_upto_region 13 with (first
                | (refine p_midP rfl _ rfl b (o + k * 21 + j * 21) rfl x (by with_reducible exact r1) ?_)
                | (refine wpList_store_mid rfl 28 _ _ rfl b (o + i * 21) (peA x) rfl rfl (by rw [peA_size]; exact t1) (by rw [peA_size]; exact sizeP) (peA_one x) ?_))
              rw [peA_list]
              clear r1 t1
              have HD5 := HD4
              have HG5 := HG4
              clear HD4 HG4
              generalize w2.setCells b (o + i * 21) (peC x) = W4 at *
              go_wp2
              exact ⟨⟨i + 1, j + 1, _, by go_num, by go_num, by omega, by omega, by omega, HD5.out, HG5.out, HC1.out, fun q h1 h2 => (if_neg (by omega)).trans (HE.out q (by omega) h2)⟩, by simp [intOf]; omega⟩
          · obtain rfl : j = m := by omega
            have hS := HS.out
            rw [hm1] at hS
            have HS2 := Lib.hid hS
            clear hS HS HE
            have hin : i < n := by omega
            have ht := HD.out.restThere (k := i) (by omega)
            have HD2 := Lib.hid (HD.out.cleared hin)
            have HG2 := Lib.hid (grownBy_trans HG.out (grown_set wr b (o + i * 21) (zeroC (n - i))))
            clear HD HG
            have hin1 : i ≤ n := by omega
            go_upto_region 15 with (first
              | (refine p_fromS rfl _ _ rfl b o n c i rfl rfl hin hc ?_)
              | (refine p_clearP rfl _ rfl b (o + i * 21) (n - i) (c - i) rfl (by omega) ht ?_))
            clear ht
            generalize wr.setCells b (o + i * 21) (zeroC (n - i)) = W5 at *
            go_wp2_with (refine p_uptoS rfl _ _ rfl b o n c i rfl rfl (by omega) ?_)
            go_ret
            exact ⟨i, g, rfl, by omega, HD2.out, HG2.out, HS2.out⟩
      · have e1 : ((f k).1 == (f k0).1) = false := by rw [beq_addr]; exact decide_eq_false (fun h => hx h.symm)
        have hall : ∀ i, 1 ≤ i → i < k + 1 → (f (i - 1)).1 ≠ (f i).1 := fun i h1 h2 => by
          rcases Nat.lt_or_ge i k with h3 | h3
          · exact HA.out i h1 h3
          · obtain rfl : i = k := by omega
            rw [show i - 1 = k0 by have := HK0.out; omega]; exact hx
        have HA2 := Lib.hid hall
        clear hall HA hD hx
        rw [e1] at hC
        clear e1
        generalize f k = x at *
        generalize f k0 = y at *
        go_upto_region 6 with (fail)
        refine wp_region_quiet_below (by kernel_rfl) (by kernel_rfl) ?_
        repeat (first
          | go_big_quiet_skip
          | (go_big_quiet_want
             first
             | (first | (refine q_midP _ rfl b (o + k * 21) rfl x (by with_reducible exact r1) ?_) | (refine q_midP _ rfl b (o + k0 * 21) rfl y (by with_reducible exact r2) ?_)
                simp only [Act.put, List.setIfInBounds_toArray, List.set_cons_succ, List.set_cons_zero]
                go_big_quiet_on)
             | (go_big_quiet_op
                first | go_big_quiet_on | go_big_quiet_call (first | with_reducible exact hC.grown _ _))))
        refine wpQuiet_nil ?_
        intro w2 hw'
        have hb2 := quiet_end hw'
        clear hw'
        have HB2 := Lib.hid (step HB.out hb2)
        clear hb2 r1 r2
        go_wp2
        exact ⟨⟨k + 1, by go_num, by omega, by omega, HA2.out, HB2.out⟩, by simp [intOf]; omega⟩
    · obtain rfl : k = n := by omega
      go_wp2
      go_ret
      exact ⟨k, f, rfl, Nat.le_refl _, H.out.bel HB.out, bel_grown HB.out _, (cpt_seg f HA.out).symm⟩
end Go.Proofs.Ytfajfmcabpmchaa
