/- Of several peers the first one of each address, by rising addresses. Nothing of the program is named here. -/
import Derived.Test.YtfajfmcabpmchaaTabSort
namespace Go.Proofs.Ytfajfmcabpmchaa
set_option maxRecDepth 100000
open Go.RowKit

/-- rising, no address twice -/
def Asc (K : List Pe) : Prop := K.Pairwise fun x y => x.1 < y.1
/-- K are the first ones of l -/
structure Firsts (l K : List Pe) : Prop where
  asc : Asc K
  mem : ∀ x, x ∈ K ↔ l.find? (fun y => decide (y.1 = x.1)) = some x
theorem asc_eq : ∀ {A B : List Pe}, Asc A → Asc B → (∀ x, x ∈ A ↔ x ∈ B) → A = B
  | [], [], _, _, _ => rfl
  | [], b :: B, _, _, h => absurd ((h b).2 (List.mem_cons_self ..)) (by simp)
  | a :: A, [], _, _, h => absurd ((h a).1 (List.mem_cons_self ..)) (by simp)
  | a :: A, b :: B, hA, hB, h => by
    have hA' := List.pairwise_cons.1 hA
    have hB' := List.pairwise_cons.1 hB
    have e : a = b := by
      rcases List.mem_cons.1 ((h a).1 (List.mem_cons_self ..)) with h1 | h1
      · exact h1
      · rcases List.mem_cons.1 ((h b).2 (List.mem_cons_self ..)) with h2 | h2
        · exact h2.symm
        · have := hA'.1 b h2
          have := hB'.1 a h1
          omega
    subst e
    rw [asc_eq hA'.2 hB'.2 fun x => ?_]
    constructor
    · intro hx
      rcases List.mem_cons.1 ((h x).1 (List.mem_cons_of_mem _ hx)) with h1 | h1
      · have := hA'.1 x hx
        rw [h1] at this; omega
      · exact h1
    · intro hx
      rcases List.mem_cons.1 ((h x).2 (List.mem_cons_of_mem _ hx)) with h1 | h1
      · have := hB'.1 x hx
        rw [h1] at this; omega
      · exact h1
theorem Firsts.uniq {l A B : List Pe} (hA : Firsts l A) (hB : Firsts l B) : A = B := asc_eq hA.asc hB.asc fun x => (hA.mem x).trans (hB.mem x).symm

/-- one is put in where it belongs, if its address is not there -/
def insU (K : List Pe) (x : Pe) : List Pe := if hasA K x.1 then K else K.takeWhile (fun y => decide (y.1 < x.1)) ++ x :: K.dropWhile (fun y => decide (y.1 < x.1))
  where hasA (K : List Pe) (a : Int) : Bool := K.any fun y => decide (y.1 = a)
def knF (l : List Pe) : List Pe := l.foldl insU []
theorem kn_snoc (l : List Pe) (x : Pe) : knF (l ++ [x]) = insU (knF l) x := by unfold knF; rw [List.foldl_append]; rfl
theorem find_snoc (l : List Pe) (x : Pe) (a : Int) : (l ++ [x]).find? (fun y => decide (y.1 = a)) = (l.find? (fun y => decide (y.1 = a))).or (if x.1 = a then some x else none) := by
  rw [List.find?_append]
  congr 1
  by_cases h : x.1 = a <;> simp [h]
theorem take_all {K : List Pe} {a : Int} {y : Pe} (h : y ∈ K.takeWhile (fun y => decide (y.1 < a))) : y.1 < a := by
  induction K with
  | nil => simp at h
  | cons z K ih =>
    rw [List.takeWhile_cons] at h
    by_cases hz : z.1 < a
    · rw [if_pos (by simpa using hz)] at h
      rcases List.mem_cons.1 h with rfl | h1
      · exact hz
      · exact ih h1
    · rw [if_neg (by simpa using hz)] at h; cases h
theorem drop_ge {K : List Pe} {a : Int} (hK : Asc K) {y : Pe} (h : y ∈ K.dropWhile (fun y => decide (y.1 < a))) : a ≤ y.1 := by
  induction K with
  | nil => simp at h
  | cons z K ih =>
    rw [List.dropWhile_cons] at h
    by_cases hz : z.1 < a
    · rw [if_pos (by simpa using hz)] at h
      exact ih (List.pairwise_cons.1 hK).2 h
    · rw [if_neg (by simpa using hz)] at h
      rcases List.mem_cons.1 h with rfl | h1
      · omega
      · have := (List.pairwise_cons.1 hK).1 y h1; omega
theorem ins_mem {K : List Pe} {x y : Pe} (h : insU.hasA K x.1 = false) : y ∈ insU K x ↔ y = x ∨ y ∈ K := by
  unfold insU
  rw [if_neg (by simp [h]), List.mem_append, List.mem_cons]
  conv => rhs; rw [← List.takeWhile_append_dropWhile (p := fun y => decide (y.1 < x.1)) (l := K), List.mem_append]
  constructor
  · rintro (h1 | h1 | h1)
    · exact .inr (.inl h1)
    · exact .inl h1
    · exact .inr (.inr h1)
  · rintro (h1 | h1 | h1)
    · exact .inr (.inl h1)
    · exact .inl h1
    · exact .inr (.inr h1)
theorem firsts_ins {l K : List Pe} (h : Firsts l K) (x : Pe) : Firsts (l ++ [x]) (insU K x) := by
  have hs : insU.hasA K x.1 = true ↔ ∃ y ∈ K, y.1 = x.1 := by unfold insU.hasA; simp
  cases hh : insU.hasA K x.1
  · have hno : ∀ y ∈ K, y.1 ≠ x.1 := fun y hy e => by rw [hs.2 ⟨y, hy, e⟩] at hh; cases hh
    have hf : l.find? (fun y => decide (y.1 = x.1)) = none := by
      cases hq : l.find? (fun y => decide (y.1 = x.1)) with
      | none => rfl
      | some y =>
        have h1 : y.1 = x.1 := by simpa using List.find?_some hq
        exact absurd h1 (hno y ((h.mem y).2 (by rw [h1]; exact hq)))
    refine ⟨?_, fun y => ?_⟩
    · unfold insU
      rw [if_neg (by simp [hh])]
      have hd : ∀ y ∈ K.dropWhile (fun y => decide (y.1 < x.1)), x.1 < y.1 := fun y hy => by
        have h1 := drop_ge h.asc hy
        have h2 := hno y ((List.dropWhile_sublist _).subset hy)
        omega
      refine List.pairwise_append.2 ⟨h.asc.sublist (List.takeWhile_sublist _), List.pairwise_cons.2 ⟨hd, h.asc.sublist (List.dropWhile_sublist _)⟩, fun y hy z hz => ?_⟩
      have h1 := take_all hy
      rcases List.mem_cons.1 hz with rfl | hz
      · exact h1
      · have := hd z hz; omega
    · rw [ins_mem hh, find_snoc]
      constructor
      · rintro (rfl | hy)
        · rw [hf, if_pos rfl]; rfl
        · rw [(h.mem y).1 hy]; rfl
      · intro hy
        cases hq : l.find? (fun z => decide (z.1 = y.1)) with
        | none =>
          rw [hq] at hy
          by_cases e : x.1 = y.1
          · rw [if_pos e] at hy
            exact .inl (Option.some.inj hy).symm
          · rw [if_neg e] at hy; cases hy
        | some z =>
          rw [hq] at hy
          have : z = y := Option.some.inj hy
          subst this
          exact .inr ((h.mem _).2 hq)
  · have hin : insU K x = K := by unfold insU; rw [if_pos hh]
    rw [hin]
    obtain ⟨z, hz, ez⟩ := hs.1 hh
    refine ⟨h.asc, fun y => ?_⟩
    rw [h.mem, find_snoc]
    constructor
    · intro hy; rw [hy]; rfl
    · intro hy
      cases hq : l.find? (fun u => decide (u.1 = y.1)) with
      | none =>
        rw [hq] at hy
        by_cases e : x.1 = y.1
        · have h1 := (h.mem z).1 hz
          rw [ez, e] at h1
          rw [hq] at h1; cases h1
        · rw [if_neg e] at hy; cases hy
      | some u => rw [hq] at hy; exact hy
theorem firsts_kn : ∀ l : List Pe, Firsts l (knF l) := by
  intro l
  suffices h : ∀ (m l K : List Pe), Firsts l K → Firsts (l ++ m) (m.foldl insU K) by
    exact h l [] [] ⟨List.Pairwise.nil, fun x => by simp⟩
  intro m
  induction m with
  | nil => intro l K h; simpa using h
  | cons x m ih =>
    intro l K h
    have := ih (l ++ [x]) (insU K x) (firsts_ins h x)
    rw [List.append_assoc] at this
    exact this
/-- what is sorted stably, without those that follow one of their own address -/
theorem cpt_mem (f : Nat → Pe) {n : Nat} {x : Pe} : x ∈ cptF f n ↔ ∃ i, i < n ∧ f i = x ∧ (i = 0 ∨ (f (i - 1)).1 ≠ x.1) := by
  induction n with
  | zero => simp [cptF]
  | succ n ih =>
    rw [cptF, List.mem_append, ih]
    constructor
    · rintro (⟨i, h1, h2, h3⟩ | h)
      · exact ⟨i, by omega, h2, h3⟩
      · by_cases hc : n = 0 ∨ (f (n - 1)).1 ≠ (f n).1
        · rw [if_pos hc] at h
          obtain rfl : x = f n := by simpa using h
          exact ⟨n, by omega, rfl, hc⟩
        · rw [if_neg hc] at h; cases h
    · rintro ⟨i, h1, h2, h3⟩
      rcases Nat.lt_or_ge i n with h4 | h4
      · exact .inl ⟨i, h4, h2, h3⟩
      · obtain rfl : i = n := by omega
        refine .inr ?_
        subst h2
        rw [if_pos h3]; simp
theorem cpt_asc {f : Nat → Pe} {n : Nat} (hu : Up (seg f 0 n)) : Asc (cptF f n) := by
  have hv := up_seg.1 hu
  suffices h : ∀ m, m ≤ n → Asc (cptF f m) from h n (Nat.le_refl _)
  intro m
  induction m with
  | zero => intro _; exact List.Pairwise.nil
  | succ m ih =>
    intro hm
    rw [cptF]
    by_cases hc : m = 0 ∨ (f (m - 1)).1 ≠ (f m).1
    · rw [if_pos hc]
      refine List.pairwise_append.2 ⟨ih (by omega), List.pairwise_singleton _ _, fun y hy z hz => ?_⟩
      obtain rfl : z = f m := by simpa using hz
      obtain ⟨i, h1, rfl, h3⟩ := (cpt_mem f).1 hy
      have h4 : m ≠ 0 := by omega
      have h5 := hc.resolve_left h4
      have h6 := hv (m - 1) m (by omega) (by omega) (by omega)
      rcases Nat.lt_or_ge i (m - 1) with h7 | h7
      · have := hv i (m - 1) (by omega) h7 (by omega); omega
      · obtain rfl : i = m - 1 := by omega
        omega
    · rw [if_neg hc, List.append_nil]; exact ih (by omega)
theorem fl_head (l : List Pe) (a : Int) : (fl a l).head? = l.find? fun y => decide (y.1 = a) := by unfold fl; rw [List.head?_filter]
theorem firsts_cpt {l : List Pe} {f : Nat → Pe} {n : Nat} (h : SO l (seg f 0 n)) : Firsts l (cptF f n) := by
  have hv := up_seg.1 h.up
  refine ⟨cpt_asc h.up, fun x => ?_⟩
  rw [cpt_mem, ← fl_head, ← h.same, fl_head, List.find?_eq_some_iff_getElem]
  constructor
  · rintro ⟨i, h1, h2, h3⟩
    refine ⟨by simp, i, by rw [seg_length]; omega, ?_, fun j hj => ?_⟩
    · simp only [seg, List.getElem_map, List.getElem_range, Nat.zero_add]; exact h2
    · simp only [seg, List.getElem_map, List.getElem_range, Nat.zero_add]
      subst h2
      have h4 := h3.resolve_left (by omega)
      have h5 := hv (i - 1) i (by omega) (by omega) h1
      have h6 : (f j).1 ≤ (f (i - 1)).1 := by
        rcases Nat.lt_or_ge j (i - 1) with h7 | h7
        · exact hv j (i - 1) (by omega) h7 (by omega)
        · obtain rfl : j = i - 1 := by omega
          exact Int.le_refl _
      have : ¬ (f j).1 = (f i).1 := by omega
      simpa using this
  · rintro ⟨_, i, h1, h2, h3⟩
    rw [seg_length] at h1
    simp only [seg, List.getElem_map, List.getElem_range, Nat.zero_add] at h2 h3
    refine ⟨i, by omega, h2, ?_⟩
    rcases Nat.eq_zero_or_pos i with h4 | h4
    · exact .inl h4
    · have := h3 (i - 1) (by omega)
      exact .inr (by simpa using this)
theorem cpt_kn {l : List Pe} {f : Nat → Pe} {n : Nat} (h : SO l (seg f 0 n)) : cptF f n = knF l := (firsts_cpt h).uniq (firsts_kn l)
end Go.Proofs.Ytfajfmcabpmchaa
