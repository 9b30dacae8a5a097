/- Open places between one another; the nearest one; what is known when one is forgotten. -/
import Derived.Test.YtfajfmcabpmchaaTabRight
namespace Go.Proofs.Ytfajfmcabpmchaa
set_option maxRecDepth 100000
open Go Go.RowKit Go.Sort

def dst (m A X : Nat) : Nat := if A ≤ X then X - A else X + m - A
theorem sub_dst (x a : Nat) : sub x a % M = dst M (a % M) (x % M) := by
  have hp : 0 < M := by unfold M; exact Nat.pow_pos (by omega)
  have hA := Nat.mod_lt a hp
  have hX := Nat.mod_lt x hp
  have hx := Nat.mod_add_div x M
  unfold sub dst
  generalize a % M = A at *
  generalize hXX : x % M = X at *
  generalize x / M = q at *
  generalize hm : M = m at *
  rw [← hx]
  have e : X + m * q + m - A = (X + m - A) + m * q := by omega
  rw [e, Nat.add_mul_mod_self_left]
  split
  · rw [show X + m - A = (X - A) + m by omega, Nat.add_mod_right, Nat.mod_eq_of_lt (by omega)]
  · rw [Nat.mod_eq_of_lt (by omega)]
theorem open_iff (a x b : Nat) : openB a x b = true ↔ x % M ≠ a % M ∧ (a % M = b % M ∨ dst M (a % M) (x % M) < dst M (a % M) (b % M)) := by
  unfold openB eqB lessB
  rw [sub_dst, sub_dst]
  simp only [Bool.and_eq_true, Bool.or_eq_true, Bool.not_eq_true', decide_eq_true_eq, decide_eq_false_iff_not, ne_eq]
theorem dst_step {m A X Y B : Nat} (hA : A < m) (hX : X < m) (hY : Y < m) (hB : B < m) (h2 : A = B ∨ dst m A X < dst m A B) (h3 : Y ≠ X) (h4 : X = B ∨ dst m X Y < dst m X B) : Y ≠ A ∧ (A = B ∨ dst m A Y < dst m A B) := by
  unfold dst at *
  repeat' split at h2
  all_goals (repeat' split at h4)
  all_goals (repeat' split)
  all_goals omega
theorem open_trans {a x y b : Nat} (h1 : openB a x b = true) (h2 : openB x y b = true) : openB a y b = true := by
  rw [open_iff] at h1 h2 ⊢
  exact dst_step (Nat.mod_lt _ M_pos) (Nat.mod_lt _ M_pos) (Nat.mod_lt _ M_pos) (Nat.mod_lt _ M_pos) h1.2 h2.1 h2.2
theorem open_self (a b : Nat) : openB a a b = false := by unfold openB; rw [eqB_self]; rfl
theorem open_not_end {a x b : Nat} (h : openB a x b = true) : eqB x b = false := by
  rw [open_iff] at h
  unfold eqB
  refine decide_eq_false fun e => ?_
  rw [e] at h
  rcases h.2 with h2 | h2
  · exact h.1 h2.symm
  · exact absurd h2 (Nat.lt_irrefl _)
/-- what holds of the nearest one so far, behind those of l -/
structure Near (s : Pe) (id : Nat) (A : List Int) (l : List Pe) (r : Pe × Bool) : Prop where
  no : r.2 = false → r.1 = s ∧ ∀ y ∈ l, memB A y.1 = false → openB s.2 y.2 id = false
  yes : r.2 = true → r.1 ∈ l ∧ memB A r.1.1 = false ∧ openB s.2 r.1.2 id = true ∧ ∀ y ∈ l, memB A y.1 = false → openB s.2 y.2 id = true → openB r.1.2 y.2 id = false
theorem near_all (s : Pe) (id : Nat) (A : List Int) : ∀ (K l : List Pe) (r : Pe × Bool), Near s id A l r → Near s id A (l ++ K) (nrG (fun a b => openB a b id) A r K)
  | [], l, r, h => by rw [List.append_nil]; exact h
  | x :: K, l, r, h => by
    rw [nrG, show l ++ x :: K = (l ++ [x]) ++ K by simp]
    refine near_all s id A K (l ++ [x]) _ ?_
    have hmem : ∀ y, y ∈ l ++ [x] → y ∈ l ∨ y = x := fun y hy => by
      rcases List.mem_append.1 hy with h | h
      · exact .inl h
      · exact .inr (List.mem_singleton.1 h)
    split
    · rename_i hc
      obtain ⟨hc1, hc2⟩ := hc
      have hsx : openB s.2 x.2 id = true := by
        cases hr : r.2
        · rw [(h.no hr).1] at hc2; exact hc2
        · exact open_trans (h.yes hr).2.2.1 hc2
      refine ⟨fun e => (by cases e), fun _ => ⟨List.mem_append_right _ (List.mem_singleton.2 rfl), hc1, hsx, fun y hy hm ho => ?_⟩⟩
      rcases hmem y hy with hy | rfl
      · cases hr : r.2
        · rw [(h.no hr).2 y hy hm] at ho; cases ho
        · cases hxy : openB x.2 y.2 id
          · rfl
          · have := (h.yes hr).2.2.2 y hy hm ho
            rw [open_trans hc2 hxy] at this; cases this
      · exact open_self _ _
    · rename_i hc
      refine ⟨fun e => ⟨(h.no e).1, fun y hy hm => ?_⟩, fun e => ⟨List.mem_append_left _ (h.yes e).1, (h.yes e).2.1, (h.yes e).2.2.1, fun y hy hm ho => ?_⟩⟩
      · rcases hmem y hy with hy | rfl
        · exact (h.no e).2 y hy hm
        · cases ho : openB s.2 y.2 id
          · rfl
          · exact absurd ⟨hm, by rw [(h.no e).1]; exact ho⟩ hc
      · rcases hmem y hy with hy | rfl
        · exact (h.yes e).2.2.2 y hy hm ho
        · cases ho2 : openB r.1.2 y.2 id
          · rfl
          · exact absurd ⟨hm, ho2⟩ hc
theorem near_of (s : Pe) (id : Nat) (A : List Int) (K : List Pe) : Near s id A K (nrG (fun a b => openB a b id) A (s, false) K) := by
  have := near_all s id A K [] (s, false) ⟨fun _ => ⟨rfl, fun y hy => (by cases hy)⟩, fun e => (by cases e)⟩
  rwa [List.nil_append] at this

/-! what is forgotten -/
theorem fil_forget (s p : Pe) (S L : List Pe) (a : Int) : fil s (forP a p :: (delL a S ++ L.map (forP a))) = (fil s (p :: (S ++ L))).filter fun x => !decide (x.1 = a) := by
  have h1 : ∀ x, (fil s [forP a x]) = (fil s [x]).filter fun x => !decide (x.1 = a) := fun x => by
    unfold fil forP
    by_cases hx : x.1 = a
    · rw [if_pos hx]
      have e : filB s (-1, 0) = false := by unfold filB; rfl
      rw [List.filter_cons_of_neg (by rw [e]; simp), List.filter_nil]
      by_cases hf : filB s x = true
      · rw [List.filter_cons_of_pos hf, List.filter_nil, List.filter_cons_of_neg (by simp [hx]), List.filter_nil]
      · rw [List.filter_cons_of_neg hf, List.filter_nil, List.filter_nil]
    · rw [if_neg hx]
      by_cases hf : filB s x = true
      · rw [List.filter_cons_of_pos hf, List.filter_nil, List.filter_cons_of_pos (by simp [hx]), List.filter_nil]
      · rw [List.filter_cons_of_neg hf, List.filter_nil, List.filter_nil]
  have ha : ∀ A B : List Pe, fil s (A ++ B) = fil s A ++ fil s B := fun A B => List.filter_append ..
  have h2 : ∀ l : List Pe, fil s (l.map (forP a)) = (fil s l).filter fun x => !decide (x.1 = a) := fun l => by
    induction l with
    | nil => rfl
    | cons x l ih =>
      rw [List.map_cons, show forP a x :: l.map (forP a) = [forP a x] ++ l.map (forP a) from rfl, ha, h1, ih, show x :: l = [x] ++ l from rfl, ha, List.filter_append]
  have h3 : fil s (delL a S) = (fil s S).filter fun x => !decide (x.1 = a) := by
    unfold fil delL
    rw [List.filter_filter, List.filter_filter]
    congr 1
    funext x
    exact Bool.and_comm ..
  rw [show forP a p :: (delL a S ++ L.map (forP a)) = [forP a p] ++ (delL a S ++ L.map (forP a)) from rfl, ha, ha, h1, h2, h3, show p :: (S ++ L) = [p] ++ (S ++ L) from rfl, ha, ha, List.filter_append, List.filter_append]
theorem firsts_filter {l K : List Pe} (h : Firsts l K) (P : Int → Bool) : Firsts (l.filter fun x => P x.1) (K.filter fun x => P x.1) := by
  refine ⟨List.Pairwise.filter _ h.asc, fun x => ?_⟩
  rw [List.mem_filter, h.mem, List.find?_filter]
  cases hp : P x.1
  · constructor
    · rintro ⟨_, h2⟩; cases h2
    · intro h2
      have h3 := List.find?_some h2
      simp [hp] at h3
  · have e : (fun y : Pe => decide (P y.1 = true ∧ decide (y.1 = x.1) = true)) = fun y => decide (y.1 = x.1) := by
      funext y
      by_cases hy : y.1 = x.1
      · simp [hy, hp]
      · simp [hy]
    constructor
    · rintro ⟨h1, _⟩; rw [e]; exact h1
    · intro h2; rw [e] at h2; exact ⟨h2, rfl⟩
theorem kn_forget (s p : Pe) (S L : List Pe) (a : Int) : knL s (forP a p) (delL a S) (L.map (forP a)) = (knL s p S L).filter fun x => !decide (x.1 = a) := by
  unfold knL
  rw [fil_forget]
  exact (firsts_kn _).uniq (firsts_filter (firsts_kn _) fun z => !decide (z = a))
theorem for_for (a : Int) (x : Pe) : forP a (forP a x) = forP a x := by
  unfold forP
  by_cases h : x.1 = a
  · rw [if_pos h]
    split <;> rfl
  · rw [if_neg h, if_neg h]
theorem del_del (a : Int) (S : List Pe) : delL a (delL a S) = delL a S := by
  unfold delL; rw [List.filter_filter]; congr 1; funext x; exact Bool.and_self _
theorem map_for (a : Int) (L : List Pe) : (L.map (forP a)).map (forP a) = L.map (forP a) := by
  rw [List.map_map]; congr 1; funext x; exact for_for a x
end Go.Proofs.Ytfajfmcabpmchaa
