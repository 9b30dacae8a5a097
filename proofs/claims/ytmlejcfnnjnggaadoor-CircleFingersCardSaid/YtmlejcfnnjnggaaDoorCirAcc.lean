/- A circle of addresses, put together one by one. -/
import Derived.Test.YtmlejcfnnjnggaaDoorCirFind
namespace Go.Proofs.YtmlejcfnnjnggaaDoor
set_option maxRecDepth 100000
open Go.RowKit

def insP (L : List Pe) (p : Pe) : List Pe := L.take (firstN L p.2) ++ p :: L.drop (firstN L p.2)
def peN (a : Int) : Pe := (a, idN a.toNat)
def accL (A : List Int) : Nat → List Pe
  | 0 => []
  | k + 1 => insP (accL A k) (peN (A.getD k 0))
def dupB (A : List Int) (k : Nat) : Bool := decide (firstN (accL A k) (peN (A.getD k 0)).2 < (accL A k).length ∧ ad (accL A k) (firstN (accL A k) (peN (A.getD k 0)).2) = A.getD k 0)
def Good (A : List Int) : Prop := ∀ j, j < A.length → 0 ≤ A.getD j 0 ∧ A.getD j 0 ≤ 999
theorem ins_length (L : List Pe) (p : Pe) : (insP L p).length = L.length + 1 := by
  have := first_le L p.2
  unfold insP
  rw [List.length_append, List.length_take, List.length_cons, List.length_drop]; omega
theorem ins_get (L : List Pe) (p : Pe) (j : Nat) : (insP L p).getD j (0, 0) = if j < firstN L p.2 then L.getD j (0, 0) else if j = firstN L p.2 then p else L.getD (j - 1) (0, 0) := by
  have hf := first_le L p.2
  unfold insP
  rw [List.getD_eq_getElem?_getD]
  by_cases h : j < firstN L p.2
  · rw [if_pos h, List.getElem?_append_left (by rw [List.length_take]; omega), List.getElem?_take, if_pos h, List.getD_eq_getElem?_getD]
  · rw [if_neg h, List.getElem?_append_right (by rw [List.length_take]; omega), List.length_take, Nat.min_eq_left hf]
    by_cases h2 : j = firstN L p.2
    · rw [if_pos h2, h2, Nat.sub_self]; rfl
    · rw [if_neg h2, show j - firstN L p.2 = (j - 1 - firstN L p.2) + 1 by omega, List.getElem?_cons_succ, List.getElem?_drop, show firstN L p.2 + (j - 1 - firstN L p.2) = j - 1 by omega, List.getD_eq_getElem?_getD]
theorem ins_ad (L : List Pe) (p : Pe) (j : Nat) : ad (insP L p) j = if j < firstN L p.2 then ad L j else if j = firstN L p.2 then p.1 else ad L (j - 1) := by
  unfold ad
  rw [ins_get]
  by_cases h1 : j < firstN L p.2
  · rw [if_pos h1, if_pos h1]
  · rw [if_neg h1, if_neg h1]
    by_cases h2 : j = firstN L p.2
    · rw [if_pos h2, if_pos h2]
    · rw [if_neg h2, if_neg h2]
theorem ins_pn (L : List Pe) (p : Pe) (j : Nat) : pn (insP L p) j = if j < firstN L p.2 then pn L j else if j = firstN L p.2 then p.2 else pn L (j - 1) := by
  unfold pn
  rw [ins_get]
  by_cases h1 : j < firstN L p.2
  · rw [if_pos h1, if_pos h1]
  · rw [if_neg h1, if_neg h1]
    by_cases h2 : j = firstN L p.2
    · rw [if_pos h2, if_pos h2]
    · rw [if_neg h2, if_neg h2]
/-- what holds behind k of them -/
structure Inv (A : List Int) (k : Nat) : Prop where
  len : (accL A k).length = k
  pe : ∀ j, j < k → 0 ≤ ad (accL A k) j ∧ ad (accL A k) j ≤ 999 ∧ pn (accL A k) j = idN (ad (accL A k) j).toNat
  rise : Rise (accL A k)
  has : ∀ j, j < k → ∃ m, m < k ∧ ad (accL A k) m = A.getD j 0
theorem inv_zero (A : List Int) : Inv A 0 := ⟨rfl, fun j hj => by omega, fun i j _ hj => by simp [accL] at hj, fun j hj => by omega⟩
theorem inv_step {A : List Int} {k : Nat} (I : Inv A k) (hk : k < A.length) (hG : Good A) (hd : dupB A k = false) : Inv A (k + 1) := by
  obtain ⟨g1, g2⟩ := hG k hk
  have hlen := I.len
  have hf := first_le (accL A k) (peN (A.getD k 0)).2
  have f2 : ∀ j, j < firstN (accL A k) (peN (A.getD k 0)).2 → pn (accL A k) j < (peN (A.getD k 0)).2 := fun j hj => first_lt hj
  have f3 : firstN (accL A k) (peN (A.getD k 0)).2 < (accL A k).length → ¬ pn (accL A k) (firstN (accL A k) (peN (A.getD k 0)).2) < (peN (A.getD k 0)).2 := fun h => first_at h
  have hne : firstN (accL A k) (peN (A.getD k 0)).2 < k → (peN (A.getD k 0)).2 < pn (accL A k) (firstN (accL A k) (peN (A.getD k 0)).2) := fun h => by
    have h1 := f3 (by omega)
    rcases Nat.lt_or_ge (peN (A.getD k 0)).2 (pn (accL A k) (firstN (accL A k) (peN (A.getD k 0)).2)) with h2 | h2
    · exact h2
    · exfalso
      obtain ⟨p1, p2, p3⟩ := I.pe _ h
      have e : idN (ad (accL A k) (firstN (accL A k) (peN (A.getD k 0)).2)).toNat = idN (A.getD k 0).toNat := by rw [← p3]; show _ = (peN (A.getD k 0)).2; omega
      have e2 := idN_inj (by omega) (by omega) e
      unfold dupB at hd
      rw [decide_eq_false_iff_not] at hd
      exact hd ⟨by omega, by omega⟩
  have ha : ∀ j, ad (accL A (k + 1)) j = if j < firstN (accL A k) (peN (A.getD k 0)).2 then ad (accL A k) j else if j = firstN (accL A k) (peN (A.getD k 0)).2 then A.getD k 0 else ad (accL A k) (j - 1) := fun j => ins_ad _ _ _
  have hp : ∀ j, pn (accL A (k + 1)) j = if j < firstN (accL A k) (peN (A.getD k 0)).2 then pn (accL A k) j else if j = firstN (accL A k) (peN (A.getD k 0)).2 then (peN (A.getD k 0)).2 else pn (accL A k) (j - 1) := fun j => ins_pn _ _ _
  have hid : (peN (A.getD k 0)).2 = idN (A.getD k 0).toNat := rfl
  have hl2 : (accL A (k + 1)).length = k + 1 := by rw [accL, ins_length, hlen]
  generalize hF : firstN (accL A k) (peN (A.getD k 0)).2 = f at *
  generalize (peN (A.getD k 0)).2 = id at *
  refine ⟨hl2, fun j hj => ?_, fun i j hij hj => ?_, fun j hj => ?_⟩
  · rw [ha, hp]
    by_cases h1 : j < f
    · rw [if_pos h1, if_pos h1]; exact I.pe j (by omega)
    · rw [if_neg h1, if_neg h1]
      by_cases h2 : j = f
      · rw [if_pos h2, if_pos h2]; exact ⟨g1, g2, hid⟩
      · rw [if_neg h2, if_neg h2]; exact I.pe (j - 1) (by omega)
  · rw [hl2] at hj
    rw [hp, hp]
    have hr := I.rise
    unfold Rise at hr
    rw [hlen] at hr
    by_cases h1 : j < f
    · rw [if_pos h1, if_pos (show i < f by omega)]; exact hr i j hij (by omega)
    · rw [if_neg h1]
      by_cases h2 : j = f
      · rw [if_pos h2, if_pos (show i < f by omega)]; exact f2 i (by omega)
      · rw [if_neg h2]
        have hfk : f < k := by omega
        have h3 := hne hfk
        by_cases h4 : i < f
        · rw [if_pos h4]
          have := f2 i h4
          rcases Nat.lt_or_ge f (j - 1) with h5 | h5
          · have := hr f (j - 1) h5 (by omega); omega
          · rw [show j - 1 = f by omega]; omega
        · rw [if_neg h4]
          by_cases h5 : i = f
          · rw [if_pos h5]
            rcases Nat.lt_or_ge f (j - 1) with h6 | h6
            · have := hr f (j - 1) h6 (by omega); omega
            · rw [show j - 1 = f by omega]; exact h3
          · rw [if_neg h5]; exact hr (i - 1) (j - 1) (by omega) (by omega)
  · by_cases h1 : j = k
    · subst h1
      exact ⟨f, by omega, by rw [ha, if_neg (by omega), if_pos rfl]⟩
    · obtain ⟨m, hm, e⟩ := I.has j (by omega)
      by_cases h2 : m < f
      · exact ⟨m, by omega, by rw [ha, if_pos h2]; exact e⟩
      · exact ⟨m + 1, by omega, by rw [ha, if_neg (by omega), if_neg (by omega), Nat.add_sub_cancel]; exact e⟩
theorem Inv.wf {A : List Int} {k : Nat} (I : Inv A k) : Wf (accL A k) := by
  intro x hx
  obtain ⟨j, hj, rfl⟩ := List.getElem_of_mem hx
  have e := pn_of (List.getElem?_eq_getElem hj)
  rw [← e, (I.pe j (by rw [← I.len]; exact hj)).2.2]
  exact idN_lt _
theorem Inv.circ {A : List Int} {k : Nat} (I : Inv A k) (h1 : 1 ≤ k) (h2 : k ≤ 16) : Circ (accL A k) := by
  refine ⟨by rw [I.len]; exact ⟨h1, h2⟩, fun i hi => ?_⟩
  rw [I.len] at hi
  obtain ⟨p1, p2, p3⟩ := I.pe i hi
  refine ⟨p1, p2, fun j hj e => ?_, fun h0 => I.rise _ _ (by omega) (by rw [I.len]; exact hi)⟩
  have h3 := I.rise j i hj (by rw [I.len]; exact hi)
  obtain ⟨_, _, q3⟩ := I.pe j (by omega)
  rw [p3, q3, e] at h3
  omega
/-- one that stands there already is found -/
theorem dup_of {A : List Int} {k j : Nat} (I : Inv A k) (hj : j < k) (e : A.getD j 0 = A.getD k 0) : dupB A k = true := by
  obtain ⟨m, hm, e2⟩ := I.has j hj
  obtain ⟨_, _, p3⟩ := I.pe m hm
  have hid : (peN (A.getD k 0)).2 = pn (accL A k) m := by rw [p3, e2, e]; rfl
  have hlen := I.len
  have hf : firstN (accL A k) (peN (A.getD k 0)).2 = m := by
    rw [hid]
    exact first_of (by omega) (fun i hi => I.rise i m hi (by omega)) (fun _ => by omega)
  unfold dupB
  rw [decide_eq_true_eq, hf]
  exact ⟨by omega, by rw [e2, e]⟩
theorem inv_all {A : List Int} (hG : Good A) : ∀ k, k ≤ A.length → (∀ j, j < k → dupB A j = false) → Inv A k
  | 0, _, _ => inv_zero A
  | k + 1, hk, hd => inv_step (inv_all hG k (by omega) fun j hj => hd j (by omega)) (by omega) hG (hd k (by omega))
/-- the peers that are held against each other are the same just if their addresses are -/
theorem same_ad {A : List Int} {k j : Nat} (I : Inv A k) (hj : j < k) (a : Int) (x : Pe) (hx : x = (ad (accL A k) j, pn (accL A k) j)) : eqB x.2 (peN a).2 = true ∨ x.1 ≠ a := by
  subst hx
  by_cases h : ad (accL A k) j = a
  · left
    rw [(I.pe j hj).2.2, h]
    exact eqB_self _
  · exact .inr h
end Go.Proofs.YtmlejcfnnjnggaaDoor
