/- What a right table is, and what is done to it. -/
import Derived.Test.YtfajfmcabpmchaaTabSame
import Derived.Test.YtfajfmcabpmchaaTabPut
namespace Go.Proofs.Ytfajfmcabpmchaa
set_option maxRecDepth 100000
open Go Go.RowKit Go.Sort

structure Right (oth non : Pe → Bool) (ad : Bool) (p : Pe) (S F : List Pe) : Prop where
  adr : ad = true
  len : S.length ≤ 8
  fin : F.length = 160
  ots : ∀ x ∈ S, oth x = true
  two : S.Pairwise fun x y => x.1 ≠ y.1
  all : ∀ x ∈ p :: F, non x = true ∨ oth x = true
theorem take_one (S : List Pe) {i : Nat} (hi : i < S.length) : S.take (i + 1) = S.take i ++ [S.getD i (0, 0)] := by
  rw [List.take_succ_eq_append_getElem hi, List.getD_eq_getElem?_getD, List.getElem?_eq_getElem hi]; rfl
theorem has_not {L : List Pe} {a : Int} : hasB L a = false ↔ ∀ x ∈ L, x.1 ≠ a := by
  unfold hasB
  rw [List.any_eq_false]
  constructor
  · intro h x hx; simpa using h x hx
  · intro h x hx; simpa using h x hx
theorem ok_iff (oth : Pe → Bool) (S : List Pe) : ∀ n, n ≤ S.length → (okG oth S n = true ↔ (∀ x ∈ S.take n, oth x = true) ∧ (S.take n).Pairwise fun x y => x.1 ≠ y.1) := by
  intro n
  induction n with
  | zero => intro _; simp [okG]
  | succ i ih =>
    intro hi
    rw [okG, Bool.and_eq_true, Bool.and_eq_true, ih (by omega), take_one S hi, List.pairwise_append, Bool.not_eq_true', has_not]
    generalize S.getD i (0, 0) = y
    constructor
    · rintro ⟨⟨h1, h2⟩, h3, h4⟩
      refine ⟨fun x hx => ?_, h2, List.pairwise_singleton .., fun x hx z hz => ?_⟩
      · rcases List.mem_append.1 hx with h | h
        · exact h1 x h
        · rw [List.mem_singleton.1 h]; exact h3
      · rw [List.mem_singleton.1 hz]; exact h4 x hx
    · rintro ⟨h1, h2, _, h4⟩
      exact ⟨⟨fun x hx => h1 x (List.mem_append_left _ hx), h2⟩, h1 y (List.mem_append_right _ (List.mem_singleton.2 rfl)), fun x hx => h4 x hx y (List.mem_singleton.2 rfl)⟩
theorem isG_iff {oth non : Pe → Bool} {ad : Bool} {p : Pe} {S F : List Pe} : isG oth non ad p S F = true ↔ Right oth non ad p S F := by
  unfold isG
  rw [Bool.and_eq_true, Bool.and_eq_true, Bool.and_eq_true, Bool.and_eq_true, decide_eq_true_eq, decide_eq_true_eq, ok_iff _ _ _ (Nat.le_refl _), List.take_length, List.all_eq_true]
  constructor
  · rintro ⟨h1, h2, h3, ⟨h4, h5⟩, h6⟩
    exact ⟨h1, h2, h3, h4, h5, fun x hx => by simpa using h6 x hx⟩
  · intro h
    exact ⟨h.adr, h.len, h.fin, ⟨h.ots, h.two⟩, fun x hx => by simpa using h.all x hx⟩
/-- a table is right -/
def Rt (s p : Pe) (S F : List Pe) : Prop := Right (otherB s) (fun x => eqP x (-1, 0)) (addrB s.1) p S F
theorem isT_iff {s p : Pe} {S F : List Pe} : isT s p S F = true ↔ Rt s p S F := isG_iff
theorem none_self : eqP (-1, 0) (-1, 0) = true := by unfold eqP; simp [eqB_self]
theorem rt_forget {s p : Pe} {S F : List Pe} (a : Int) (h : Rt s p S F) : Rt s (forP a p) (delL a S) (F.map (forP a)) := by
  have hf : ∀ x, (eqP x (-1, 0) = true ∨ otherB s x = true) → (eqP (forP a x) (-1, 0) = true ∨ otherB s (forP a x) = true) := fun x hx => by
    unfold forP
    split
    · exact .inl none_self
    · exact hx
  refine ⟨h.adr, Nat.le_trans (List.length_filter_le _ _) h.len, by rw [List.length_map]; exact h.fin, fun x hx => h.ots x (List.mem_filter.1 hx).1, List.Pairwise.filter _ h.two, fun x hx => ?_⟩
  rcases List.mem_cons.1 hx with rfl | hx
  · exact hf p (h.all p (List.mem_cons_self ..))
  · obtain ⟨y, hy, rfl⟩ := List.mem_map.1 hx
    exact hf y (h.all y (List.mem_cons_of_mem _ hy))
theorem rt_learn {s p x : Pe} {S F : List Pe} (h : Rt s p S F) : Rt s (if learnB s p S F x = true then x else p) S F := by
  split
  · rename_i hb
    unfold learnB at hb
    rw [Bool.and_eq_true, Bool.and_eq_true] at hb
    refine ⟨h.adr, h.len, h.fin, h.ots, h.two, fun y hy => ?_⟩
    rcases List.mem_cons.1 hy with rfl | hy
    · exact .inr hb.2.1
    · exact h.all y (List.mem_cons_of_mem _ hy)
  · exact h
theorem ad_len (oth : Pe → Bool) (r : Nat) : ∀ (R acc : List Pe), acc.length ≤ r → (adG oth r acc R).length ≤ r
  | [], acc, h => h
  | x :: R, acc, h => by
    rw [adG]
    split
    · exact h
    · rename_i hc
      refine ad_len oth r R _ ?_
      split
      · exact h
      · rw [List.length_append, List.length_singleton]
        have : acc.length ≠ r := fun e => hc (.inl e)
        omega
theorem ad_head (oth : Pe → Bool) (r : Nat) (y : Pe) : ∀ (R acc : List Pe), ∃ l, adG oth r (y :: acc) R = y :: l
  | [], acc => ⟨acc, rfl⟩
  | x :: R, acc => by
    rw [adG]
    split
    · exact ⟨acc, rfl⟩
    · split
      · exact ad_head oth r y R acc
      · exact ad_head oth r y R (acc ++ [x])
theorem ad_oth (oth : Pe → Bool) (r : Nat) : ∀ (R acc : List Pe), (∀ x ∈ acc, oth x = true) → acc.Pairwise (fun x y => x.1 ≠ y.1) → (∀ x ∈ adG oth r acc R, oth x = true) ∧ (adG oth r acc R).Pairwise fun x y => x.1 ≠ y.1
  | [], _, h1, h2 => ⟨h1, h2⟩
  | x :: R, acc, h1, h2 => by
    rw [adG]
    split
    · exact ⟨h1, h2⟩
    · rename_i hc
      refine ad_oth oth r R _ ?_ ?_
      · split
        · exact h1
        · intro y hy
          rcases List.mem_append.1 hy with h | h
          · exact h1 y h
          · rw [List.mem_singleton.1 h]
            cases ho : oth x
            · exact absurd (.inr ho) hc
            · rfl
      · split
        · exact h2
        · rename_i hb
          refine List.pairwise_append.2 ⟨h2, List.pairwise_singleton .., fun y hy z hz => ?_⟩
          rw [List.mem_singleton.1 hz]
          exact has_not.1 (by simpa using hb) y hy
theorem rt_adopt {s p x : Pe} {S F R : List Pe} {r : Int} (h : Rt s p S F) (hb : adoptB s p S F x r = true) : Rt s p (adG (otherB s) r.toNat [x] R) F ∧ ((adG (otherB s) r.toNat [x] R).length : Int) ≤ r ∧ firstP s (adG (otherB s) r.toNat [x] R) = x := by
  unfold adoptB okR at hb
  simp only [Bool.and_eq_true, decide_eq_true_eq] at hb
  obtain ⟨_, ho, h1, h8⟩ := hb
  have hl := ad_len (otherB s) r.toNat R [x] (by rw [List.length_singleton]; omega)
  have ha := ad_oth (otherB s) r.toNat R [x] (fun y hy => by rw [List.mem_singleton.1 hy]; exact ho) (List.pairwise_singleton ..)
  refine ⟨⟨h.adr, by omega, h.fin, ha.1, ha.2, h.all⟩, by omega, ?_⟩
  obtain ⟨l, hl⟩ := ad_head (otherB s) r.toNat x R []
  rw [hl]; rfl
theorem pt_all (fg : Nat → Pe × Bool) (ok : Pe → Prop) : ∀ (n i : Nat) (L : List Pe), (∀ j, (fg j).2 = true → ok (fg j).1) → (∀ x ∈ L, ok x) → (∀ x ∈ (ptL fg n i L).1, ok x) ∧ (ptL fg n i L).1.length = L.length
  | 0, _, _, _, h => ⟨h, rfl⟩
  | n + 1, i, L, hf, h => by
    rw [ptL]
    split
    · rename_i hc
      have := pt_all fg ok n (i + 1) (L.set i (fg i).1) hf fun x hx => by
        rcases List.mem_or_eq_of_mem_set hx with h1 | h1
        · exact h x h1
        · rw [h1]; exact hf i hc
      exact ⟨this.1, by rw [this.2, List.length_set]⟩
    · exact ⟨h, rfl⟩
theorem pt_next (fg : Nat → Pe × Bool) : ∀ (n i : Nat) (L : List Pe), (ptL fg n i L).2 = 0 ∨ (i ≤ (ptL fg n i L).2 ∧ (ptL fg n i L).2 < i + n)
  | 0, _, _ => .inl rfl
  | n + 1, i, L => by
    rw [ptL]
    split
    · rcases pt_next fg n (i + 1) (L.set i (fg i).1) with h | h
      · exact .inl h
      · exact .inr ⟨by omega, by omega⟩
    · exact .inr ⟨Nat.le_refl _, by omega⟩
theorem pt_first (s x : Pe) (k : Nat) : (pointG s x k k).2 = true := by
  unfold pointG fngR
  split
  · rfl
  · rw [if_pos (.inl rfl)]
theorem rt_point {s p x : Pe} {S F : List Pe} {r : Int} (h : Rt s p S F) (hb : pointB s p S F x r = true) : Rt s p S (ptL (pointG s x r.toNat) (160 - r.toNat) r.toNat F).1 ∧
    ((ptL (pointG s x r.toNat) (160 - r.toNat) r.toNat F).2 = 0 ∨ (r.toNat < (ptL (pointG s x r.toNat) (160 - r.toNat) r.toNat F).2 ∧ (ptL (pointG s x r.toNat) (160 - r.toNat) r.toNat F).2 < 160)) := by
  unfold pointB okK at hb
  simp only [Bool.and_eq_true, decide_eq_true_eq] at hb
  obtain ⟨_, ⟨h0, h1⟩, ho⟩ := hb
  have hh := pt_all (pointG s x r.toNat) (fun y => eqP y (-1, 0) = true ∨ otherB s y = true) (160 - r.toNat) r.toNat F (fun j hj => by
    unfold pointG fngR at hj ⊢
    cases he : eqP x s
    · rw [he] at hj ho
      rw [if_neg (by simp)] at hj ⊢
      split at hj
      · rename_i hc
        rw [if_pos hc]
        exact .inr (by simpa using ho)
      · cases hj
    · rw [if_pos rfl]; exact .inl none_self) fun y hy => h.all y (List.mem_cons_of_mem _ hy)
  refine ⟨⟨h.adr, h.len, by rw [hh.2]; exact h.fin, h.ots, h.two, fun y hy => ?_⟩, ?_⟩
  · rcases List.mem_cons.1 hy with rfl | hy
    · exact h.all _ (List.mem_cons_self ..)
    · exact hh.1 y hy
  · have e : 160 - r.toNat = (160 - (r.toNat + 1)) + 1 := by omega
    rw [e, ptL, if_pos (pt_first s x r.toNat)]
    rcases pt_next (pointG s x r.toNat) (160 - (r.toNat + 1)) (r.toNat + 1) (F.set r.toNat (pointG s x r.toNat r.toNat).1) with h2 | h2
    · exact .inl h2
    · exact .inr ⟨by omega, by omega⟩
end Go.Proofs.Ytfajfmcabpmchaa
