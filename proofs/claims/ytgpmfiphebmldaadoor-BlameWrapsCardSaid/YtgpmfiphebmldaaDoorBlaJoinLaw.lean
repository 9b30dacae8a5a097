/- BlameJoins: for all scripts and codes the call returns true. No condition but that the package variables read as the program's text lays them. -/
import Derived.Test.YtgpmfiphebmldaaDoorBlaBuilt
import Derived.Test.YtgpmfiphebmldaaDoorBlaOpen
import Derived.Test.YtgpmfiphebmldaaDoorBlaLaid
namespace Go.Proofs.YtgpmfiphebmldaaDoor
open Go Go.ChangeShapes Go.WideShapes Go.ChangeAt Go.RowKit Go.Sort

/-! what a join has -/
def firstL : List (Option ET) → Int
  | [] => 0
  | none :: r => firstL r
  | some t :: _ => t.first
theorem any_codes (c : Int) : ∀ (l : List (Option ET)), ¬ c = 0 → l.any (hasO · c) = (ET.codesL (some_ l)).contains c
  | [], _ => rfl
  | none :: r, h => by
    have : hasO none c = false := by simpa [hasO] using h
    rw [List.any_cons, this, Bool.false_or, any_codes c r h]; rfl
  | some t :: r, h => by
    rw [List.any_cons, any_codes c r h, show some_ (some t :: r) = t :: some_ r from rfl, ET.codesL]
    show (t.codes.contains c || (ET.codesL (some_ r)).contains c) = _
    simp only [List.contains_eq_any_beq, List.any_append]
theorem join_codes (l : List (Option ET)) : (match joinO l with | none => [] | some t => t.codes) = ET.codesL (some_ l) := by
  by_cases h : some_ l = []
  · have hj : joinO l = none := by unfold joinO; rw [if_pos h]
    rw [hj, h]; rfl
  · have hj : joinO l = some (.join (some_ l)) := by unfold joinO; rw [if_neg h]
    rw [hj]; rfl
theorem join_has (c : Int) (l : List (Option ET)) (h : ¬ c = 0) : hasO (joinO l) c = l.any (hasO · c) := by
  rw [any_codes c l h, ← join_codes]
  cases joinO l with
  | none => simpa [hasO] using h
  | some t => rfl
theorem again_has (o : Option ET) : againO o = (hasO o 8 || (hasO o 10 || hasO o 11)) := by cases o <;> rfl
theorem any_or3 {α : Type} (f g h : α → Bool) : ∀ (l : List α), l.any (fun x => f x || (g x || h x)) = (l.any f || (l.any g || l.any h))
  | [] => rfl
  | a :: l => by
    simp only [List.any_cons, any_or3 f g h l]
    cases f a <;> cases g a <;> cases h a <;> simp
theorem join_again (l : List (Option ET)) : againO (joinO l) = l.any againO := by
  rw [again_has, join_has 8 l (by decide), join_has 10 l (by decide), join_has 11 l (by decide)]
  rw [show againO = fun o => (hasO o 8 || (hasO o 10 || hasO o 11)) from funext again_has, any_or3]
theorem join_first : ∀ (l : List (Option ET)), (∀ t, some t ∈ l → t.ok) → firstO (joinO l) = firstL l
  | [], _ => rfl
  | none :: r, h => by
    rw [show joinO (none :: r) = joinO r from rfl, join_first r fun t ht => h t (List.mem_cons_of_mem _ ht)]; rfl
  | some t :: r, h => by
    have hn := codes_ne t (h t (List.mem_cons_self ..))
    show (ET.codesL (t :: some_ r)).headD 0 = t.codes.headD 0
    rw [ET.codesL]
    cases hc : t.codes with
    | nil => exact absurd hc hn
    | cons a b => rfl
theorem join_zero (l : List (Option ET)) (h : ∀ t, some t ∈ l → t.ok) : (firstL l == 0) = (joinO l).isNone := by
  induction l with
  | nil => rfl
  | cons o r ih =>
    cases o with
    | none => exact ih fun t ht => h t (List.mem_cons_of_mem _ ht)
    | some t =>
      have ho := h t (List.mem_cons_self ..)
      have hn := codes_ne t ho
      show ((t.codes.headD 0) == 0) = false
      cases hc : t.codes with
      | nil => exact absurd hc hn
      | cons a b =>
        have := (codes_ok t ho a (by rw [hc]; exact List.mem_cons_self ..)).1
        simpa using this
theorem join_trail (l : List (Option ET)) : trailO (joinO l) = [] := by
  unfold joinO
  split <;> rfl
def firstS (o : Option ET) (z : Int) : Int := match o with
  | none => z
  | some t => t.first
theorem drop_cons {α : Type} {l : List α} {j : Nat} {o : α} (h : l[j]? = some o) : l.drop j = o :: l.drop (j + 1) := by
  obtain ⟨hj, rfl⟩ := List.getElem?_eq_some_iff.1 h
  exact List.drop_eq_getElem_cons hj
/-- what is built, as a law uses it: cells of errors that stay while the world grows -/
theorem built_row {B : Nat} {w : World} {lv mv : Value} {us : List Value} {L : List (Option ET)} (h : LRow B w lv mv us L) : Src w lv L.length 1 us ∧ Eos w (fun _ => True) us L ∧ ∃ al cl, lv = .slice al L.length cl := by
  refine ⟨⟨by rw [h.is.length, Nat.mul_one], ?_⟩, h.is.mono fun _ _ _ => trivial, ?_⟩
  · rcases own_src h.own with h | ⟨g, c, h1, _, h2⟩
    · exact .inl h
    · exact .inr ⟨g, 0, c, h1, h2⟩
  · rcases own_src h.own with ⟨h1, h2⟩ | ⟨g, c, h1, _, h2⟩
    · exact ⟨_, _, by rw [h1, h2]⟩
    · exact ⟨_, _, h1⟩
theorem eos_ok {w : World} {p : Nat → Prop} {us : List Value} {L : List (Option ET)} (h : Eos w p us L) : ∀ t, some t ∈ L → t.ok := fun t ht => by
  obtain ⟨j, hj, he⟩ := List.getElem_of_mem ht
  have hl := h.length
  have := h.get j (us[j]'(by omega)) (some t) (List.getElem?_eq_getElem _) (by rw [List.getElem?_eq_getElem hj, he])
  have h2 : Er w p _ t := this
  exact h2.ok
namespace JoinLaw
theorem empty {B : Nat} {v : Value} {w : World} (h : Txs B v [] w) : ∃ a c, v = .slice a 0 c := by
  rcases h.2 with ⟨h, _⟩ | ⟨g, cap, cur, h, _⟩
  · exact ⟨_, _, h⟩
  · exact ⟨_, _, h⟩
theorem step {w a b : World} (h : Below w.heap.size w a) (k : Below a.heap.size a b) : Below w.heap.size w b := h.trans (k.mono h.size)

set_option maxRecDepth 100000 in
set_option maxHeartbeats 4000000 in
theorem walk (l : List Stp) (v : Value) (w : World) (hS : Scr w v l) (c : Int) (hG : Glob w) : Calls Tryd.prog 5 #[v, .int .i64 c] w fun e w' => e = .returned (.bool true) ∧ Below w.heap.size w w' := by
  have hF := few_any v l w hS
  have hB := fun (h : l.length ≤ 60 ∧ opsum l ≤ 2000) => built_any v l w hS h.1 h.2
  have b0 := Below.refl w.heap.size w
  obtain ⟨al0, nl0, cl0, rfl⟩ : ∃ a n c, v = .slice a n c := by
    rcases hS with ⟨_, rfl⟩ | ⟨b, o, c, rfl, _⟩ <;> exact ⟨_, _, _, rfl⟩
  go_enter Tryd.func5, Tryd.ntmps5
  go_upto_region 4 with (first
    | (go_at_call 7; (with_reducible refine hF.mono ?_); rintro e w1 ⟨r, rfl, hr, rfl⟩; cases r)
    | (go_at_call 8; (with_reducible refine (hB (hr trivial)).mono ?_); rintro e w2 ⟨lv, mv, us, xs, rfl, hL, hM, b1⟩))
  · go_ret
    exact ⟨rfl, b0⟩
  obtain ⟨h60, h2000⟩ := hr trivial
  have hwt : wts (runO l) ≤ 4200 := by
    have := wts_run l l.length
    rw [List.take_length] at this
    omega
  obtain ⟨hS1, hE1, al, cl, rfl⟩ := built_row hL
  clear hL hM hB hF hr hS
  generalize runO l = L at *
  obtain ⟨n, hn⟩ : ∃ n, n = L.length := ⟨_, rfl⟩
  have hlen := wts_length L
  rw [← hn] at hS1 hlen ⊢
  have hn1 : n ≤ 2100 := by omega
  have hJ : Calls Tryd.prog 22 #[.slice al n cl] w2 fun e w' => ∃ v', e = .returned v' ∧ (v' = .nilIface ∨ ∃ b : Nat, v' = .iface 75 (.pointer (some ⟨b, 0, none⟩))) ∧ Eo w' (fun _ => True) v' (joinO L) ∧ Below w2.heap.size w2 w' := join_src (fun _ => True) _ n us L w2 hS1 hE1 (by omega)
  have HN := Lib.hid hn
  clear hn
  go_upto_region 5 with (go_at_call 22; (with_reducible refine hJ.mono ?_); rintro e w3 ⟨jv, rfl, hsh, hJE, b2⟩)
  have hok := eos_ok hE1
  have hS3 := hS1.later fun i hi => b2.block i hi
  have hE3 := ((hE1.mono (q := fun k => k < w2.heap.size) fun i hi _ => hi).kept fun i _ hp => b2.block i hp).mono (q := fun k => k < w3.heap.size) fun i hi _ => hi
  have hJ3 := hJE.all (Nat.le_refl w3.heap.size)
  have b3 := step b1 b2
  have hG3 := hG.below b3 hG.size
  have hwj : wtO (joinO L) ≤ 1000000 := by have := wt_join L; omega
  clear hJ hS1 hE1 hJE b1 b2
  go_wp2
  go_loopw [8, 9, 10, 11] (fun a b f i wr => ∃ k : Nat, k ≤ n ∧ i = .int .i64 ((k : Int) - 1) ∧ a = .bool ((L.drop k).any (hasO · c)) ∧ b = .bool ((L.drop k).any againO) ∧ f = .int .i64 (firstL (L.drop k)) ∧ Below w3.heap.size w3 wr) (fun _ _ _ i _ => (intOf i + 1).toNat)
  case atStart => exact ⟨n, Nat.le_refl _, rfl, by rw [HN.out, List.drop_length]; rfl, by rw [HN.out, List.drop_length]; rfl, by rw [HN.out, List.drop_length]; rfl, Below.refl _ _⟩
  case round =>
    obtain ⟨k, hk, hi, rfl, rfl, rfl, hb⟩ := hrel
    cases k with
    | succ j =>
      obtain rfl : u11 = .int .i64 (j : Int) := by rw [hi]; congr 1; omega
      clear hi
      obtain ⟨o, ho⟩ : ∃ o, L[j]? = some o := ⟨_, List.getElem?_eq_getElem (by rw [← HN.out]; omega)⟩
      obtain ⟨v, hv⟩ : ∃ v, us[j]? = some v := ⟨_, List.getElem?_eq_getElem (by rw [hE3.length, ← HN.out]; omega)⟩
      obtain ⟨g, of, hal, hcell⟩ : ∃ g of, al = some ⟨g, of, none⟩ ∧ ∀ w', Below w3.heap.size w3 w' → w'.cell? ⟨g, of + j, none⟩ = some v := by
        rcases hS3.2 with ⟨_, h0⟩ | ⟨g, of, c', h1, h2⟩
        · omega
        · simp only [Value.slice.injEq] at h1
          have h3 := h2 j v hv
          exact ⟨g, of, h1.1, fun w' hb => (hb.cell (p := ⟨g, of + j, none⟩) (World.block_lt_of_cell? w3 _ h3)).trans h3⟩
      subst hal
      have hvo := hE3.get j v o hv ho
      have hwo : wtO o ≤ 1000000 := by have := wts_get L j o ho; omega
      have hH : ∀ w', Below w3.heap.size w3 w' → Calls Tryd.prog 11 #[v, .int .i64 c] w' fun e w'' => e = .returned (.bool (hasO o c)) ∧ Below w'.heap.size w' w'' := fun w' hb => has_any _ v o c w' (hvo.bel hb) (hG3.below hb hG3.size) hwo
      have hA : ∀ w', Below w3.heap.size w3 w' → Calls Tryd.prog 13 #[v] w' fun e w'' => e = .returned (.bool (againO o)) ∧ Below w'.heap.size w' w'' := fun w' hb => again_any _ v o w' (hvo.bel hb) (hG3.below hb hG3.size) hwo
      have hC : ∀ w', Below w3.heap.size w3 w' → Calls Tryd.prog 9 #[v] w' fun e w'' => e = .returned (.int .i64 (firstO o)) ∧ Below w'.heap.size w' w'' := fun w' hb => code_any _ v o w' (hvo.bel hb) (hG3.below hb hG3.size) hwo
      have hne := eo_neq hvo
      have hgu := eo_guard hvo
      have hd := drop_cons ho
      have e1 : (L.drop j).any (hasO · c) = (hasO o c || (L.drop (j + 1)).any (hasO · c)) := by rw [hd]; rfl
      have e2 : (L.drop j).any againO = (againO o || (L.drop (j + 1)).any againO) := by rw [hd]; rfl
      have e3 : firstL (L.drop j) = firstS o (firstL (L.drop (j + 1))) := by rw [hd]; cases o <;> rfl
      have FIN := Lib.hid (fun (x y : Bool) (z : Int) (wr' : World) (h1 : x = (hasO o c || (L.drop (j + 1)).any (hasO · c))) (h2 : y = (againO o || (L.drop (j + 1)).any againO)) (h3 : z = firstS o (firstL (L.drop (j + 1)))) (hb' : Below w3.heap.size w3 wr') =>
        (show ∃ k : Nat, k ≤ n ∧ Value.int .i64 ((j : Int) - 1) = .int .i64 ((k : Int) - 1) ∧ Value.bool x = .bool ((L.drop k).any (hasO · c)) ∧ Value.bool y = .bool ((L.drop k).any againO) ∧ Value.int .i64 z = .int .i64 (firstL (L.drop k)) ∧ Below w3.heap.size w3 wr' from
          ⟨j, by omega, rfl, by rw [e1, h1], by rw [e2, h2], by rw [e3, h3], hb'⟩))
      have hcw := hcell wr hb
      have h0j : (0 : Int) ≤ j := by omega
      clear e1 e2 e3 hd ho hv hvo hwo hS3 hE3
      generalize (L.drop (j + 1)).any (hasO · c) = x at *
      generalize (L.drop (j + 1)).any againO = y at *
      generalize firstL (L.drop (j + 1)) = z at *
      cases x <;> cases y <;> cases o
      all_goals
        go_wp2_with (first
          | (go_at_call 11; (with_reducible refine (hH _ hb).mono ?_); rintro e wa ⟨rfl, k1⟩; have hb := step hb k1; have hcw := hcell _ hb)
          | (go_at_call 13; (with_reducible refine (hA _ hb).mono ?_); rintro e wa ⟨rfl, k1⟩; have hb := step hb k1; have hcw := hcell _ hb)
          | (go_at_call 9; (with_reducible refine (hC _ hb).mono ?_); rintro e wa ⟨rfl, k1⟩; have hb := step hb k1; have hcw := hcell _ hb))
        exact ⟨FIN.out _ _ _ _ (by simp) (by simp) (by rfl) hb, by simp [intOf] <;> omega⟩
    | zero =>
      obtain rfl : u11 = .int .i64 (-1) := by rw [hi]; rfl
      clear hi
      have hj2 := join_again L
      have hj3 := join_first L hok
      have hj4 := join_zero L hok
      have hj1 := join_has c L
      have hx0 : (L.drop 0).any (hasO · c) = L.any (hasO · c) := rfl
      have hy0 : (L.drop 0).any againO = L.any againO := rfl
      have hz0 : firstL (L.drop 0) = firstL L := rfl
      have hnn : (jv = .nilIface ∧ (joinO L).isNone = true) ∨ ((∃ b : Nat, jv = .iface 75 (.pointer (some ⟨b, 0, none⟩))) ∧ (joinO L).isNone = false) := by
        rcases hsh with rfl | ⟨jb, rfl⟩
        · refine .inl ⟨rfl, ?_⟩
          cases h : joinO L with
          | none => rfl
          | some t =>
            rw [h] at hJ3
            have h9 : Er w3 _ .nilIface t := hJ3
            cases h9
        · refine .inr ⟨⟨jb, rfl⟩, ?_⟩
          cases h : joinO L with
          | some t => rfl
          | none =>
            rw [h] at hJ3
            cases hJ3
      have hA : ∀ w', Below w3.heap.size w3 w' → Calls Tryd.prog 13 #[jv] w' fun e w'' => e = .returned (.bool (againO (joinO L))) ∧ Below w'.heap.size w' w'' := fun w' hb => again_any _ jv _ w' (hJ3.bel hb) (hG3.below hb hG3.size) hwj
      have hC : ∀ w', Below w3.heap.size w3 w' → Calls Tryd.prog 9 #[jv] w' fun e w'' => e = .returned (.int .i64 (firstO (joinO L))) ∧ Below w'.heap.size w' w'' := fun w' hb => code_any _ jv _ w' (hJ3.bel hb) (hG3.below hb hG3.size) hwj
      have hT : ∀ w', Below w3.heap.size w3 w' → Calls Tryd.prog 16 #[jv] w' fun e w'' => ∃ u, e = .returned u ∧ Txs w'.heap.size u [] w'' ∧ Below w'.heap.size w' w'' := fun w' hb => by
        have h := trail_any _ jv _ w' (hJ3.bel hb) hwj
        rwa [join_trail] at h
      have hBl : ∀ w', Below w3.heap.size w3 w' → Calls Tryd.prog 20 #[] w' fun e w'' => e = .returned (.bool true) ∧ Below w'.heap.size w' w'' := fun w' hb => blamed_any w' (hG3.below hb hG3.size)
      have hH : ∀ w', Below w3.heap.size w3 w' → Calls Tryd.prog 11 #[jv, .int .i64 c] w' fun e w'' => e = .returned (.bool (hasO (joinO L) c)) ∧ Below w'.heap.size w' w'' := fun w' hb => has_any _ jv _ c w' (hJ3.bel hb) (hG3.below hb hG3.size) hwj
      have hne := eo_eql hJ3
      have hgu := eo_guard hJ3
      rw [hx0, hy0, hz0]
      rw [hj2] at hA
      rw [hj3] at hC
      generalize L.any againO = y at *
      generalize firstL L = z at *
      have zz : (z == z) = true := by simp
      have hb' := step b3 hb
      by_cases hc : c = 0
      · subst hc
        have h0 : hasO (joinO L) 0 = (joinO L).isNone := by
          cases h : joinO L with
          | none => rfl
          | some t =>
            have ht : t.ok := by
              rw [h] at hJ3
              exact Er.ok hJ3
            show t.codes.contains 0 = false
            rw [List.contains_eq_any_beq, List.any_eq_false]
            intro a ha
            have := (codes_ok t ht a ha).1
            simp; omega
        rw [h0] at hH
        generalize L.any (hasO · 0) = x at *
        clear hj1 hj2 hj3 hJ3 hE3 hS3 hok h0 hx0 hy0 hz0 hsh
        rcases hnn with ⟨rfl, hnn⟩ | ⟨⟨jb, rfl⟩, hnn⟩
        all_goals
          rw [hnn] at hH hne hj4
          cases y
        all_goals
          go_wp2_with (first
            | (go_at_call 20; (with_reducible refine (hBl _ hb).mono ?_); rintro e wa ⟨rfl, k1⟩; have hb := step hb k1)
            | (go_at_call 11; (with_reducible refine (hH _ hb).mono ?_); rintro e wa ⟨rfl, k1⟩; have hb := step hb k1)
            | (go_at_call 13; (with_reducible refine (hA _ hb).mono ?_); rintro e wa ⟨rfl, k1⟩; have hb := step hb k1)
            | (go_at_call 9; (with_reducible refine (hC _ hb).mono ?_); rintro e wa ⟨rfl, k1⟩; have hb := step hb k1)
            | (go_at_call 16; (with_reducible refine (hT _ hb).mono ?_); rintro e wa ⟨tu, rfl, htu, k1⟩; have hb := step hb k1; obtain ⟨ua, uc, rfl⟩ := empty htu))
          go_ret
          exact ⟨rfl, step b3 hb⟩
      · rw [hj1 hc] at hH
        generalize L.any (hasO · c) = x at *
        have hc0 : (c == 0) = false := by simpa using hc
        clear hj1 hj2 hj3 hJ3 hE3 hS3 hok hx0 hy0 hz0 hsh
        rcases hnn with ⟨rfl, hnn⟩ | ⟨⟨jb, rfl⟩, hnn⟩
        all_goals
          rw [hnn] at hne hj4
          cases y <;> cases x
        all_goals
          go_wp2_with (first
            | (go_at_call 20; (with_reducible refine (hBl _ hb).mono ?_); rintro e wa ⟨rfl, k1⟩; have hb := step hb k1)
            | (go_at_call 11; (with_reducible refine (hH _ hb).mono ?_); rintro e wa ⟨rfl, k1⟩; have hb := step hb k1)
            | (go_at_call 13; (with_reducible refine (hA _ hb).mono ?_); rintro e wa ⟨rfl, k1⟩; have hb := step hb k1)
            | (go_at_call 9; (with_reducible refine (hC _ hb).mono ?_); rintro e wa ⟨rfl, k1⟩; have hb := step hb k1)
            | (go_at_call 16; (with_reducible refine (hT _ hb).mono ?_); rintro e wa ⟨tu, rfl, htu, k1⟩; have hb := step hb k1; obtain ⟨ua, uc, rfl⟩ := empty htu))
          go_ret
          exact ⟨rfl, step b3 hb⟩
theorem walk2 (w : World) (hG : Glob w) (l : List Stp) (v : Value) (hS : Scr w v l) (c : Int) (_ : -9223372036854775808 ≤ c) (_ : c ≤ 9223372036854775807) : Calls Tryd.prog 5 #[v, .int .i64 c] w fun e w' => e = .returned (.bool true) ∧ Below w.heap.size w w' := walk l v w hS c hG
theorem int_bounds {n : Int} (h : (Lit.int .i64 n).wf = true) : -9223372036854775808 ≤ n ∧ n ≤ 9223372036854775807 := int_bounds0 h

set_option maxRecDepth 100000 in
theorem lifted (os : Os) (started : os.Started) (H : Type) (enc : TypeId × Value → H) :
    ReturnsInHanded {} Tryd.checked os 5 .any (fun w args => (Rows.blameJoinsSpec.pre enc Tryd.prog Tryd.f5 [] false w args ∧ laidMetH Tryd.prog LD w) ∧ sizedMet enc Tryd.prog Tryd.f5 (OpenSpec.ofChange Rows.blameJoinsSpec) false w args)
      (Rows.blameJoinsSpec.post enc Tryd.prog Tryd.f5 false true false false) := by
  refine returnsInHanded_of_change_and (C := Tryd.checked) (X := fun w _ => laidMetH Tryd.prog LD w) (fun _ _ _ hh h => h.of_heap hh) own started (by kernel_rfl) Tryd.func5
    (ChangeSpec.witness_shaped (enc := enc) (C := Tryd.checked) (os := os) (X := fun w _ => laidMetH Tryd.prog LD w) false (World.doorLaid Tryd.prog 31 os) #[.slice none 0 0, .int .i64 0] 8 rfl (World.shaped_of_RefB (by kernel_rfl) (by kernel_rfl)) (by kernel_rfl) (by kernel_rfl) (by kernel_rfl) (door_met os _)) ?_
  intro W base args ds gs before hval0 hW _ hsz hL _
  have hval : ∀ (j : Nat) t v, Tryd.f5.params[j]? = some t → args[j]? = some v → Value.okWide Tryd.prog W .any base t v := hval0
  have hW' := hW
  obtain ⟨p, q, hA0, hV, rfl, hfz, hnd⟩ := hW
  have hA : DataW.TrodAll enc Tryd.prog W 0 (fun _ => true) true Tryd.f5.params.toList args.toList ds p := hA0
  rw [Tryd.params5] at hA hval
  obtain ⟨v0, vs0, d0, ds0, p0, q0, hargs, rfl, rfl, h0, r0⟩ := trodAll_cons hA
  obtain ⟨v1, vs1, d1, ds1, p1, q1, rfl, rfl, rfl, h1, r1⟩ := trodAll_cons r0
  obtain ⟨rfl, rfl, rfl⟩ := trodAll_nil r1
  obtain rfl : args = #[v0, v1] := by cases args; simp_all
  obtain ⟨rfl, rfl⟩ := trodVars_none hV
  have k0 := h0
  have lt0 : ∀ x ∈ p0, x.block < W.heap.size := by obtain ⟨m, hm⟩ := k0; exact DataW.trod_lt m _ _ _ hm
  have hz0 : ∀ k ∈ d0.weights Tryd.prog 22, k ≤ reachBytes := fun k hk => by simpa using List.all_eq_true.1 hsz k (DataW.weights_mem_each (j := 0) rfl rfl k hk)
  obtain ⟨st0, sc0⟩ := open_script (hval 0 22 v0 rfl rfl) h0 hz0
  have k1 := h1
  have lt1 : ∀ x ∈ p1, x.block < W.heap.size := by obtain ⟨m, hm⟩ := k1; exact DataW.trod_lt m _ _ _ hm
  obtain ⟨n1, rfl, _, _, wf1⟩ := open_int Tryd.underlying23 (hval 1 23 v1 rfl rfl) h1
  have bd1 := int_bounds wf1
  have hG := glob_of_laid hL
  clear hA0 hval0
  refine (walk2 W hG st0 v0 sc0 n1 bd1.1 bd1.2).mono fun e W' ⟨he, bel⟩ => ?_
  subst he
  exact ⟨_, rfl, _, _, _, [], _, [], hW', trodAll_mk1 (shut_bool Tryd.underlying4 _), (trodAll_cons_mk (Below.trod laidOut (by kernel_rfl) (of_decide_eq_true (by kernel_rfl)) k0 bel lt0) (trodAll_cons_mk (Below.trod laidOut (by kernel_rfl) (of_decide_eq_true (by kernel_rfl)) k1 bel lt1) trodAll_mk0)), rfl, bel.frame _, fun h => by cases h⟩

theorem proved : Rows.BlameJoinsSaid :=
  OpenClaim.holds_of_wide 5 Tryd.f5 rfl rfl rfl rfl rfl rfl rfl ⟨rfl, rfl, rfl, rfl, rfl⟩ rfl rfl rfl rfl rfl (by kernel_rfl) Tryd.func5 (by kernel_rfl)
    (of_decide_eq_true (by kernel_rfl)) (by unfold Func.isWrapper; first | (rw [if_pos (by decide +kernel)]; kernel_rfl) | (rw [if_neg (by decide +kernel)]; exact ⟨rfl, rfl⟩))
    (fun os started H enc _ => lifted os started H enc)
theorem card : Rows.BlameJoinsCardSaid :=
  Claim7.holds_tied_plain_at .later [] [.data, .data, .data, .handle] true _ true
    proved (fun _ h => by cases h) (by kernel_rfl) (fun _ h => by cases h) blameJoins_row_tie rfl ⟨rfl, rfl⟩ (by kernel_rfl) rfl
    (fun f fn hf hfn => by
      obtain rfl : f = 5 := Option.some.inj ((show Tryd.prog.funcNamed Rows.blameJoinsRow.func = some 5 by kernel_rfl).symm.trans hf) |>.symm
      obtain rfl : fn = Tryd.f5 := (Option.some.inj (Tryd.func5.symm.trans hfn)).symm
      exact ⟨by kernel_rfl, fun j t ht => by
        rw [Tryd.params5] at ht
        have hm : t ∈ [22, 23] := by simpa using Array.mem_of_getElem? ht
        have hall : ([22, 23].all fun u => !Tryd.prog.wantsStandIn u) = true := by kernel_rfl
        exact (show Tryd.prog.wantsStandIn t = false by simpa using List.all_eq_true.1 hall t hm)⟩)
    (by kernel_rfl)

end JoinLaw
end Go.Proofs.YtgpmfiphebmldaaDoor
