/- Whether all of a row are right: the program's all, of numbers and of peers. -/
import Derived.Test.YtplcdjmidelboaaLetParts
namespace Go.Proofs.Ytplcdjmidelboaa
set_option maxRecDepth 100000
open Go Go.RowKit Go.Sort

theorem all_no {α : Type} {ok : α → Bool} {L : List α} {k : Nat} {x : α} (hx : L[k]? = some x) (h : ok x = false) : L.all ok = false := by
  rw [List.all_eq_false]
  exact ⟨x, List.mem_of_getElem? hx, by rw [h]; simp⟩
theorem all_yes {α : Type} {ok : α → Bool} {L : List α} (h : ∀ (j : Nat) (x : α), L[j]? = some x → ok x = true) : L.all ok = true := by
  rw [List.all_eq_true]
  intro x hx
  obtain ⟨j, hj, rfl⟩ := List.getElem_of_mem hx
  exact h j _ (List.getElem?_eq_getElem hj)
theorem cell_bel {w w' : World} {B q j : Nat} {v : Value} (h : w.cell? ⟨q, j, none⟩ = some v) (hb : Below B w w') (hq : q < B) : w'.cell? ⟨q, j, none⟩ = some v :=
  (World.cell?_of_block (a := ⟨q, j, none⟩) (hb.block q hq)).trans h
theorem cell_bel0 {w w' : World} {q j : Nat} {v : Value} (h : w.cell? ⟨q, j, none⟩ = some v) (hb : Below w.heap.size w w') : w'.cell? ⟨q, j, none⟩ = some v :=
  cell_bel h hb (World.block_lt_of_cell? w _ h)

/-! numbers -/
theorem cloN_any {w : World} {q : Nat} (x : Int) (hq : w.cell? ⟨q, 0, none⟩ = some (.func (.func 36) #[] #[])) : Calls Try.prog 56 #[.int .i64 x, .pointer (some ⟨q, 0, none⟩)] w fun e w' => e = .returned (.bool (!adB x)) ∧ Below w.heap.size w w' := by
  have HI := isAddr_any x
  generalize adB x = r at *
  go_enter Try.func56, Try.ntmps56
  go_wp2_with (go_at_call 36; (with_reducible refine (HI _).mono ?_); rintro e w1 ⟨rfl, rfl⟩)
  go_ret
  exact ⟨rfl, Below.refl _ _⟩
set_option maxHeartbeats 1000000 in
theorem indexN_any {w : World} {v : Value} {L : List Int} {q : Nat} (hL : Nums w v L) (hn : L.length ≤ 1000000) (hq : w.cell? ⟨q, 0, none⟩ = some (.func (.func 36) #[] #[])) :
    Calls Try.prog 70 #[v, .func (.func 56) #[] #[.pointer (some ⟨q, 0, none⟩)]] w fun e w' => ∃ i : Int, e = .returned (.int .i64 i) ∧ decide (0 ≤ i) = (!L.all adB) ∧ Below w.heap.size w w' := by
  rcases hL with ⟨rfl, rfl⟩ | ⟨b, o, c, rfl, hr⟩
  · go_enter Try.func70, Try.ntmps70
    go_wp2
    refine wp_loop_rounds 1 ?_
    rw [rounds_succ]
    go_wp2
    go_ret
    exact ⟨_, rfl, rfl, Below.refl _ _⟩
  have HR : Hid (∀ w', Below w.heap.size w w' → ∀ i x, L[i]? = some x → w'.cell? ⟨b, o + i, none⟩ = some (.int .i64 x)) := fun w' hb i x hi => cell_bel0 (hr i _ (by unfold ints; rw [List.getElem?_map, hi]; rfl)) hb
  clear hr
  have HQ : Hid (∀ w', Below w.heap.size w w' → w'.cell? ⟨q, 0, none⟩ = some (.func (.func 36) #[] #[])) := fun w' hb => cell_bel0 hq hb
  clear hq
  generalize hln : L.length = n at *
  have HN := Lib.hid hln
  clear hln
  go_enter Try.func70, Try.ntmps70
  go_upto_region 2 with (fail)
  go_loopw [5, 8] (fun _ i wr => ∃ k : Nat, i = .int .i64 (k : Int) ∧ k ≤ n ∧ (∀ j x, j < k → L[j]? = some x → adB x = true) ∧ Below w.heap.size w wr) (fun _ i _ => n - (intOf i).toNat)
  case atStart => exact ⟨0, rfl, Nat.zero_le _, fun j _ hj => by omega, Below.refl _ _⟩
  case round =>
    obtain ⟨k, rfl, hk, hall, hB⟩ := hrel
    have HA := Lib.hid hall
    have HB := Lib.hid hB
    clear hall hB
    by_cases hlt : k < n
    · obtain ⟨x, hx⟩ : ∃ x, L[k]? = some x := ⟨_, List.getElem?_eq_getElem (by have := HN.out; omega)⟩
      have r1 := HR.out _ HB.out k x hx
      have HC := Lib.hid (cloN_any x (HQ.out _ HB.out))
      have b1 : (k : Int) < (n : Int) := by omega
      have b2 : (0 : Int) ≤ (k : Int) := by omega
      have s1 : IntKind.i64.wrap (k : Int) = (k : Int) := IntWalk.i64_in _ (by omega)
      by_cases hbad : adB x = false
      · have hE : Hid (decide (0 ≤ (k : Int)) = (!L.all adB)) := by unfold Hid; rw [all_no (ok := adB) hx hbad]; exact decide_eq_true (by omega)
        rw [hbad] at HC
        clear hbad hx HA
        go_wp2_with (first
          | (go_at_call 56; (with_reducible refine HC.out.mono ?_); rintro e w1 ⟨rfl, k1⟩; have HB2 := Lib.hid (step HB.out k1); clear k1))
        go_ret
        exact ⟨_, rfl, hE.out, HB2.out⟩
      · have hgood : adB x = true := by simpa using hbad
        have hall : ∀ j y, j < k + 1 → L[j]? = some y → adB y = true := fun j y hj hy => by
          rcases Nat.lt_or_ge j k with h | h
          · exact HA.out j y h hy
          · obtain rfl : j = k := by omega
            rw [hx] at hy
            cases hy
            exact hgood
        have HA2 := Lib.hid hall
        rw [hgood] at HC
        clear hbad hgood hx HA hall
        have s2 : IntKind.i64.wrap ((k : Int) + 1) = (k : Int) + 1 := IntWalk.i64_in _ (by omega)
        go_wp2_with (first
          | (go_at_call 56; (with_reducible refine HC.out.mono ?_); rintro e w1 ⟨rfl, k1⟩; have HB2 := Lib.hid (step HB.out k1); clear k1))
        exact ⟨⟨k + 1, by go_num, by omega, HA2.out, HB2.out⟩, by simp [intOf]; omega⟩
    · obtain rfl : k = n := by omega
      have hE : Hid (decide (0 ≤ (-1 : Int)) = (!L.all adB)) := by
        unfold Hid
        rw [all_yes (ok := adB) fun j x hx => HA.out j x (by have := (List.getElem?_eq_some_iff.1 hx).1; have := HN.out; omega) hx]; rfl
      go_wp2
      go_ret
      exact ⟨_, rfl, hE.out, HB.out⟩
theorem containsN_any {w : World} {v : Value} {L : List Int} {q : Nat} (hL : Nums w v L) (hn : L.length ≤ 1000000) (hq : w.cell? ⟨q, 0, none⟩ = some (.func (.func 36) #[] #[])) :
    Calls Try.prog 55 #[v, .func (.func 56) #[] #[.pointer (some ⟨q, 0, none⟩)]] w fun e w' => e = .returned (.bool (!L.all adB)) ∧ Below w.heap.size w w' := by
  have HC := Lib.hid (indexN_any hL hn hq)
  clear hL hq
  generalize L.all adB = x at *
  go_enter Try.func55, Try.ntmps55
  go_wp2_with (go_at_call 70; (with_reducible refine HC.out.mono ?_); rintro e w1 ⟨i, rfl, hi, k1⟩; have HB := Lib.hid k1; have HI := Lib.hid hi; clear k1 hi)
  go_ret
  exact ⟨by rw [← HI.out]; rfl, HB.out⟩
theorem allN_any {w : World} {v : Value} {L : List Int} (hL : Nums w v L) (hn : L.length ≤ 1000000) :
    Calls Try.prog 35 #[v, .func (.func 36) #[] #[]] w fun e w' => e = .returned (.bool (L.all adB)) ∧ Below w.heap.size w w' := by
  have B0 := (Below.refl w.heap.size w).alloc (Nat.le_refl _) (.cells #[.func (.func 36) #[] #[]] 62)
  have c0 : (w.alloc (.cells #[.func (.func 36) #[] #[]] 62)).cell? ⟨w.heap.size, 0, none⟩ = some (.func (.func 36) #[] #[]) := (Blk.new w #[.func (.func 36) #[] #[]] 62).cell 0
  have HC := Lib.hid (containsN_any (hL.bel B0) hn c0)
  have HB := Lib.hid B0
  have hmf : ∀ (fn : Fn) (first cap : Array Value) (w : World), (Instr.makeFunc fn first cap).run Try.prog w = .ok (.func fn first cap) w := fun _ _ _ _ => rfl
  clear B0 hL c0
  generalize L.all adB = r at *
  go_enter Try.func35, Try.ntmps35
  go_upto_region 1 with (fail)
  generalize w.alloc _ = W at *
  go_wp2_with (go_at_call 55; (with_reducible refine HC.out.mono ?_); rintro e w1 ⟨rfl, k1⟩; have HB2 := Lib.hid (step HB.out k1); clear k1)
  go_ret
  exact ⟨by simp, HB2.out⟩

/-! peers -/
theorem cloP_any {w : World} {q : Nat} (x : Pe) (hq : w.cell? ⟨q, 0, none⟩ = some (.func (.func 34) #[] #[])) : Calls Try.prog 58 #[.agg (peA x), .pointer (some ⟨q, 0, none⟩)] w fun e w' => e = .returned (.bool (!adB x.1)) ∧ Below w.heap.size w w' := by
  have B0 := (Below.refl w.heap.size w).alloc (Nat.le_refl _) (.cells (peA x) 25)
  have X0 := (PB.new w x).range
  have c1 := cell_bel0 hq B0
  have HB := Lib.hid B0
  have HI := isPeer_any x
  clear B0 hq
  generalize adB x.1 = r at *
  go_enter Try.func58, Try.ntmps58
  go_upto_region 1 with (fail)
  generalize w.alloc _ = W at *
  go_wp2_with (first
    | (refine p_midP rfl _ rfl _ 0 rfl x X0 ?_)
    | (go_at_call 34; (with_reducible refine (HI _).mono ?_); rintro e w1 ⟨rfl, k1⟩; have HB2 := Lib.hid (step HB.out k1); clear k1))
  go_ret
  exact ⟨rfl, HB2.out⟩
set_option maxHeartbeats 1000000 in
theorem indexP_any {w : World} {v : Value} {L : List Pe} {q : Nat} (hL : Lies w v L) (hn : L.length ≤ 1000000) (hq : w.cell? ⟨q, 0, none⟩ = some (.func (.func 34) #[] #[])) :
    Calls Try.prog 71 #[v, .func (.func 58) #[] #[.pointer (some ⟨q, 0, none⟩)]] w fun e w' => ∃ i : Int, e = .returned (.int .i64 i) ∧ decide (0 ≤ i) = (!L.all (fun x => adB x.1)) ∧ Below w.heap.size w w' := by
  rcases hL with ⟨⟨a, rfl⟩, rfl⟩ | ⟨b, o, c, rfl, hc, hr⟩
  · go_enter Try.func71, Try.ntmps71
    go_wp2
    refine wp_loop_rounds 1 ?_
    rw [rounds_succ]
    go_wp2
    go_ret
    exact ⟨_, rfl, rfl, Below.refl _ _⟩
  have HR : Hid (∀ w', Below w.heap.size w w' → ∀ i x, L[i]? = some x → w'.rangeAt b (o + i * 21) (peC x)) := fun w' hb i x hi => range_bel (row_peer hr hi) hb (range_lt (row_peer hr hi) (pe_ne _))
  clear hr hc
  have HQ : Hid (∀ w', Below w.heap.size w w' → w'.cell? ⟨q, 0, none⟩ = some (.func (.func 34) #[] #[])) := fun w' hb => cell_bel0 hq hb
  clear hq
  generalize hln : L.length = n at *
  have HN := Lib.hid hln
  clear hln
  go_enter Try.func71, Try.ntmps71
  go_upto_region 2 with (fail)
  go_loopw [5, 8] (fun _ i wr => ∃ k : Nat, i = .int .i64 (k : Int) ∧ k ≤ n ∧ (∀ j x, j < k → L[j]? = some x → adB x.1 = true) ∧ Below w.heap.size w wr) (fun _ i _ => n - (intOf i).toNat)
  case atStart => exact ⟨0, rfl, Nat.zero_le _, fun j _ hj => by omega, Below.refl _ _⟩
  case round =>
    obtain ⟨k, rfl, hk, hall, hB⟩ := hrel
    have HA := Lib.hid hall
    have HB := Lib.hid hB
    clear hall hB
    by_cases hlt : k < n
    · obtain ⟨x, hx⟩ : ∃ x, L[k]? = some x := ⟨_, List.getElem?_eq_getElem (by have := HN.out; omega)⟩
      have r1 := HR.out _ HB.out k x hx
      have HC := Lib.hid (cloP_any x (HQ.out _ HB.out))
      have b1 : (k : Int) < (n : Int) := by omega
      have b2 : (0 : Int) ≤ (k : Int) := by omega
      have s1 : IntKind.i64.wrap (k : Int) = (k : Int) := IntWalk.i64_in _ (by omega)
      by_cases hbad : adB x.1 = false
      · have hE : Hid (decide (0 ≤ (k : Int)) = (!L.all (fun x => adB x.1))) := by unfold Hid; rw [all_no (ok := (fun x => adB x.1)) hx hbad]; exact decide_eq_true (by omega)
        rw [hbad] at HC
        clear hbad hx HA
        go_wp2_with (first
          | (refine p_midP rfl _ rfl b (o + k * 21) rfl x r1 ?_)
          | (go_at_call 58; (with_reducible refine HC.out.mono ?_); rintro e w1 ⟨rfl, k1⟩; have HB2 := Lib.hid (step HB.out k1); clear k1))
        go_ret
        exact ⟨_, rfl, hE.out, HB2.out⟩
      · have hgood : adB x.1 = true := by simpa using hbad
        have hall : ∀ j y, j < k + 1 → L[j]? = some y → adB y.1 = true := fun j y hj hy => by
          rcases Nat.lt_or_ge j k with h | h
          · exact HA.out j y h hy
          · obtain rfl : j = k := by omega
            rw [hx] at hy
            cases hy
            exact hgood
        have HA2 := Lib.hid hall
        rw [hgood] at HC
        clear hbad hgood hx HA hall
        have s2 : IntKind.i64.wrap ((k : Int) + 1) = (k : Int) + 1 := IntWalk.i64_in _ (by omega)
        go_wp2_with (first
          | (refine p_midP rfl _ rfl b (o + k * 21) rfl x r1 ?_)
          | (go_at_call 58; (with_reducible refine HC.out.mono ?_); rintro e w1 ⟨rfl, k1⟩; have HB2 := Lib.hid (step HB.out k1); clear k1))
        exact ⟨⟨k + 1, by go_num, by omega, HA2.out, HB2.out⟩, by simp [intOf]; omega⟩
    · obtain rfl : k = n := by omega
      have hE : Hid (decide (0 ≤ (-1 : Int)) = (!L.all (fun x => adB x.1))) := by
        unfold Hid
        rw [all_yes (ok := (fun x => adB x.1)) fun j x hx => HA.out j x (by have := (List.getElem?_eq_some_iff.1 hx).1; have := HN.out; omega) hx]; rfl
      go_wp2
      go_ret
      exact ⟨_, rfl, hE.out, HB.out⟩
theorem containsP_any {w : World} {v : Value} {L : List Pe} {q : Nat} (hL : Lies w v L) (hn : L.length ≤ 1000000) (hq : w.cell? ⟨q, 0, none⟩ = some (.func (.func 34) #[] #[])) :
    Calls Try.prog 57 #[v, .func (.func 58) #[] #[.pointer (some ⟨q, 0, none⟩)]] w fun e w' => e = .returned (.bool (!L.all (fun x => adB x.1))) ∧ Below w.heap.size w w' := by
  have HC := Lib.hid (indexP_any hL hn hq)
  clear hL hq
  generalize L.all (fun x => adB x.1) = x at *
  go_enter Try.func57, Try.ntmps57
  go_wp2_with (go_at_call 71; (with_reducible refine HC.out.mono ?_); rintro e w1 ⟨i, rfl, hi, k1⟩; have HB := Lib.hid k1; have HI := Lib.hid hi; clear k1 hi)
  go_ret
  exact ⟨by rw [← HI.out]; rfl, HB.out⟩
theorem allP_any {w : World} {v : Value} {L : List Pe} (hL : Lies w v L) (hn : L.length ≤ 1000000) :
    Calls Try.prog 37 #[v, .func (.func 34) #[] #[]] w fun e w' => e = .returned (.bool (L.all (fun x => adB x.1))) ∧ Below w.heap.size w w' := by
  have B0 := (Below.refl w.heap.size w).alloc (Nat.le_refl _) (.cells #[.func (.func 34) #[] #[]] 63)
  have c0 : (w.alloc (.cells #[.func (.func 34) #[] #[]] 63)).cell? ⟨w.heap.size, 0, none⟩ = some (.func (.func 34) #[] #[]) := (Blk.new w #[.func (.func 34) #[] #[]] 63).cell 0
  have HC := Lib.hid (containsP_any (hL.bel B0) hn c0)
  have HB := Lib.hid B0
  have hmf : ∀ (fn : Fn) (first cap : Array Value) (w : World), (Instr.makeFunc fn first cap).run Try.prog w = .ok (.func fn first cap) w := fun _ _ _ _ => rfl
  clear B0 hL c0
  generalize L.all (fun x => adB x.1) = r at *
  go_enter Try.func37, Try.ntmps37
  go_upto_region 1 with (fail)
  generalize w.alloc _ = W at *
  go_wp2_with (go_at_call 57; (with_reducible refine HC.out.mono ?_); rintro e w1 ⟨rfl, k1⟩; have HB2 := Lib.hid (step HB.out k1); clear k1)
  go_ret
  exact ⟨by simp, HB2.out⟩
end Go.Proofs.Ytplcdjmidelboaa
