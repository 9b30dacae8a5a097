/- The document's rows that each statement of layer 2 asks first: they hold. -/
import Derived.Test.YtcmaneddhjlbdaaShaEval
import Derived.Test.YtcmaneddhjlbdaaIdOps
namespace Go.Proofs.Ytcmaneddhjlbdaa
open Go.RowKit Go.Sort

set_option maxHeartbeats 1000000 in
theorem known_all (w : World) : Calls Try.prog 16 #[] w fun e w' => e = .returned (.bool true) ∧ Below w.heap.size w w' := by
  have s1 := fun w => sum_short ⟨#[97, 98, 99]⟩ w (by decide)
  have s2 := fun w => sum_short ⟨#[]⟩ w (by decide)
  have t1 := text_all (sumN ⟨#[97, 98, 99]⟩)
  have t2 := text_all (sumN ⟨#[]⟩)
  rw [sum_abc] at t1
  rw [sum_none] at t2
  have w3 := fun w => words_no ⟨#[97, 98, 99]⟩ w (by decide)
  generalize sumN ⟨#[97, 98, 99]⟩ = n1 at *
  generalize sumN ⟨#[]⟩ = n2 at *
  have S1 := Lib.hid s1
  have S2 := Lib.hid s2
  have T1 := Lib.hid t1
  have T2 := Lib.hid t2
  have W3 := Lib.hid w3
  clear s1 s2 t1 t2 w3
  go_enter Try.func16, Try.ntmps16
  go_upto_region 2 with (first | (go_at_call 14; with_reducible refine (S1.out _).mono ?_; rintro e w1 ⟨rfl, hb⟩) | (refine wpList_store_new rfl rfl _ _ rfl _ rfl rfl ?_))
  have B1 := hb.trans ((Below.refl w.heap.size w1).alloc hb.size (.cells (row (dig 20 n1)) 34))
  have A1 := At.new w1 n1
  clear hb
  generalize w1.heap.size = g1 at *
  generalize w1.alloc _ = W1 at *
  go_upto_region 3 with (first | (go_at_call 14; with_reducible refine (S2.out _).mono ?_; rintro e w2 ⟨rfl, hb⟩) | (refine wpList_store_new rfl rfl _ _ rfl _ rfl rfl ?_))
  have B2 := B1.trans ((hb.mono B1.size).trans ((Below.refl w.heap.size w2).alloc (Nat.le_trans B1.size hb.size) (.cells (row (dig 20 n2)) 34)))
  replace A1 := (A1.below hb).alloc (.cells (row (dig 20 n2)) 34)
  have A2 := At.new w2 n2
  clear hb B1
  generalize w2.heap.size = g2 at *
  generalize w2.alloc _ = W2 at *
  go_upto_region 4 with (go_at_call 10; with_reducible refine (W3.out _).mono ?_; rintro e w' ⟨rfl, rfl⟩)
  clear S1 S2 W3
  go_wp2_with (first | (go_guarded; refine o_load _ rfl _ rfl _ (by first | with_reducible exact A1 | with_reducible exact A2) ?_; simp only [Act.put, List.setIfInBounds_toArray, List.set_cons_succ, List.set_cons_zero]) | (go_at_call 26; with_reducible refine (T1.out _).mono ?_; rintro e w3 ⟨rfl, hb⟩; replace A2 := A2.below hb; replace B2 := B2.trans (hb.mono B2.size); clear hb A1) | (go_at_call 26; with_reducible refine (T2.out _).mono ?_; rintro e w4 ⟨rfl, hb⟩; replace B2 := B2.trans (hb.mono B2.size); clear hb A2))
  go_ret
  exact ⟨rfl, B2⟩
end Go.Proofs.Ytcmaneddhjlbdaa
