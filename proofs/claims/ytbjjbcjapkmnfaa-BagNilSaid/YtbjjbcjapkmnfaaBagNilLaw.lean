/- BagNil: for all messages and numbers the call returns true: a nil bag has nothing, and refuses. No condition. -/
import Derived.Test.YtbjjbcjapkmnfaaBagOpen
namespace Go.Proofs.Ytbjjbcjapkmnfaa.BagNilLaw
open Go Go.ChangeShapes Go.WideShapes Go.ChangeAt Go.RowKit Go.Sort
open Go.ChangeMaps (open_string shut_string)

set_option maxRecDepth 100000 in
set_option maxHeartbeats 2000000 in
theorem walk (m : Ml) (i : Int) (_ : -9223372036854775808 ≤ i ∧ i ≤ 9223372036854775807) (w : World) : Calls Try.prog 6 #[.agg #[.int .i64 m.fr, .int .i64 m.to, .string m.bd], .int .i64 i] w fun e w' => e = .returned (.bool true) ∧ Below w.heap.size w w' := by
  have b0 := (Below.refl w.heap.size w).alloc (Nat.le_refl _) (.cells #[.int .i64 m.fr, .int .i64 m.to, .string m.bd] 33)
  have B0 : Blk (w.alloc (.cells #[.int .i64 m.fr, .int .i64 m.to, .string m.bd] 33)) w.heap.size (mlC m) 33 := Blk.new _ _ _
  have HA : Hid (∀ w, Calls Try.prog 15 #[.pointer none, .int .i64 i] w fun e w' => e = .returned (.tuple #[.agg (mlC mlZ), .int .i64 6]) ∧ Below w.heap.size w w') := fun w => at_err none i 6 (by decide) w (fails_nil i w)
  have HT : Hid (∀ w, Calls Try.prog 14 #[.pointer none, .int .i64 i] w fun e w' => e = .returned (.tuple #[.agg (mlC mlZ), .int .i64 6]) ∧ Below w.heap.size w w') := fun w => take_err none i 6 (by decide) w (fails_nil i w)
  have HW : Hid (∀ w, Calls Try.prog 16 #[.pointer none, .int .i64 i] w fun e w' => e = .returned (.int .i64 6) ∧ Below w.heap.size w w') := fun w => twice_err none i 6 (by decide) w (fails_nil i w)
  have HP : Hid (∀ w, Calls Try.prog 13 #[.pointer none, .agg (mlC m)] w fun e w' => e = .returned (.int .i64 6) ∧ Below w.heap.size w w') := fun w => put_nil m w
  have HB := Lib.hid b0
  have HM := Lib.hid B0
  clear b0 B0
  go_enter Try.func6, Try.ntmps6
  go_upto_region 3 with (first
    | (go_at_call 15; (with_reducible refine (HA.out _).mono ?_); rintro e w1 ⟨rfl, b1⟩)
    | (refine p_storeM rfl _ _ rfl w1.heap.size rfl mlZ rfl mlE rfl (Blk.new _ mlE _) ?_))
  have c1 : Below w1.heap.size w1 ((w1.alloc (.cells mlE 33)).setRow w1.heap.size (mlC mlZ)) := bel_setRow ((Below.refl _ _).alloc (Nat.le_refl _) _) (Nat.le_refl _) _
  have e2 := Lib.hid (step (step HB.out b1) c1)
  have m2 := Lib.hid (HM.out.below (step b1 c1) HM.out.lt)
  clear c1 b1 HB HM
  generalize World.setRow _ _ _ = W at *
  go_upto_region 4 with (first
    | (go_at_call 14; (with_reducible refine (HT.out _).mono ?_); rintro e w3 ⟨rfl, b3⟩)
    | (refine p_storeM rfl _ _ rfl w3.heap.size rfl mlZ rfl mlE rfl (Blk.new _ mlE _) ?_))
  have c3 : Below w3.heap.size w3 ((w3.alloc (.cells mlE 33)).setRow w3.heap.size (mlC mlZ)) := bel_setRow ((Below.refl _ _).alloc (Nat.le_refl _) _) (Nat.le_refl _) _
  have e4 := Lib.hid (step (step e2.out b3) c3)
  have m4 := Lib.hid (m2.out.below (step b3 c3) m2.out.lt)
  clear c3 b3 e2 m2
  generalize World.setRow _ _ _ = W4 at *
  go_wp2_with (first
    | (go_at_call 12; (with_reducible refine (packed_any _).mono ?_); rintro e w5 ⟨rfl, b5⟩; have e5 := Lib.hid (step e4.out b5); have m5 := Lib.hid (m4.out.below b5 m4.out.lt); clear b5)
    | (go_at_call 13; (with_reducible refine (HP.out _).mono ?_); rintro e w6 ⟨rfl, b6⟩; have e6 := Lib.hid (step e5.out b6); clear b6)
    | (go_at_call 16; (with_reducible refine (HW.out _).mono ?_); rintro e w7 ⟨rfl, b7⟩; have e7 := Lib.hid (step e6.out b7); clear b7)
    | (go_at_call 17; (with_reducible refine (to_nil _ i).mono ?_); rintro e w8 ⟨rfl, b8⟩; have e8 := Lib.hid (step e7.out b8); clear b8)
    | (go_at_call 18; (with_reducible refine (lose_nil i _).mono ?_); rintro e w9 ⟨rfl, b9⟩; have e9 := Lib.hid (step e8.out b9); clear b9)
    | (go_at_call 11; (with_reducible refine (size_nil _).mono ?_); rintro e w10 ⟨rfl, rfl⟩)
    | (go_guarded; refine o_loadM _ rfl _ rfl m (by with_reducible exact m5.out) ?_; simp only [Act.put, List.setIfInBounds_toArray, List.set_cons_succ, List.set_cons_zero]))
  go_ret
  exact ⟨rfl, e9.out⟩

set_option maxRecDepth 100000 in
theorem lifted (os : Os) (started : os.Started) (H : Type) (enc : TypeId × Value → H) :
    ReturnsInHanded {} Try.checked os 6 .any (Rows.bagNilSpec.pre6 enc Try.prog Try.f6 Rows.bagNilRow.domain false) (Rows.bagNilSpec.post enc Try.prog Try.f6 false true false false) := by
  refine returnsInHanded_of_change (C := Try.checked) own started (by kernel_rfl) Try.func6
    (ChangeSpec.witness6 (enc := enc) (C := Try.checked) false ⟨#[], #[.agg #[.int .i64 0, .int .i64 0, .string ⟨#[]⟩], .int .i64 0], []⟩ 8 (by kernel_rfl) (by kernel_rfl) (by kernel_rfl) (by kernel_rfl)) ?_
  intro W base args ds gs before hval0 hW hcnd _
  have hval : ∀ (j : Nat) t v, Try.f6.params[j]? = some t → args[j]? = some v → Value.okWide Try.prog W .any base t v := hval0
  have hW' := hW
  obtain ⟨p, q, hA0, hV, rfl, hfz, hnd⟩ := hW
  have hA : DataW.TrodAll enc Try.prog W 0 (fun _ => true) true Try.f6.params.toList args.toList ds p := hA0
  rw [Try.params6] at hA hval
  obtain ⟨v0, vs0, d0, ds0, p0, q0, hargs, rfl, rfl, h0, r0⟩ := trodAll_cons hA
  obtain ⟨v1, vs1, d1, ds1, p1, q1, rfl, rfl, rfl, h1, r1⟩ := trodAll_cons r0
  obtain ⟨rfl, rfl, rfl⟩ := trodAll_nil r1
  obtain rfl : args = #[v0, v1] := by cases args; simp_all
  obtain ⟨rfl, rfl⟩ := trodVars_none hV
  have k0 := h0
  have lt0 : ∀ x ∈ p0, x.block < W.heap.size := by obtain ⟨m, hm⟩ := k0; exact DataW.trod_lt m _ _ _ hm
  obtain ⟨n0, rfl⟩ := open_ml (hval 0 33 v0 rfl rfl) h0
  have k1 := h1
  have lt1 : ∀ x ∈ p1, x.block < W.heap.size := by obtain ⟨m, hm⟩ := k1; exact DataW.trod_lt m _ _ _ hm
  obtain ⟨n1, ok1, rfl⟩ := open_i64 (hval 1 3 v1 rfl rfl) h1
  clear hA0 hval0
  refine (walk n0 n1 ok1 W).mono fun e W' ⟨he, bel⟩ => ?_
  subst he
  exact ⟨_, rfl, _, _, _, [], _, [], hW', trodAll_mk1 (shut_bool Try.underlying4 _), (trodAll_cons_mk (Below.trod laidOut (by kernel_rfl) (of_decide_eq_true (by kernel_rfl)) k0 bel lt0) (trodAll_cons_mk (Below.trod laidOut (by kernel_rfl) (of_decide_eq_true (by kernel_rfl)) k1 bel lt1) trodAll_mk0)), rfl, bel.frame _, fun h => by cases h⟩

theorem proved : Rows.BagNilSaid :=
  OpenClaim.holds_of_wide 6 Try.f6 rfl rfl rfl rfl rfl rfl rfl ⟨rfl, rfl, rfl, rfl, rfl⟩ rfl rfl rfl rfl rfl (by kernel_rfl) Try.func6 (by kernel_rfl)
    (of_decide_eq_true (by kernel_rfl)) (by unfold Func.isWrapper; first | (rw [if_pos (by decide +kernel)]; kernel_rfl) | (rw [if_neg (by decide +kernel)]; exact ⟨rfl, rfl⟩))
    (fun os started H enc _ => lifted os started H enc)
end Go.Proofs.Ytbjjbcjapkmnfaa.BagNilLaw
