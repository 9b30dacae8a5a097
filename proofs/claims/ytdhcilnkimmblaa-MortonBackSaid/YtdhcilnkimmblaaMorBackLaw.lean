/- MortonBack: for every two points and key the call returns true: what is woven comes apart again, and keys rise with each number. No condition. -/
import Derived.Test.YtdhcilnkimmblaaMorWoven
import Derived.Test.YtdhcilnkimmblaaMorOpen
import Derived.Test.YtdhcilnkimmblaaOwn
namespace Go.Proofs.Ytdhcilnkimmblaa.MorBackLaw
open Go.ChangeShapes Go.WideShapes Go.ChangeAt Go.RowKit Go.Sort
set_option linter.unusedVariables false

set_option maxRecDepth 100000 in
set_option maxHeartbeats 4000000 in
theorem core (x y u v z c d k1 k2 k3 : Nat) (w : World)
    (h1 : Gives Try.prog 14 #[.int .u32 (x : Int), .int .u32 (y : Int)] (.int .u64 (k1 : Int)))
    (h2 : Gives Try.prog 9 #[.int .u64 (k1 : Int)] (.tuple #[.int .u32 (x : Int), .int .u32 (y : Int)]))
    (h3 : Gives Try.prog 9 #[.int .u64 (z : Int)] (.tuple #[.int .u32 (c : Int), .int .u32 (d : Int)]))
    (h4 : Gives Try.prog 14 #[.int .u32 (c : Int), .int .u32 (d : Int)] (.int .u64 (z : Int)))
    (h5 : Gives Try.prog 14 #[.int .u32 (u : Int), .int .u32 (y : Int)] (.int .u64 (k2 : Int)))
    (h6 : Gives Try.prog 14 #[.int .u32 (x : Int), .int .u32 (v : Int)] (.int .u64 (k3 : Int)))
    (g1 : (x < u ∧ k1 < k2) ∨ (¬ x < u ∧ ¬ k1 < k2)) (g2 : (y < v ∧ k1 < k3) ∨ (¬ y < v ∧ ¬ k1 < k3)) :
    Calls Try.prog 5 #[.int .u32 (x : Int), .int .u32 (y : Int), .int .u32 (u : Int), .int .u32 (v : Int), .int .u64 (z : Int)] w fun e w' => e = .returned (.bool true) ∧ Below w.heap.size w w' := by
  rcases g1 with ⟨g1, g2'⟩ | ⟨g1, g2'⟩ <;> rcases g2 with ⟨g3, g4⟩ | ⟨g3, g4⟩
  all_goals
    go_enter Try.func5, Try.ntmps5
    have B0 := Below.refl w.heap.size w
    go_upto_region 2 with (first | (go_at_call 14; (with_reducible refine (h1.calls _).mono ?_); rintro e w1 ⟨rfl, hb⟩; replace B0 := B0.trans (hb.mono B0.size); clear hb) | (go_at_call 9; (with_reducible refine (h2.calls _).mono ?_); rintro e w2 ⟨rfl, hb⟩; replace B0 := B0.trans (hb.mono B0.size); clear hb))
    go_upto_region 3 with (first | (go_at_call 9; (with_reducible refine (h3.calls _).mono ?_); rintro e w3 ⟨rfl, hb⟩; replace B0 := B0.trans (hb.mono B0.size); clear hb))
    go_wp2_with (first | (go_at_call 13; (with_reducible refine (woven_all.calls _).mono ?_); rintro e w4 ⟨rfl, hb⟩; replace B0 := B0.trans (hb.mono B0.size); clear hb) | (go_at_call 14; (with_reducible refine (h4.calls _).mono ?_); rintro e w5 ⟨rfl, hb⟩; replace B0 := B0.trans (hb.mono B0.size); clear hb) | (go_at_call 14; (with_reducible refine (h1.calls _).mono ?_); rintro e w6 ⟨rfl, hb⟩; replace B0 := B0.trans (hb.mono B0.size); clear hb) | (go_at_call 14; (with_reducible refine (h5.calls _).mono ?_); rintro e w7 ⟨rfl, hb⟩; replace B0 := B0.trans (hb.mono B0.size); clear hb) | (go_at_call 14; (with_reducible refine (h6.calls _).mono ?_); rintro e w8 ⟨rfl, hb⟩; replace B0 := B0.trans (hb.mono B0.size); clear hb))
    go_ret
    exact ⟨rfl, B0⟩
theorem rise_x {x u y : Nat} (hx : x < 4294967296) (hu : u < 4294967296) (hy : y < 4294967296) : (x < u ∧ wvZ x y < wvZ u y) ∨ (¬ x < u ∧ ¬ wvZ x y < wvZ u y) := by
  rcases Nat.lt_or_ge x u with h | h
  · refine .inl ⟨h, Nat.lt_of_le_of_ne (wvZ_mono (Nat.le_of_lt h) (Nat.le_refl _) hu hy) fun e => ?_⟩
    have := congrArg evX e
    rw [evX_wvZ hx, evX_wvZ hu] at this
    omega
  · exact .inr ⟨by omega, Nat.not_lt_of_le (wvZ_mono h (Nat.le_refl _) hx hy)⟩
theorem rise_y {x y v : Nat} (hx : x < 4294967296) (hy : y < 4294967296) (hv : v < 4294967296) : (y < v ∧ wvZ x y < wvZ x v) ∨ (¬ y < v ∧ ¬ wvZ x y < wvZ x v) := by
  rcases Nat.lt_or_ge y v with h | h
  · refine .inl ⟨h, Nat.lt_of_le_of_ne (wvZ_mono (Nat.le_refl _) (Nat.le_of_lt h) hx hv) fun e => ?_⟩
    have := congrArg odY e
    rw [odY_wvZ hy, odY_wvZ hv] at this
    omega
  · exact .inr ⟨by omega, Nat.not_lt_of_le (wvZ_mono (Nat.le_refl _) h hx hy)⟩
theorem walk (x : Nat) (hx : x < 4294967296) (y : Nat) (hy : y < 4294967296) (u : Nat) (hu : u < 4294967296) (v : Nat) (hv : v < 4294967296) (z : Nat) (hz : z < 18446744073709551616) (w : World) :
    Calls Try.prog 5 #[.int .u32 (x : Int), .int .u32 (y : Int), .int .u32 (u : Int), .int .u32 (v : Int), .int .u64 (z : Int)] w fun e w' => e = .returned (.bool true) ∧ Below w.heap.size w w' := by
  have p2 : Gives Try.prog 9 #[.int .u64 ((wvZ x y : Nat) : Int)] (.tuple #[.int .u32 (x : Int), .int .u32 (y : Int)]) := fun w => by
    have h := calls_below (apart_any (wvZ x y) w (wvZ_lt x y))
    rw [evX_wvZ hx, odY_wvZ hy] at h
    exact h
  have p4 : Gives Try.prog 14 #[.int .u32 ((evX z : Nat) : Int), .int .u32 ((odY z : Nat) : Int)] (.int .u64 (z : Int)) := fun w => by
    have h := calls_below (weave_any (evX z) (odY z) w (evX_lt z) (odY_lt z))
    rw [wvZ_parts hz] at h
    exact h
  exact core x y u v z (evX z) (odY z) (wvZ x y) (wvZ u y) (wvZ x v) w (fun w => calls_below (weave_any x y w hx hy)) p2 (fun w => calls_below (apart_any z w hz)) p4 (fun w => calls_below (weave_any u y w hu hy)) (fun w => calls_below (weave_any x v w hx hv)) (rise_x hx hu hy) (rise_y hx hy hv)

set_option maxRecDepth 100000 in
theorem lifted (os : Os) (started : os.Started) (H : Type) (enc : TypeId × Value → H) :
    ReturnsInHanded {} Try.checked os 5 .any (Rows.mortonBackSpec.pre6 enc Try.prog Try.f5 Rows.mortonBackRow.domain false) (Rows.mortonBackSpec.post enc Try.prog Try.f5 false true false false) := by
  refine returnsInHanded_of_change (C := Try.checked) own started (by kernel_rfl) Try.func5
    (ChangeSpec.witness6 (enc := enc) (C := Try.checked) false ⟨#[], #[.int .u32 0, .int .u32 0, .int .u32 0, .int .u32 0, .int .u64 0], []⟩ 8 (by kernel_rfl) (by kernel_rfl) (by kernel_rfl) (by kernel_rfl)) ?_
  intro W base args ds gs before hval0 hW hcnd _
  have hval : ∀ (j : Nat) t v, Try.f5.params[j]? = some t → args[j]? = some v → Value.okWide Try.prog W .any base t v := hval0
  have hW' := hW
  obtain ⟨p, q, hA0, hV, rfl, hfz, hnd⟩ := hW
  have hA : DataW.TrodAll enc Try.prog W 0 (fun _ => true) true Try.f5.params.toList args.toList ds p := hA0
  rw [Try.params5] at hA hval
  obtain ⟨v0, vs0, d0, ds0, p0, q0, hargs, rfl, rfl, h0, r0⟩ := trodAll_cons hA
  obtain ⟨v1, vs1, d1, ds1, p1, q1, rfl, rfl, rfl, h1, r1⟩ := trodAll_cons r0
  obtain ⟨v2, vs2, d2, ds2, p2, q2, rfl, rfl, rfl, h2, r2⟩ := trodAll_cons r1
  obtain ⟨v3, vs3, d3, ds3, p3, q3, rfl, rfl, rfl, h3, r3⟩ := trodAll_cons r2
  obtain ⟨v4, vs4, d4, ds4, p4, q4, rfl, rfl, rfl, h4, r4⟩ := trodAll_cons r3
  obtain ⟨rfl, rfl, rfl⟩ := trodAll_nil r4
  obtain rfl : args = #[v0, v1, v2, v3, v4] := by cases args; simp_all
  obtain ⟨rfl, rfl⟩ := trodVars_none hV
  have k0 := h0
  have lt0 : ∀ x ∈ p0, x.block < W.heap.size := by obtain ⟨m, hm⟩ := k0; exact DataW.trod_lt m _ _ _ hm
  obtain ⟨n0, ok0, rfl⟩ := open_u32 (hval 0 22 v0 rfl rfl) h0
  have k1 := h1
  have lt1 : ∀ x ∈ p1, x.block < W.heap.size := by obtain ⟨m, hm⟩ := k1; exact DataW.trod_lt m _ _ _ hm
  obtain ⟨n1, ok1, rfl⟩ := open_u32 (hval 1 22 v1 rfl rfl) h1
  have k2 := h2
  have lt2 : ∀ x ∈ p2, x.block < W.heap.size := by obtain ⟨m, hm⟩ := k2; exact DataW.trod_lt m _ _ _ hm
  obtain ⟨n2, ok2, rfl⟩ := open_u32 (hval 2 22 v2 rfl rfl) h2
  have k3 := h3
  have lt3 : ∀ x ∈ p3, x.block < W.heap.size := by obtain ⟨m, hm⟩ := k3; exact DataW.trod_lt m _ _ _ hm
  obtain ⟨n3, ok3, rfl⟩ := open_u32 (hval 3 22 v3 rfl rfl) h3
  have k4 := h4
  have lt4 : ∀ x ∈ p4, x.block < W.heap.size := by obtain ⟨m, hm⟩ := k4; exact DataW.trod_lt m _ _ _ hm
  obtain ⟨n4, ok4, rfl⟩ := open_u64 (hval 4 23 v4 rfl rfl) h4
  clear hA0 hval0
  refine (walk n0 ok0 n1 ok1 n2 ok2 n3 ok3 n4 ok4 W ).mono fun e W' ⟨he, bel⟩ => ?_
  subst he
  exact ⟨_, rfl, _, _, _, [], _, [], hW', trodAll_mk1 (shut_bool Try.underlying4 _), (trodAll_cons_mk (Below.trod laidOut (by kernel_rfl) (of_decide_eq_true (by kernel_rfl)) k0 bel lt0) (trodAll_cons_mk (Below.trod laidOut (by kernel_rfl) (of_decide_eq_true (by kernel_rfl)) k1 bel lt1) (trodAll_cons_mk (Below.trod laidOut (by kernel_rfl) (of_decide_eq_true (by kernel_rfl)) k2 bel lt2) (trodAll_cons_mk (Below.trod laidOut (by kernel_rfl) (of_decide_eq_true (by kernel_rfl)) k3 bel lt3) (trodAll_cons_mk (Below.trod laidOut (by kernel_rfl) (of_decide_eq_true (by kernel_rfl)) k4 bel lt4) trodAll_mk0))))), rfl, bel.frame _, fun h => by cases h⟩

theorem proved : Rows.MortonBackSaid :=
  OpenClaim.holds_of_wide 5 Try.f5 rfl rfl rfl rfl rfl rfl rfl ⟨rfl, rfl, rfl, rfl, rfl⟩ rfl rfl rfl rfl rfl (by kernel_rfl) Try.func5 (by kernel_rfl)
    (of_decide_eq_true (by kernel_rfl)) (by unfold Func.isWrapper; first | (rw [if_pos (by decide +kernel)]; kernel_rfl) | (rw [if_neg (by decide +kernel)]; exact ⟨rfl, rfl⟩))
    (fun os started H enc _ => lifted os started H enc)
end Go.Proofs.Ytdhcilnkimmblaa.MorBackLaw
