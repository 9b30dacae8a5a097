/- MortonAll: for every rectangle the call returns true: keys that are told one behind the other are those of all its points, rising. No condition. -/
import Derived.Test.YtdhcilnkimmblaaMorCount
import Derived.Test.YtdhcilnkimmblaaMorOpen
import Derived.Test.YtdhcilnkimmblaaOwn
namespace Go.Proofs.Ytdhcilnkimmblaa.MorAllLaw
open Go.ChangeShapes Go.WideShapes Go.ChangeAt Go.RowKit Go.Sort
set_option linter.unusedVariables false

set_option maxRecDepth 100000 in
set_option maxHeartbeats 4000000 in
theorem wrong (a b c d : Nat) (w : World)
    (h1 : Gives Try.prog 16 #[.agg (rectc a b c d)] (.bool false))
    (h2 : Gives Try.prog 11 #[.agg (rectc a b c d), .int .u64 0] (.tuple #[.int .u64 0, .bool false])) : Calls Try.prog 8 #[.agg (rectc a b c d)] w fun e w' => e = .returned (.bool true) ∧ Below w.heap.size w w' := by
  go_enter Try.func8, Try.ntmps8
  go_upto_region 1 with (fail)
  have R0 := Blk.new w (rectc a b c d) 25
  have B0 := ((Below.refl w.heap.size w).alloc (Nat.le_refl _) (.cells (rectc a b c d) 25))
  generalize World.alloc _ _ = W0 at *
  go_upto_region 2 with (first | (refine p_loadR rfl _ rfl _ rfl _ _ _ _ (by first | with_reducible exact R0) ?_) | (go_at_call 16; (with_reducible refine (h1.calls _).mono ?_); rintro e w1 ⟨rfl, hb⟩))
  replace R0 := R0.below hb R0.lt
  replace B0 := B0.trans (hb.mono B0.size)
  clear hb
  go_upto_region 3 with (first | (refine p_loadR rfl _ rfl _ rfl _ _ _ _ (by first | with_reducible exact R0) ?_) | (go_at_call 11; (with_reducible refine (h2.calls _).mono ?_); rintro e w2 ⟨rfl, hb⟩))
  replace R0 := R0.below hb R0.lt
  replace B0 := B0.trans (hb.mono B0.size)
  clear hb
  go_wp2_with (first | (go_at_call 13; (with_reducible refine (woven_all.calls _).mono ?_); rintro e w3 ⟨rfl, hb⟩; replace R0 := R0.below hb R0.lt; replace B0 := B0.trans (hb.mono B0.size); clear hb) | (go_guarded; refine o_loadR _ rfl _ rfl _ _ _ _ (by first | with_reducible exact R0) ?_; simp only [Act.put, List.setIfInBounds_toArray, List.set_cons_succ, List.set_cons_zero]))
  go_ret
  exact ⟨rfl, B0⟩

set_option maxRecDepth 100000 in
set_option maxHeartbeats 4000000 in
theorem large (a b c d p q : Nat) (w : World)
    (h1 : Gives Try.prog 16 #[.agg (rectc a b c d)] (.bool true))
    (e1 : ((b : Int) - (a : Int)) % 4294967296 = (p : Int)) (e2 : ((d : Int) - (c : Int)) % 4294967296 = (q : Int)) (g : 20 < p ∨ (¬ 20 < p ∧ 20 < q)) : Calls Try.prog 8 #[.agg (rectc a b c d)] w fun e w' => e = .returned (.bool true) ∧ Below w.heap.size w w' := by
  rcases g with g | ⟨g, g'⟩
  all_goals
    go_enter Try.func8, Try.ntmps8
    go_upto_region 1 with (fail)
    have R0 := Blk.new w (rectc a b c d) 25
    have B0 := ((Below.refl w.heap.size w).alloc (Nat.le_refl _) (.cells (rectc a b c d) 25))
    generalize World.alloc _ _ = W0 at *
    go_upto_region 4 with (first | (refine p_loadR rfl _ rfl _ rfl _ _ _ _ (by first | with_reducible exact R0) ?_) | (go_at_call 16; (with_reducible refine (h1.calls _).mono ?_); rintro e w1 ⟨rfl, hb⟩))
    replace R0 := R0.below hb R0.lt
    replace B0 := B0.trans (hb.mono B0.size)
    clear hb
    have c0 := rect0 R0
    have c1 := rect1 R0
    have c2 := rect2 R0
    have c3 := rect3 R0
    clear R0
    go_wp2_with (first | (go_at_call 13; (with_reducible refine (woven_all.calls _).mono ?_); rintro e w2 ⟨rfl, hb⟩; replace B0 := B0.trans (hb.mono B0.size); clear hb))
    go_ret
    exact ⟨rfl, B0⟩

set_option maxRecDepth 100000 in
set_option maxHeartbeats 4000000 in
theorem small (a b c d p q M : Nat) (C : Nat → Nat) (w : World)
    (h1 : Gives Try.prog 16 #[.agg (rectc a b c d)] (.bool true))
    (e1 : ((b : Int) - (a : Int)) % 4294967296 = (p : Int)) (e2 : ((d : Int) - (c : Int)) % 4294967296 = (q : Int)) (g1 : p ≤ 20) (g2 : q ≤ 20) (g3 : M ≤ 441) (e3 : ((p : Int) + 1) * ((q : Int) + 1) = (M : Int)) (h0 : C 0 = 0)
    (hL : ∀ z, z < 18446744073709551616 → C z < M → ∃ v : Nat, z ≤ v ∧ v < 18446744073709551616 ∧ C (v + 1) = C z + 1 ∧ (v = 18446744073709551615 → C z + 1 = M) ∧
      Gives Try.prog 11 #[.agg (rectc a b c d), .int .u64 (z : Int)] (.tuple #[.int .u64 (v : Int), .bool true]) ∧
      Gives Try.prog 18 #[.agg (rectc a b c d), .int .u64 (v : Int)] (.bool true))
    (hE : ∀ z, z < 18446744073709551616 → C z = M → Gives Try.prog 11 #[.agg (rectc a b c d), .int .u64 (z : Int)] (.tuple #[.int .u64 0, .bool false])) : Calls Try.prog 8 #[.agg (rectc a b c d)] w fun e w' => e = .returned (.bool true) ∧ Below w.heap.size w w' := by
  have f1 : ¬ 20 < p := by omega
  have f2 : ¬ 20 < q := by omega
  have e4 : IntKind.i64.wrap ((p : Int) + 1) = (p : Int) + 1 := IntWalk.i64_in _ (by omega)
  have e5 : IntKind.i64.wrap ((q : Int) + 1) = (q : Int) + 1 := IntWalk.i64_in _ (by omega)
  have e6 : IntKind.i64.wrap (M : Int) = (M : Int) := IntWalk.i64_in _ (by omega)
  go_enter Try.func8, Try.ntmps8
  go_upto_region 1 with (fail)
  have R0 := Blk.new w (rectc a b c d) 25
  have B0 := ((Below.refl w.heap.size w).alloc (Nat.le_refl _) (.cells (rectc a b c d) 25))
  generalize World.alloc _ _ = W0 at *
  go_upto_region 4 with (first | (refine p_loadR rfl _ rfl _ rfl _ _ _ _ (by first | with_reducible exact R0) ?_) | (go_at_call 16; (with_reducible refine (h1.calls _).mono ?_); rintro e w1 ⟨rfl, hb⟩))
  replace R0 := R0.below hb R0.lt
  replace B0 := B0.trans (hb.mono B0.size)
  clear hb
  have c0 := rect0 R0
  have c1 := rect1 R0
  have c2 := rect2 R0
  have c3 := rect3 R0
  have HR := Lib.hid R0
  have HB := Lib.hid B0
  have HL := Lib.hid hL
  have HE := Lib.hid hE
  have H0 := Lib.hid h0
  clear R0 B0 hL hE h0
  go_wp2
  try rw [e1]
  try rw [e2]
  clear c0 c1 c2 c3 e1 e2 e3 e4 e5 e6 f1 f2 g1 g2
  go_loopw [6, 7] (fun z i wr => ∃ k x : Nat, k ≤ M ∧ i = .int .i64 k ∧ z = .int .u64 (x : Int) ∧ x < 18446744073709551616 ∧ C x = k ∧ Blk wr w.heap.size (rectc a b c d) 25 ∧ Below w.heap.size w wr) (fun _ i _ => M - (intOf i).toNat)
  case atStart => exact ⟨0, 0, by omega, rfl, rfl, by omega, H0.out, HR.out, HB.out⟩
  case round =>
    clear HR HB
    obtain ⟨k, x, hk, rfl, rfl, hx, hc, R1, B1⟩ := hrel
    have HR := Lib.hid R1
    have HB := Lib.hid B1
    have HX := Lib.hid hx
    have HC := Lib.hid hc
    clear R1 B1 hx hc
    by_cases hlt : k < M
    · obtain ⟨v, hv1, hv2, hv3, hv4, L1, I1⟩ := HL.out x HX.out (by rw [HC.out]; exact hlt)
      have HV3 := Lib.hid hv3
      have HV4 := Lib.hid hv4
      clear HL HE H0 hv3 hv4
      have hnot : ¬ v < x := by omega
      by_cases hmax : v = 18446744073709551615
      · have hM : Hid (k + 1 = M) := by have := HV4.out hmax; rw [HC.out] at this; exact this
        have hm1 : ((v : Int) == 18446744073709551615) = true := by rw [beq_iff_eq]; omega
        have hm2 : ((k : Int) == (M : Int) - 1) = true := by rw [beq_iff_eq]; have := hM.out; omega
        have hm3 : IntKind.i64.wrap ((M : Int) - 1) = (M : Int) - 1 := IntWalk.i64_in _ (by omega)
        clear HV4 HV3 hmax hM hv2 hv1
        go_wp2_with (first | (refine p_loadR rfl _ rfl _ rfl _ _ _ _ (by with_reducible exact HR.out) ?_) | (go_at_call 11; (with_reducible refine (L1.calls _).mono ?_); rintro e w5 ⟨rfl, hb⟩; replace HR := Lib.hid (HR.out.below hb HR.out.lt); replace HB := Lib.hid (HB.out.trans (hb.mono HB.out.size)); clear hb) | (go_guarded; refine o_loadR _ rfl _ rfl _ _ _ _ HR.out ?_; simp only [Act.put, List.setIfInBounds_toArray, List.set_cons_succ, List.set_cons_zero]) | (go_at_call 18; (with_reducible refine (I1.calls _).mono ?_); rintro e w5 ⟨rfl, hb⟩; replace HR := Lib.hid (HR.out.below hb HR.out.lt); replace HB := Lib.hid (HB.out.trans (hb.mono HB.out.size)); clear hb) | (go_at_call 13; (with_reducible refine (woven_all.calls _).mono ?_); rintro e w5 ⟨rfl, hb⟩; replace HR := Lib.hid (HR.out.below hb HR.out.lt); replace HB := Lib.hid (HB.out.trans (hb.mono HB.out.size)); clear hb))
        go_ret
        exact ⟨rfl, HB.out⟩
      · have hm1 : ((v : Int) == 18446744073709551615) = false := by rw [beq_eq_false_iff_ne]; omega
        have hw : IntKind.u64.wrap ((v : Int) + 1) = (v : Int) + 1 := by rw [IntKind.wrap_u64]; omega
        have HV2 : Hid (v + 1 < 18446744073709551616) := Lib.hid (by omega)
        clear HV4 hmax hv2 hv1
        go_wp2_with (first | (refine p_loadR rfl _ rfl _ rfl _ _ _ _ (by with_reducible exact HR.out) ?_) | (go_at_call 11; (with_reducible refine (L1.calls _).mono ?_); rintro e w5 ⟨rfl, hb⟩; replace HR := Lib.hid (HR.out.below hb HR.out.lt); replace HB := Lib.hid (HB.out.trans (hb.mono HB.out.size)); clear hb) | (go_guarded; refine o_loadR _ rfl _ rfl _ _ _ _ HR.out ?_; simp only [Act.put, List.setIfInBounds_toArray, List.set_cons_succ, List.set_cons_zero]) | (go_at_call 18; (with_reducible refine (I1.calls _).mono ?_); rintro e w5 ⟨rfl, hb⟩; replace HR := Lib.hid (HR.out.below hb HR.out.lt); replace HB := Lib.hid (HB.out.trans (hb.mono HB.out.size)); clear hb))
        go_roundw
        case rel => exact ⟨k + 1, v + 1, by omega, by go_num, by go_num, HV2.out, by rw [HV3.out, HC.out], HR.out, HB.out⟩
        case measure => simp [intOf]; omega
    · obtain rfl : k = M := by omega
      have L1 := HE.out x HX.out HC.out
      clear HL HE H0 HX HC
      go_wp2_with (first | (refine p_loadR rfl _ rfl _ rfl _ _ _ _ (by with_reducible exact HR.out) ?_) | (go_at_call 11; (with_reducible refine (L1.calls _).mono ?_); rintro e w5 ⟨rfl, hb⟩; replace HR := Lib.hid (HR.out.below hb HR.out.lt); replace HB := Lib.hid (HB.out.trans (hb.mono HB.out.size)); clear hb) | (go_at_call 13; (with_reducible refine (woven_all.calls _).mono ?_); rintro e w5 ⟨rfl, hb⟩; replace HR := Lib.hid (HR.out.below hb HR.out.lt); replace HB := Lib.hid (HB.out.trans (hb.mono HB.out.size)); clear hb))
      go_ret
      exact ⟨rfl, HB.out⟩

theorem walk (a b c d : Nat) (hr : a < 4294967296 ∧ b < 4294967296 ∧ c < 4294967296 ∧ d < 4294967296) (w : World) : Calls Try.prog 8 #[.agg (rectc a b c d)] w fun e w' => e = .returned (.bool true) ∧ Below w.heap.size w w' := by
  have h1 := isM_any a b c d
  cases hi : isR a b c d
  · rw [hi] at h1
    exact wrong a b c d w h1 (least_wrong a b c d 0 hi)
  · rw [hi] at h1
    obtain ⟨hab, hcd⟩ := isR_iff.1 hi
    obtain ⟨p, rfl⟩ : ∃ p, b = a + p := ⟨b - a, by omega⟩
    obtain ⟨q, rfl⟩ : ∃ q, d = c + q := ⟨d - c, by omega⟩
    by_cases hs : 20 < p ∨ (¬ 20 < p ∧ 20 < q)
    · exact large a (a + p) c (c + q) p q w h1 (by omega) (by omega) hs
    · have hp : p ≤ 20 := by omega
      have hq : q ≤ 20 := by omega
      have hM : (p + 1) * (q + 1) ≤ 21 * 21 := Nat.mul_le_mul (by omega) (by omega)
      refine small a (a + p) c (c + q) p q ((p + 1) * (q + 1)) (cntN a c p q) w h1 (by omega) (by omega) hp hq hM (by rw [Int.natCast_mul]; rfl) (cntN_zero a c p q) ?_ ?_
      · intro z hz hlt
        obtain ⟨v, ok, hl⟩ := LeastAt.exists (fun u => insideB a (a + p) c (c + q) u = true) z
        cases ok
        · have := count_none hr.2.1 hr.2.2.2 hz hl
          omega
        · have hs := count_some hr.2.1 hr.2.2.2 hl
          have h3 := least_any hr.2.1 hr.2.2.2 hz hl
          rcases hl with ⟨_, ⟨l1, l2⟩, l3, _⟩ | ⟨h, _⟩
          · refine ⟨v, l1, l2, hs, fun hv => ?_, h3, ?_⟩
            · rw [← hs, hv]; exact cntN_full a c p q
            · have h4 := inside_any a (a + p) c (c + q) v l2
              rw [l3] at h4
              exact h4
          · cases h
      · intro z hz hc
        obtain ⟨v, ok, hl⟩ := LeastAt.exists (fun u => insideB a (a + p) c (c + q) u = true) z
        cases ok
        · have hl2 := hl
          rcases hl with ⟨h, _⟩ | ⟨_, h0, _⟩
          · cases h
          · subst h0; exact least_any hr.2.1 hr.2.2.2 hz hl2
        · have hs := count_some hr.2.1 hr.2.2.2 hl
          have h5 : v < 18446744073709551616 := by
            rcases hl with ⟨_, ⟨_, l2⟩, _⟩ | ⟨h, _⟩
            · exact l2
            · cases h
          have := count_most (z := v + 1) hr.2.1 hr.2.2.2 (by omega)
          omega

set_option maxRecDepth 100000 in
theorem lifted (os : Os) (started : os.Started) (H : Type) (enc : TypeId × Value → H) :
    ReturnsInHanded {} Try.checked os 8 .any (Rows.mortonAllSpec.pre6 enc Try.prog Try.f8 Rows.mortonAllRow.domain false) (Rows.mortonAllSpec.post enc Try.prog Try.f8 false true false false) := by
  refine returnsInHanded_of_change (C := Try.checked) own started (by kernel_rfl) Try.func8
    (ChangeSpec.witness6 (enc := enc) (C := Try.checked) false ⟨#[], #[.agg #[.int .u32 0, .int .u32 0, .int .u32 0, .int .u32 0]], []⟩ 8 (by kernel_rfl) (by kernel_rfl) (by kernel_rfl) (by kernel_rfl)) ?_
  intro W base args ds gs before hval0 hW hcnd _
  have hval : ∀ (j : Nat) t v, Try.f8.params[j]? = some t → args[j]? = some v → Value.okWide Try.prog W .any base t v := hval0
  have hW' := hW
  obtain ⟨p, q, hA0, hV, rfl, hfz, hnd⟩ := hW
  have hA : DataW.TrodAll enc Try.prog W 0 (fun _ => true) true Try.f8.params.toList args.toList ds p := hA0
  rw [Try.params8] at hA hval
  obtain ⟨v0, vs0, d0, ds0, p0, q0, hargs, rfl, rfl, h0, r0⟩ := trodAll_cons hA
  obtain ⟨rfl, rfl, rfl⟩ := trodAll_nil r0
  obtain rfl : args = #[v0] := by cases args; simp_all
  obtain ⟨rfl, rfl⟩ := trodVars_none hV
  have k0 := h0
  have lt0 : ∀ x ∈ p0, x.block < W.heap.size := by obtain ⟨m, hm⟩ := k0; exact DataW.trod_lt m _ _ _ hm
  obtain ⟨x0, x0_, y0, y0_, ok0, rfl⟩ := open_rect (hval 0 25 v0 rfl rfl) h0
  clear hA0 hval0
  refine (walk x0 x0_ y0 y0_ ok0 W ).mono fun e W' ⟨he, bel⟩ => ?_
  subst he
  exact ⟨_, rfl, _, _, _, [], _, [], hW', trodAll_mk1 (shut_bool Try.underlying4 _), (trodAll_cons_mk (Below.trod laidOut (by kernel_rfl) (of_decide_eq_true (by kernel_rfl)) k0 bel lt0) trodAll_mk0), rfl, bel.frame _, fun h => by cases h⟩

theorem proved : Rows.MortonAllSaid :=
  OpenClaim.holds_of_wide 8 Try.f8 rfl rfl rfl rfl rfl rfl rfl ⟨rfl, rfl, rfl, rfl, rfl⟩ rfl rfl rfl rfl rfl (by kernel_rfl) Try.func8 (by kernel_rfl)
    (of_decide_eq_true (by kernel_rfl)) (by unfold Func.isWrapper; first | (rw [if_pos (by decide +kernel)]; kernel_rfl) | (rw [if_neg (by decide +kernel)]; exact ⟨rfl, rfl⟩))
    (fun os started H enc _ => lifted os started H enc)
end Go.Proofs.Ytdhcilnkimmblaa.MorAllLaw
