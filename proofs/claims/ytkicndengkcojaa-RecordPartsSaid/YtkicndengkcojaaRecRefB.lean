/- The document's Is, the other ways. -/
import Derived.Test.YtkicndengkcojaaRecRefA
namespace Go.Proofs.Ytkicndengkcojaa
set_option maxRecDepth 100000
open Go Go.RowKit Go.Sort

set_option maxHeartbeats 2000000 in
theorem refis_ok_true_20 (kind : Int) (items : List It) (nl : Int) (nb mark : Nat) (a : Option Addr) (n c : Nat) (w : World) (hn : n = items.length) (hk : 1 ≤ kind ∧ kind ≤ 5) (_h16 : n ≤ 16) (HE : eqL nl nb (-1) 0 = true) (hm : mark ≠ 0) (h5 : kind = 5) (hb : bareB kind = false) (hT : Told w (.slice a n c) items) :
    Calls Try.prog 16 #[.agg (recC ⟨kind, items, nl, nb, mark⟩ (.slice a n c))] w fun e w' => e = .returned (.bool (okI items)) ∧ Below w.heap.size w w' := by
  have HN := refnone_any
  have HBA := bare_any kind
  have d1 : decide (kind < 1) = false := decide_eq_false (by omega)
  have d5 : decide (5 < kind) = false := decide_eq_false (by omega)
  have g1 : ¬ kind < 1 := by omega
  have g5 : ¬ 5 < kind := by omega
  have HK := Lib.hid hk
  have HNN := Lib.hid hn
  clear hk hn
  have d16 : decide (16 < (n : Int)) = false := decide_eq_false (by omega)
  have H16 := Lib.hid _h16
  clear _h16
  have m0 : ((mark : Int) != 0) = true := by simp; omega
  have k5 : (kind != 5) = false := by simpa using h5
  clear hm h5
  rw [hb] at HBA
  clear hb
  have HT := Lib.hid hT
  clear hT
  go_enter Try.func16, Try.ntmps16
  simp only [recC]
  go_upto_region 1 with (fail)
  obtain ⟨A0, B0⟩ := rec_box w ⟨kind, items, nl, nb, mark⟩ (.slice a n c)
  simp only [recC] at A0 B0
  generalize w.alloc _ = W at *
  refine wp_region_quiet_below (by kernel_rfl) (by kernel_rfl) ?_
  repeat (first
    | go_big_quiet_skip
    | (go_big_quiet_want
       first
       | (first | refine q_midL _ rfl _ rfl ⟨kind, items, nl, nb, mark⟩ (.slice a n c) A0 ?_ | refine q_eqlL _ _ rfl nl nb (-1) 0 rfl rfl HE ?_
          simp only [Act.put, List.setIfInBounds_toArray, List.set_cons_succ, List.set_cons_zero]
          go_big_quiet_on)
       | (go_big_quiet_op
          first | go_big_quiet_on | go_big_quiet_call (first | with_reducible exact HN.grown _ _))))
  refine wpQuiet_nil ?_
  intro _ hw'
  have A1 := A0.below (quiet_fin hw') A0.lt
  have B1 := rstep B0 (quiet_fin hw')
  clear hw' A0 B0
  rename_i W2
  have c0 : W2.cell? ⟨w.heap.size, 0, none⟩ = some (.int .i64 kind) := A1.cell 0
  have c1 : W2.cell? ⟨w.heap.size, 1, none⟩ = some (.slice a n c) := A1.cell 1
  have c4 : W2.cell? ⟨w.heap.size, 4, none⟩ = some (.int .u64 (mark : Int)) := A1.cell 4
  go_upto_region 4 with (fail)
  have A3 := A1
  have B3 := B1
  clear A1 B1
  go_upto_region 6 with (go_at_call 39; (with_reducible refine (HBA.calls _).mono ?_); rintro e W4 ⟨rfl, hb4⟩; have A4 := A3.below hb4 A3.lt; have B4 := rstep B3 hb4; have c1 : W4.cell? ⟨w.heap.size, 1, none⟩ = some (.slice a n c) := A4.cell 1)
  have HT4 := Lib.hid (HT.out.bel B4)
  have HB4 := Lib.hid B4
  have HA4 := Lib.hid A4
  clear B4 HT c0 c4 c1
  have c1 : W4.cell? ⟨w.heap.size, 1, none⟩ = some (.slice a n c) := A4.cell 1
  have c1q : ∀ d os, (grow (redrawn W4 d) os).cell? ⟨w.heap.size, 1, none⟩ = some (.slice a n c) := fun d os => A4.grown 1 d os
  clear A4 c1q
  go_wp2
  go_loopw [4] (fun i wr => ∃ q : Nat, q ≤ n ∧ i = .int .i64 (q : Int) ∧ Below W4.heap.size W4 wr ∧ Sorted (items.take q) ∧ shortB (items.take q) = true) (fun i _ => n - (intOf i).toNat)
  case atStart => exact ⟨0, by omega, rfl, Below.refl _ _, by simp [Sorted], rfl⟩
  case round =>
    obtain ⟨q, hq, rfl, hB, hS, hV⟩ := hrel
    have HB := Lib.hid hB
    have HS := Lib.hid hS
    have HV := Lib.hid hV
    clear hB hS hV c1
    have c1 : wr.cell? ⟨w.heap.size, 1, none⟩ = some (.slice a n c) := (HA4.out.below HB.out HA4.out.lt).cell 1
    by_cases hlt : q < n
    · obtain ⟨x, hx⟩ : ∃ x, items[q]? = some x := ⟨_, List.getElem?_eq_getElem (by have := HNN.out; omega)⟩
      obtain ⟨b1, o1, rfl, x1, x2, _⟩ := told_at (HT4.out.bel HB.out) hx
      have hbq : (q : Int) < (n : Int) := by omega
      have hwq : IntKind.i64.wrap ((q : Int) + 1) = (q : Int) + 1 := IntWalk.i64_in _ (by have := H16.out; omega)
      have HX := Lib.hid hx
      clear hx
      by_cases h64 : 64 < x.2.size
      · have hd : decide (64 < (x.2.size : Int)) = true := decide_eq_true (by omega)
        have HR := Lib.hid (short_not HX.out h64)
        clear h64
        go_upto_region 9 with (fail)
        go_quiet (fail)
        go_wp2
        go_ret
        exact ⟨by rw [okI, HR.out]; simp, rstep HB4.out (bel_drewN HB.out _)⟩
      · have hd : decide (64 < (x.2.size : Int)) = false := decide_eq_false (by omega)
        have HR : Hid (shortB (items.take (q + 1)) = true) := by unfold Hid; rw [short_take HX.out, HV.out]; simp; omega
        clear h64
        by_cases hq0 : q = 0
        · have p0 : decide (0 < q) = false := decide_eq_false (by omega)
          have HQ0 := Lib.hid hq0
          clear hq0
          go_upto_region 9 with (fail)
          go_quiet (fail)
          go_wp2
          exact ⟨⟨q + 1, by omega, by go_num, bel_drewN HB.out _, by rw [HQ0.out]; exact rise_one items, HR.out⟩, by simp [intOf]; omega⟩
        · obtain ⟨i, hi⟩ : ∃ i, q = i + 1 := ⟨q - 1, by omega⟩
          obtain ⟨y, hy⟩ : ∃ y, items[i]? = some y := ⟨_, List.getElem?_eq_getElem (by have := HNN.out; omega)⟩
          obtain ⟨b2, o2, e2, y1, _, _⟩ := told_at (HT4.out.bel HB.out) hy
          simp only [Option.some.injEq, Addr.mk.injEq, and_true] at e2
          obtain ⟨rfl, rfl⟩ := e2
          have p0 : decide (0 < q) = true := decide_eq_true (by omega)
          have hw1 : IntKind.i64.wrap ((q : Int) - 1) = (i : Int) := by rw [show (q : Int) - 1 = i by omega]; exact IntWalk.i64_in _ (by have := H16.out; omega)
          have hb1 : (i : Int) < (n : Int) := by omega
          have HY := Lib.hid hy
          have HIQ := Lib.hid hi
          clear hy hi hq0
          by_cases hk : y.1 < x.1
          · have hd2 : decide (x.1 ≤ y.1) = false := by simp; omega
            have HK2 := Lib.hid hk
            clear hk
            go_upto_region 9 with (fail)
            go_quiet (fail)
            go_wp2
            exact ⟨⟨q + 1, by omega, by go_num, bel_drewN HB.out _, by have h1 := HX.out; have h2 := HS.out; rw [HIQ.out] at h1 h2 ⊢; exact rise_take HY.out h1 HK2.out h2, HR.out⟩, by simp [intOf]; omega⟩
          · have hd2 : decide (x.1 ≤ y.1) = true := by simp; omega
            have HRN : Hid (riseB items = false) := by have h1 := HX.out; rw [HIQ.out] at h1; exact rise_not HY.out h1 hk
            clear hk
            go_upto_region 9 with (fail)
            go_quiet (fail)
            go_wp2
            go_ret
            exact ⟨by rw [okI, HRN.out]; simp, rstep HB4.out (bel_drewN HB.out _)⟩
    · have HR : Hid (okI items = true) := by
        have h1 := rise_all HS.out (by have := HNN.out; omega)
        have h2 := HV.out
        rw [List.take_of_length_le (by have := HNN.out; omega)] at h2
        have h3 := H16.out
        have h4 := HNN.out
        unfold Hid okI
        rw [h1, h2, decide_eq_true (by omega)]; rfl
      go_wp2
      go_ret
      exact ⟨by rw [HR.out]; rfl, rstep HB4.out HB.out⟩

set_option maxHeartbeats 2000000 in
theorem refis_ok_false_10 (kind : Int) (items : List It) (nl : Int) (nb mark : Nat) (a : Option Addr) (n c : Nat) (w : World) (hn : n = items.length) (hk : 1 ≤ kind ∧ kind ≤ 5) (_h16 : n ≤ 16) (HE : eqL nl nb (-1) 0 = false) (HI : Gives Try.prog 52 #[.agg (labc nl nb)] (.bool true)) (hm : mark = 0) (hb : bareB kind = false) (hT : Told w (.slice a n c) items) :
    Calls Try.prog 16 #[.agg (recC ⟨kind, items, nl, nb, mark⟩ (.slice a n c))] w fun e w' => e = .returned (.bool (okI items)) ∧ Below w.heap.size w w' := by
  have HN := refnone_any
  have HBA := bare_any kind
  have d1 : decide (kind < 1) = false := decide_eq_false (by omega)
  have d5 : decide (5 < kind) = false := decide_eq_false (by omega)
  have g1 : ¬ kind < 1 := by omega
  have g5 : ¬ 5 < kind := by omega
  have HK := Lib.hid hk
  have HNN := Lib.hid hn
  clear hk hn
  have d16 : decide (16 < (n : Int)) = false := decide_eq_false (by omega)
  have H16 := Lib.hid _h16
  clear _h16
  have m0 : ((mark : Int) != 0) = false := by simp; omega
  clear hm
  rw [hb] at HBA
  clear hb
  have HT := Lib.hid hT
  clear hT
  go_enter Try.func16, Try.ntmps16
  simp only [recC]
  go_upto_region 1 with (fail)
  obtain ⟨A0, B0⟩ := rec_box w ⟨kind, items, nl, nb, mark⟩ (.slice a n c)
  simp only [recC] at A0 B0
  generalize w.alloc _ = W at *
  refine wp_region_quiet_below (by kernel_rfl) (by kernel_rfl) ?_
  repeat (first
    | go_big_quiet_skip
    | (go_big_quiet_want
       first
       | (first | refine q_midL _ rfl _ rfl ⟨kind, items, nl, nb, mark⟩ (.slice a n c) A0 ?_ | refine q_eqlL _ _ rfl nl nb (-1) 0 rfl rfl HE ?_
          simp only [Act.put, List.setIfInBounds_toArray, List.set_cons_succ, List.set_cons_zero]
          go_big_quiet_on)
       | (go_big_quiet_op
          first | go_big_quiet_on | go_big_quiet_call (first | with_reducible exact HN.grown _ _))))
  refine wpQuiet_nil ?_
  intro _ hw'
  have A1 := A0.below (quiet_fin hw') A0.lt
  have B1 := rstep B0 (quiet_fin hw')
  clear hw' A0 B0
  rename_i W2
  have c0 : W2.cell? ⟨w.heap.size, 0, none⟩ = some (.int .i64 kind) := A1.cell 0
  have c1 : W2.cell? ⟨w.heap.size, 1, none⟩ = some (.slice a n c) := A1.cell 1
  have c4 : W2.cell? ⟨w.heap.size, 4, none⟩ = some (.int .u64 (mark : Int)) := A1.cell 4
  go_upto_region 4 with (first
    | (go_guarded; refine o_midL _ rfl w.heap.size rfl ⟨kind, items, nl, nb, mark⟩ (.slice a n c) A1 ?_)
    | (go_at_call 52; (with_reducible refine (HI.calls _).mono ?_); rintro e W3 ⟨rfl, hb3⟩; have A3 := A1.below hb3 A1.lt; have B3 := rstep B1 hb3; have c0 : W3.cell? ⟨w.heap.size, 0, none⟩ = some (.int .i64 kind) := A3.cell 0; have c1 : W3.cell? ⟨w.heap.size, 1, none⟩ = some (.slice a n c) := A3.cell 1; have c4 : W3.cell? ⟨w.heap.size, 4, none⟩ = some (.int .u64 (mark : Int)) := A3.cell 4))
  go_upto_region 6 with (go_at_call 39; (with_reducible refine (HBA.calls _).mono ?_); rintro e W4 ⟨rfl, hb4⟩; have A4 := A3.below hb4 A3.lt; have B4 := rstep B3 hb4; have c1 : W4.cell? ⟨w.heap.size, 1, none⟩ = some (.slice a n c) := A4.cell 1)
  have HT4 := Lib.hid (HT.out.bel B4)
  have HB4 := Lib.hid B4
  have HA4 := Lib.hid A4
  clear B4 HT HI c0 c4 c1
  have c1 : W4.cell? ⟨w.heap.size, 1, none⟩ = some (.slice a n c) := A4.cell 1
  have c1q : ∀ d os, (grow (redrawn W4 d) os).cell? ⟨w.heap.size, 1, none⟩ = some (.slice a n c) := fun d os => A4.grown 1 d os
  clear A4 c1q
  go_wp2
  go_loopw [4] (fun i wr => ∃ q : Nat, q ≤ n ∧ i = .int .i64 (q : Int) ∧ Below W4.heap.size W4 wr ∧ Sorted (items.take q) ∧ shortB (items.take q) = true) (fun i _ => n - (intOf i).toNat)
  case atStart => exact ⟨0, by omega, rfl, Below.refl _ _, by simp [Sorted], rfl⟩
  case round =>
    obtain ⟨q, hq, rfl, hB, hS, hV⟩ := hrel
    have HB := Lib.hid hB
    have HS := Lib.hid hS
    have HV := Lib.hid hV
    clear hB hS hV c1
    have c1 : wr.cell? ⟨w.heap.size, 1, none⟩ = some (.slice a n c) := (HA4.out.below HB.out HA4.out.lt).cell 1
    by_cases hlt : q < n
    · obtain ⟨x, hx⟩ : ∃ x, items[q]? = some x := ⟨_, List.getElem?_eq_getElem (by have := HNN.out; omega)⟩
      obtain ⟨b1, o1, rfl, x1, x2, _⟩ := told_at (HT4.out.bel HB.out) hx
      have hbq : (q : Int) < (n : Int) := by omega
      have hwq : IntKind.i64.wrap ((q : Int) + 1) = (q : Int) + 1 := IntWalk.i64_in _ (by have := H16.out; omega)
      have HX := Lib.hid hx
      clear hx
      by_cases h64 : 64 < x.2.size
      · have hd : decide (64 < (x.2.size : Int)) = true := decide_eq_true (by omega)
        have HR := Lib.hid (short_not HX.out h64)
        clear h64
        go_upto_region 9 with (fail)
        go_quiet (fail)
        go_wp2
        go_ret
        exact ⟨by rw [okI, HR.out]; simp, rstep HB4.out (bel_drewN HB.out _)⟩
      · have hd : decide (64 < (x.2.size : Int)) = false := decide_eq_false (by omega)
        have HR : Hid (shortB (items.take (q + 1)) = true) := by unfold Hid; rw [short_take HX.out, HV.out]; simp; omega
        clear h64
        by_cases hq0 : q = 0
        · have p0 : decide (0 < q) = false := decide_eq_false (by omega)
          have HQ0 := Lib.hid hq0
          clear hq0
          go_upto_region 9 with (fail)
          go_quiet (fail)
          go_wp2
          exact ⟨⟨q + 1, by omega, by go_num, bel_drewN HB.out _, by rw [HQ0.out]; exact rise_one items, HR.out⟩, by simp [intOf]; omega⟩
        · obtain ⟨i, hi⟩ : ∃ i, q = i + 1 := ⟨q - 1, by omega⟩
          obtain ⟨y, hy⟩ : ∃ y, items[i]? = some y := ⟨_, List.getElem?_eq_getElem (by have := HNN.out; omega)⟩
          obtain ⟨b2, o2, e2, y1, _, _⟩ := told_at (HT4.out.bel HB.out) hy
          simp only [Option.some.injEq, Addr.mk.injEq, and_true] at e2
          obtain ⟨rfl, rfl⟩ := e2
          have p0 : decide (0 < q) = true := decide_eq_true (by omega)
          have hw1 : IntKind.i64.wrap ((q : Int) - 1) = (i : Int) := by rw [show (q : Int) - 1 = i by omega]; exact IntWalk.i64_in _ (by have := H16.out; omega)
          have hb1 : (i : Int) < (n : Int) := by omega
          have HY := Lib.hid hy
          have HIQ := Lib.hid hi
          clear hy hi hq0
          by_cases hk : y.1 < x.1
          · have hd2 : decide (x.1 ≤ y.1) = false := by simp; omega
            have HK2 := Lib.hid hk
            clear hk
            go_upto_region 9 with (fail)
            go_quiet (fail)
            go_wp2
            exact ⟨⟨q + 1, by omega, by go_num, bel_drewN HB.out _, by have h1 := HX.out; have h2 := HS.out; rw [HIQ.out] at h1 h2 ⊢; exact rise_take HY.out h1 HK2.out h2, HR.out⟩, by simp [intOf]; omega⟩
          · have hd2 : decide (x.1 ≤ y.1) = true := by simp; omega
            have HRN : Hid (riseB items = false) := by have h1 := HX.out; rw [HIQ.out] at h1; exact rise_not HY.out h1 hk
            clear hk
            go_upto_region 9 with (fail)
            go_quiet (fail)
            go_wp2
            go_ret
            exact ⟨by rw [okI, HRN.out]; simp, rstep HB4.out (bel_drewN HB.out _)⟩
    · have HR : Hid (okI items = true) := by
        have h1 := rise_all HS.out (by have := HNN.out; omega)
        have h2 := HV.out
        rw [List.take_of_length_le (by have := HNN.out; omega)] at h2
        have h3 := H16.out
        have h4 := HNN.out
        unfold Hid okI
        rw [h1, h2, decide_eq_true (by omega)]; rfl
      go_wp2
      go_ret
      exact ⟨by rw [HR.out]; rfl, rstep HB4.out HB.out⟩

set_option maxHeartbeats 2000000 in
theorem refis_ok_false_20 (kind : Int) (items : List It) (nl : Int) (nb mark : Nat) (a : Option Addr) (n c : Nat) (w : World) (hn : n = items.length) (hk : 1 ≤ kind ∧ kind ≤ 5) (_h16 : n ≤ 16) (HE : eqL nl nb (-1) 0 = false) (HI : Gives Try.prog 52 #[.agg (labc nl nb)] (.bool true)) (hm : mark ≠ 0) (h5 : kind = 5) (hb : bareB kind = false) (hT : Told w (.slice a n c) items) :
    Calls Try.prog 16 #[.agg (recC ⟨kind, items, nl, nb, mark⟩ (.slice a n c))] w fun e w' => e = .returned (.bool (okI items)) ∧ Below w.heap.size w w' := by
  have HN := refnone_any
  have HBA := bare_any kind
  have d1 : decide (kind < 1) = false := decide_eq_false (by omega)
  have d5 : decide (5 < kind) = false := decide_eq_false (by omega)
  have g1 : ¬ kind < 1 := by omega
  have g5 : ¬ 5 < kind := by omega
  have HK := Lib.hid hk
  have HNN := Lib.hid hn
  clear hk hn
  have d16 : decide (16 < (n : Int)) = false := decide_eq_false (by omega)
  have H16 := Lib.hid _h16
  clear _h16
  have m0 : ((mark : Int) != 0) = true := by simp; omega
  have k5 : (kind != 5) = false := by simpa using h5
  clear hm h5
  rw [hb] at HBA
  clear hb
  have HT := Lib.hid hT
  clear hT
  go_enter Try.func16, Try.ntmps16
  simp only [recC]
  go_upto_region 1 with (fail)
  obtain ⟨A0, B0⟩ := rec_box w ⟨kind, items, nl, nb, mark⟩ (.slice a n c)
  simp only [recC] at A0 B0
  generalize w.alloc _ = W at *
  refine wp_region_quiet_below (by kernel_rfl) (by kernel_rfl) ?_
  repeat (first
    | go_big_quiet_skip
    | (go_big_quiet_want
       first
       | (first | refine q_midL _ rfl _ rfl ⟨kind, items, nl, nb, mark⟩ (.slice a n c) A0 ?_ | refine q_eqlL _ _ rfl nl nb (-1) 0 rfl rfl HE ?_
          simp only [Act.put, List.setIfInBounds_toArray, List.set_cons_succ, List.set_cons_zero]
          go_big_quiet_on)
       | (go_big_quiet_op
          first | go_big_quiet_on | go_big_quiet_call (first | with_reducible exact HN.grown _ _))))
  refine wpQuiet_nil ?_
  intro _ hw'
  have A1 := A0.below (quiet_fin hw') A0.lt
  have B1 := rstep B0 (quiet_fin hw')
  clear hw' A0 B0
  rename_i W2
  have c0 : W2.cell? ⟨w.heap.size, 0, none⟩ = some (.int .i64 kind) := A1.cell 0
  have c1 : W2.cell? ⟨w.heap.size, 1, none⟩ = some (.slice a n c) := A1.cell 1
  have c4 : W2.cell? ⟨w.heap.size, 4, none⟩ = some (.int .u64 (mark : Int)) := A1.cell 4
  go_upto_region 4 with (first
    | (go_guarded; refine o_midL _ rfl w.heap.size rfl ⟨kind, items, nl, nb, mark⟩ (.slice a n c) A1 ?_)
    | (go_at_call 52; (with_reducible refine (HI.calls _).mono ?_); rintro e W3 ⟨rfl, hb3⟩; have A3 := A1.below hb3 A1.lt; have B3 := rstep B1 hb3; have c0 : W3.cell? ⟨w.heap.size, 0, none⟩ = some (.int .i64 kind) := A3.cell 0; have c1 : W3.cell? ⟨w.heap.size, 1, none⟩ = some (.slice a n c) := A3.cell 1; have c4 : W3.cell? ⟨w.heap.size, 4, none⟩ = some (.int .u64 (mark : Int)) := A3.cell 4))
  go_upto_region 6 with (go_at_call 39; (with_reducible refine (HBA.calls _).mono ?_); rintro e W4 ⟨rfl, hb4⟩; have A4 := A3.below hb4 A3.lt; have B4 := rstep B3 hb4; have c1 : W4.cell? ⟨w.heap.size, 1, none⟩ = some (.slice a n c) := A4.cell 1)
  have HT4 := Lib.hid (HT.out.bel B4)
  have HB4 := Lib.hid B4
  have HA4 := Lib.hid A4
  clear B4 HT HI c0 c4 c1
  have c1 : W4.cell? ⟨w.heap.size, 1, none⟩ = some (.slice a n c) := A4.cell 1
  have c1q : ∀ d os, (grow (redrawn W4 d) os).cell? ⟨w.heap.size, 1, none⟩ = some (.slice a n c) := fun d os => A4.grown 1 d os
  clear A4 c1q
  go_wp2
  go_loopw [4] (fun i wr => ∃ q : Nat, q ≤ n ∧ i = .int .i64 (q : Int) ∧ Below W4.heap.size W4 wr ∧ Sorted (items.take q) ∧ shortB (items.take q) = true) (fun i _ => n - (intOf i).toNat)
  case atStart => exact ⟨0, by omega, rfl, Below.refl _ _, by simp [Sorted], rfl⟩
  case round =>
    obtain ⟨q, hq, rfl, hB, hS, hV⟩ := hrel
    have HB := Lib.hid hB
    have HS := Lib.hid hS
    have HV := Lib.hid hV
    clear hB hS hV c1
    have c1 : wr.cell? ⟨w.heap.size, 1, none⟩ = some (.slice a n c) := (HA4.out.below HB.out HA4.out.lt).cell 1
    by_cases hlt : q < n
    · obtain ⟨x, hx⟩ : ∃ x, items[q]? = some x := ⟨_, List.getElem?_eq_getElem (by have := HNN.out; omega)⟩
      obtain ⟨b1, o1, rfl, x1, x2, _⟩ := told_at (HT4.out.bel HB.out) hx
      have hbq : (q : Int) < (n : Int) := by omega
      have hwq : IntKind.i64.wrap ((q : Int) + 1) = (q : Int) + 1 := IntWalk.i64_in _ (by have := H16.out; omega)
      have HX := Lib.hid hx
      clear hx
      by_cases h64 : 64 < x.2.size
      · have hd : decide (64 < (x.2.size : Int)) = true := decide_eq_true (by omega)
        have HR := Lib.hid (short_not HX.out h64)
        clear h64
        go_upto_region 9 with (fail)
        go_quiet (fail)
        go_wp2
        go_ret
        exact ⟨by rw [okI, HR.out]; simp, rstep HB4.out (bel_drewN HB.out _)⟩
      · have hd : decide (64 < (x.2.size : Int)) = false := decide_eq_false (by omega)
        have HR : Hid (shortB (items.take (q + 1)) = true) := by unfold Hid; rw [short_take HX.out, HV.out]; simp; omega
        clear h64
        by_cases hq0 : q = 0
        · have p0 : decide (0 < q) = false := decide_eq_false (by omega)
          have HQ0 := Lib.hid hq0
          clear hq0
          go_upto_region 9 with (fail)
          go_quiet (fail)
          go_wp2
          exact ⟨⟨q + 1, by omega, by go_num, bel_drewN HB.out _, by rw [HQ0.out]; exact rise_one items, HR.out⟩, by simp [intOf]; omega⟩
        · obtain ⟨i, hi⟩ : ∃ i, q = i + 1 := ⟨q - 1, by omega⟩
          obtain ⟨y, hy⟩ : ∃ y, items[i]? = some y := ⟨_, List.getElem?_eq_getElem (by have := HNN.out; omega)⟩
          obtain ⟨b2, o2, e2, y1, _, _⟩ := told_at (HT4.out.bel HB.out) hy
          simp only [Option.some.injEq, Addr.mk.injEq, and_true] at e2
          obtain ⟨rfl, rfl⟩ := e2
          have p0 : decide (0 < q) = true := decide_eq_true (by omega)
          have hw1 : IntKind.i64.wrap ((q : Int) - 1) = (i : Int) := by rw [show (q : Int) - 1 = i by omega]; exact IntWalk.i64_in _ (by have := H16.out; omega)
          have hb1 : (i : Int) < (n : Int) := by omega
          have HY := Lib.hid hy
          have HIQ := Lib.hid hi
          clear hy hi hq0
          by_cases hk : y.1 < x.1
          · have hd2 : decide (x.1 ≤ y.1) = false := by simp; omega
            have HK2 := Lib.hid hk
            clear hk
            go_upto_region 9 with (fail)
            go_quiet (fail)
            go_wp2
            exact ⟨⟨q + 1, by omega, by go_num, bel_drewN HB.out _, by have h1 := HX.out; have h2 := HS.out; rw [HIQ.out] at h1 h2 ⊢; exact rise_take HY.out h1 HK2.out h2, HR.out⟩, by simp [intOf]; omega⟩
          · have hd2 : decide (x.1 ≤ y.1) = true := by simp; omega
            have HRN : Hid (riseB items = false) := by have h1 := HX.out; rw [HIQ.out] at h1; exact rise_not HY.out h1 hk
            clear hk
            go_upto_region 9 with (fail)
            go_quiet (fail)
            go_wp2
            go_ret
            exact ⟨by rw [okI, HRN.out]; simp, rstep HB4.out (bel_drewN HB.out _)⟩
    · have HR : Hid (okI items = true) := by
        have h1 := rise_all HS.out (by have := HNN.out; omega)
        have h2 := HV.out
        rw [List.take_of_length_le (by have := HNN.out; omega)] at h2
        have h3 := H16.out
        have h4 := HNN.out
        unfold Hid okI
        rw [h1, h2, decide_eq_true (by omega)]; rfl
      go_wp2
      go_ret
      exact ⟨by rw [HR.out]; rfl, rstep HB4.out HB.out⟩
end Go.Proofs.Ytkicndengkcojaa
