/- What the document's reader reads: get, Get. -/
import Derived.Test.YtkicndengkcojaaRecRGet
import Derived.Test.YtkicndengkcojaaRecRefA
import Derived.Test.YtkicndengkcojaaRecGet4
namespace Go.Proofs.Ytkicndengkcojaa
set_option maxRecDepth 100000
open Go Go.RowKit Go.Sort

structure RNext (g : Nat) (b : List Nat) (w : World) (X : Except Nat ((Int × Nat) × Nat)) (e : Ending) (w' : World) : Prop where
  ok : ∀ n c q, X = .ok ((n, c), q) → e = .returned (.tuple #[.agg (labc n c), .int .i64 0]) ∧ Sr w' g (b.drop q)
  no : ∀ n : Nat, X = .error n → n ≠ 0 ∧ e = .returned (.tuple #[.agg (labc 0 0), .int .i64 (n : Int)])
  keep : Keep w w' g g
theorem rnext_no {g : Nat} {b : List Nat} {w w' : World} {X : Except Nat ((Int × Nat) × Nat)} {n : Nat} (hX : X = .error n) (hn : n ≠ 0) (hk : Keep w w' g g) : RNext g b w X (.returned (.tuple #[.agg (labc 0 0), .int .i64 (n : Int)])) w' :=
  ⟨fun a c q hx => (by rw [hX] at hx; cases hx), fun m hm => (by rw [hX] at hm; cases hm; exact ⟨hn, rfl⟩), hk⟩
theorem rnext_ok {g : Nat} {b : List Nat} {w w' : World} {X : Except Nat ((Int × Nat) × Nat)} {n : Int} {c q : Nat} (hX : X = .ok ((n, c), q)) (hs : Sr w' g (b.drop q)) (hk : Keep w w' g g) : RNext g b w X (.returned (.tuple #[.agg (labc n c), .int .i64 0])) w' :=
  ⟨fun n1 c1 q1 hx => (by
    rw [hX] at hx
    simp only [Except.ok.injEq, Prod.mk.injEq] at hx
    obtain ⟨⟨rfl, rfl⟩, rfl⟩ := hx
    exact ⟨rfl, hs⟩), fun m hm => (by rw [hX] at hm; cases hm), hk⟩
theorem refnone_open : Gives Try.prog 41 #[] (.agg #[.int .i64 (-1), .int .u64 0]) := refnone_any
set_option maxHeartbeats 2000000 in
theorem refnext_any {w : World} {g : Nat} {b : List Nat} {p : Nat} (k0 : Sr w g (b.drop p)) (hb : ∀ x ∈ b, x < 256) (hz : b.length ≤ 1000000) :
    Calls Try.prog 90 #[.pointer (some ⟨g, 0, none⟩)] w (RNext g b w (rdX b p)) := by
  have hg0 := k0.lt
  have Z0 := Blk.new w (labc 0 0) 25
  have B0 := (Below.refl w.heap.size w).alloc (Nat.le_refl _) (.cells (labc 0 0) 25)
  have S0 := k0.below B0
  have K0 := Lib.hid (Keep.of B0 g g)
  have HN := refnone_any
  clear k0
  cases hn : rdN b p with
  | error e =>
    have HX : Hid (rdX b p = .error e) := by unfold Hid rdX; rw [hn]
    obtain ⟨he, v, m, hC⟩ := rnum_no g hb hz hn
    have HC := Lib.hid (hC _ S0)
    have hd : ((e : Int) != 0) = true := by simp; omega
    have HE := Lib.hid he
    clear hn hC he S0
    generalize rdX b p = X at *
    go_enter Try.func90, Try.ntmps90
    go_upto_region 1 with (fail)
    rw [lab00]
    generalize w.alloc _ = W at *
    go_wp2_with (first
      | (go_at_call 88; (with_reducible refine HC.out.mono ?_); rintro e1 w1 ⟨rfl, hs1, hk1⟩; have Z1 := Z0.keep hk1 (by omega) (by omega))
      | (refine p_storeL rfl _ _ rfl w.heap.size rfl 0 0 rfl 0 0 Z1 ?_))
    exact bodyPost_ret (results_lab Try.results90 _ _ w.heap.size 0 0 _ rfl rfl (Z1.setRow _)) rfl (rnext_no HX.out HE.out ((K0.out.trans hk1).thenB (bel_setRow (Below.refl _ _) (Nat.le_refl _) _)))
  | ok r =>
    obtain ⟨n, p1⟩ := r
    have HC := Lib.hid (rnum_ok g hb hz hn _ S0)
    by_cases h1 : 1 < n
    · have HX : Hid (rdX b p = .error 3) := by unfold Hid rdX; rw [hn]; simp only; rw [if_neg (by omega), if_neg (by omega)]
      have hd : decide (1 < (n : Int)) = true := decide_eq_true (by omega)
      have hd2 : decide (1 < n) = true := decide_eq_true (by omega)
      clear hn S0 h1
      generalize rdX b p = X at *
      go_enter Try.func90, Try.ntmps90
      go_upto_region 1 with (fail)
      rw [lab00]
      generalize w.alloc _ = W at *
      go_wp2_with (first
        | (go_at_call 88; (with_reducible refine HC.out.mono ?_); rintro e1 w1 ⟨rfl, hs1, hk1⟩; have Z1 := Z0.keep hk1 (by omega) (by omega))
        | (refine p_storeL rfl _ _ rfl w.heap.size rfl 0 0 rfl 0 0 Z1 ?_))
      exact bodyPost_ret (results_lab Try.results90 _ _ w.heap.size 0 0 _ rfl rfl (Z1.setRow _)) rfl (rnext_no HX.out (by decide) ((K0.out.trans hk1).thenB (bel_setRow (Below.refl _ _) (Nat.le_refl _) _)))
    · have hd : decide (1 < (n : Int)) = false := decide_eq_false (by omega)
      have hd2 : decide (1 < n) = false := decide_eq_false (by omega)
      by_cases h0 : n = 0
      · have HX : Hid (rdX b p = .ok ((-1, 0), p1)) := by unfold Hid rdX; rw [hn]; simp only [if_pos h0]
        have t0 : ((n : Int) == 0) = true := by simp; omega
        clear hn S0 h0 h1
        generalize rdX b p = X at *
        go_enter Try.func90, Try.ntmps90
        go_upto_region 1 with (fail)
        rw [lab00]
        generalize w.alloc _ = W at *
        go_wp2_with (first
          | (go_at_call 88; (with_reducible refine HC.out.mono ?_); rintro e1 w1 ⟨rfl, hs1, hk1⟩; have Z1 := Z0.keep hk1 (by omega) (by omega))
          | (go_at_call 41; (with_reducible refine (HN.calls _).mono ?_); rintro e1 w2 ⟨rfl, hb2⟩; have Z2 := Z1.below hb2 Z1.lt)
          | (refine p_storeL rfl _ _ rfl w.heap.size rfl (-1) 0 rfl 0 0 Z2 ?_))
        exact bodyPost_ret (results_lab Try.results90 _ _ w.heap.size (-1) 0 _ rfl rfl (Z2.setRow _)) rfl (rnext_ok HX.out (Sr.belowB (hs1.below hb2) (bel_setRow (Below.refl w.heap.size _) (Nat.le_refl _) _) hg0) (((K0.out.trans hk1).trans (Keep.of hb2 g g)).thenB (bel_setRow (Below.refl _ _) (Nat.le_refl _) _)))
      · have hn1 : n = 1 := by omega
        have t0 : ((n : Int) == 0) = false := by simp; omega
        cases hn2 : rdL b p1 with
        | error e =>
          have HX : Hid (rdX b p = .error e) := by unfold Hid rdX; rw [hn]; simp [hn2, hn1]
          obtain ⟨he, hC⟩ := rlab_no g hb hz hn2
          have HC2 := Lib.hid hC
          have HE := Lib.hid he
          clear hn S0 h0 h1 hn1 hn2 hC he
          generalize rdX b p = X at *
          go_enter Try.func90, Try.ntmps90
          go_upto_region 1 with (fail)
          rw [lab00]
          generalize w.alloc _ = W at *
          go_upto_region 8 with (go_at_call 88; (with_reducible refine HC.out.mono ?_); rintro e1 w1 ⟨rfl, hs1, hk1⟩; have Z1 := Z0.keep hk1 (by omega) (by omega))
          have HC3 := Lib.hid (HC2.out _ hs1)
          clear hs1
          go_wp2_with (first
            | (go_at_call 109; (with_reducible refine HC3.out.mono ?_); rintro e1 w2 ⟨rfl, hs2, hk2⟩; have Z2 := Z1.keep hk2 (by omega) (by omega); have hsz2 := (Keep.size hk2); have hsz1 := (Keep.size hk1))
            | (refine p_storeL rfl _ _ rfl w2.heap.size rfl 0 0 rfl 0 0 (Blk.new _ _ _) ?_)
            | (refine p_loadL rfl _ rfl w2.heap.size rfl 0 0 ((Blk.new _ _ _).setRow _) ?_)
            | (refine p_storeL rfl _ _ rfl w.heap.size rfl 0 0 rfl 0 0 ((Z2.alloc _).setRow_other _ _ (by have := Z2.lt; omega)) ?_))
          exact bodyPost_ret (results_lab Try.results90 _ _ w.heap.size 0 0 _ rfl rfl ((((Z2.alloc _).setRow_other _ _ (by have := Z2.lt; omega))).setRow _)) rfl (rnext_no HX.out HE.out (((K0.out.trans hk1).trans hk2).thenB (bel_setRow (bel_setRow ((Below.refl w.heap.size w2).alloc (by have := Z2.lt; omega) _) (by have := Z2.lt; omega) _) (Nat.le_refl _) _)))
        | ok r =>
          obtain ⟨⟨a, c⟩, p2⟩ := r
          have HX : Hid (rdX b p = .ok (((a : Int), c), p2)) := by unfold Hid rdX; rw [hn]; simp [hn2, hn1]
          have HC2 := Lib.hid (rlab_ok g hb hz hn2)
          clear hn S0 h0 h1 hn1 hn2
          generalize rdX b p = X at *
          go_enter Try.func90, Try.ntmps90
          go_upto_region 1 with (fail)
          rw [lab00]
          generalize w.alloc _ = W at *
          go_upto_region 8 with (go_at_call 88; (with_reducible refine HC.out.mono ?_); rintro e1 w1 ⟨rfl, hs1, hk1⟩; have Z1 := Z0.keep hk1 (by omega) (by omega))
          have HC3 := Lib.hid (HC2.out _ hs1)
          clear hs1
          go_wp2_with (first
            | (go_at_call 109; (with_reducible refine HC3.out.mono ?_); rintro e1 w2 ⟨rfl, hs2, hk2⟩; have Z2 := Z1.keep hk2 (by omega) (by omega))
            | (refine p_storeL rfl _ _ rfl w2.heap.size rfl a c rfl 0 0 (Blk.new _ _ _) ?_)
            | (refine p_loadL rfl _ rfl w2.heap.size rfl a c ((Blk.new _ _ _).setRow _) ?_)
            | (refine p_storeL rfl _ _ rfl w.heap.size rfl a c rfl 0 0 ((Z2.alloc _).setRow_other _ _ (by have := Z2.lt; omega)) ?_))
          have hbb : Below w.heap.size w2 (((w2.alloc (.cells (labc 0 0) 25)).setRow w2.heap.size (labc a c)).setRow w.heap.size (labc a c)) := bel_setRow (bel_setRow ((Below.refl w.heap.size w2).alloc (by have := Z2.lt; omega) _) (by have := Z2.lt; omega) _) (Nat.le_refl _) _
          exact bodyPost_ret (results_lab Try.results90 _ _ w.heap.size a c _ rfl rfl ((((Z2.alloc _).setRow_other _ _ (by have := Z2.lt; omega))).setRow _)) rfl (rnext_ok HX.out (hs2.belowB hbb hg0) (((K0.out.trans hk1).trans hk2).thenB hbb))
end Go.Proofs.Ytkicndengkcojaa
