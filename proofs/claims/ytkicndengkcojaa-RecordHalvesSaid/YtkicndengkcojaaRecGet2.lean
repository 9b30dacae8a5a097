/- What bytes are read as: a record, whole. -/
import Derived.Test.YtkicndengkcojaaRecGet
import Derived.Test.YtkicndengkcojaaRecHalv
import Derived.Test.YtkicndengkcojaaRecWith3
namespace Go.Proofs.Ytkicndengkcojaa
set_option maxRecDepth 100000
open Go Go.RowKit Go.Sort

structure NextPost (w : World) (g h c : Nat) (s : ByteArray) (X : Except Nat ((Int × Nat) × Nat)) (e : Ending) (w' : World) : Prop where
  ok : ∀ n b q, X = .ok ((n, b), q) → e = .returned (.agg (labc n b)) ∧ Rd w' g h c s q
  no : ∀ n, X = .error n → e = Pan n
  keep : Keep w w' g g
theorem next_pan {w w' : World} {g h c : Nat} {s : ByteArray} {X : Except Nat ((Int × Nat) × Nat)} {n : Nat} (hX : X = .error n) (hk : Keep w w' g g) : NextPost w g h c s X (Pan n) w' :=
  ⟨fun a b q hx => (by rw [hX] at hx; cases hx), fun m hm => (by rw [hX] at hm; cases hm; rfl), hk⟩
theorem next_got {w w' : World} {g h c : Nat} {s : ByteArray} {X : Except Nat ((Int × Nat) × Nat)} {n : Int} {b q : Nat} (hX : X = .ok ((n, b), q)) (hr : Rd w' g h c s q) (hk : Keep w w' g g) : NextPost w g h c s X (.returned (.agg (labc n b))) w' :=
  ⟨fun n1 b1 q1 hx => (by
    rw [hX] at hx
    simp only [Except.ok.injEq, Prod.mk.injEq] at hx
    obtain ⟨⟨rfl, rfl⟩, rfl⟩ := hx
    exact ⟨rfl, hr⟩), fun m hm => (by rw [hX] at hm; cases hm), hk⟩
set_option maxHeartbeats 2000000 in
theorem getNext_any {w : World} {g h c : Nat} {s : ByteArray} {p : Nat} (k0 : Rd w g h c s p) (hs : s.size ≤ 1000000) :
    Calls Try.prog 87 #[.pointer (some ⟨g, 0, none⟩)] w (NextPost w g h c s (rdX (bytesN s) p)) := by
  have hg0 := k0.lt
  have hgh := k0.ne
  have Z0 := Blk.new w (labc 0 0) 25
  have B0 := (Below.refl w.heap.size w).alloc (Nat.le_refl _) (.cells (labc 0 0) 25)
  have k := k0.below B0
  have K0 := Lib.hid (Keep.of B0 g g)
  have HN := none_any
  clear k0
  cases hn : rdN (bytesN s) p with
  | error e =>
    have HX : Hid (rdX (bytesN s) p = .error e) := by unfold Hid rdX; rw [hn]
    obtain ⟨he, v, hC⟩ := num_no k hs hn
    have HC := Lib.hid hC
    have HM := Lib.hid (fun w => mustN_no v e he w)
    clear hn hC he k Z0 B0
    generalize rdX (bytesN s) p = X at *
    go_enter Try.func87, Try.ntmps87
    go_upto_region 1 with (fail)
    rw [lab00]
    generalize w.alloc _ = W at *
    go_wp2_with (first
      | (go_at_call 85; (with_reducible refine HC.out.mono ?_); rintro e1 w1 ⟨rfl, hk1⟩)
      | (go_at_call 84; (with_reducible refine (HM.out _).mono ?_); rintro e1 w2 ⟨he, rfl⟩; rw [pan_eq] at he; subst he))
    exact ⟨rfl, next_pan HX.out (K0.out.trans (by assumption))⟩
  | ok r =>
    obtain ⟨n, p1⟩ := r
    have HC := Lib.hid (num_ok k hs hn)
    have HM := Lib.hid (mustN_ok n)
    by_cases h0 : n = 0
    · have HX : Hid (rdX (bytesN s) p = .ok ((-1, 0), p1)) := by unfold Hid rdX; rw [hn]; simp only [if_pos h0]
      have t0 : ((n : Int) == 0) = true := by simp; omega
      clear hn k h0
      generalize rdX (bytesN s) p = X at *
      go_enter Try.func87, Try.ntmps87
      go_upto_region 1 with (fail)
      rw [lab00]
      generalize w.alloc _ = W at *
      go_upto_region 2 with (first
        | (go_at_call 85; (with_reducible refine HC.out.mono ?_); rintro e1 w1 ⟨rfl, hr1, hk1⟩)
        | (go_at_call 84; (with_reducible refine (HM.out _).mono ?_); rintro e1 w2 ⟨rfl, rfl⟩))
      have Z1 := Z0.keep hk1 (by omega) (by omega)
      have K1 := Lib.hid (K0.out.trans hk1)
      clear hk1
      go_wp2_with (first
        | (go_at_call 49; (with_reducible refine (HN.calls _).mono ?_); rintro e1 w2 ⟨rfl, hb2⟩; have Z2 := Z1.below hb2 Z1.lt)
        | (refine p_storeL rfl _ _ rfl w.heap.size rfl (-1) 0 rfl 0 0 Z2 ?_))
      exact bodyPost_ret (results_labP Try.results87 _ _ w.heap.size (-1) 0 rfl (Z2.setRow _)) rfl (next_got HX.out ((hr1.below hb2).row _ _ (by omega) (by omega)) (K1.out.thenB (bel_setRow (hb2.mono K1.out.size) (Nat.le_refl _) _)))
    · by_cases h1 : n = 1
      · have t0 : ((n : Int) == 0) = false := by simp; omega
        have t1 : ((n : Int) == 1) = true := by simp; omega
        cases hn2 : rdL (bytesN s) p1 with
        | error e =>
          have HX : Hid (rdX (bytesN s) p = .error e) := by unfold Hid rdX; rw [hn]; simp [hn2, h1]
          clear hn k h0 h1
          generalize rdX (bytesN s) p = X at *
          go_enter Try.func87, Try.ntmps87
          go_upto_region 1 with (fail)
          rw [lab00]
          generalize w.alloc _ = W at *
          go_upto_region 2 with (first
            | (go_at_call 85; (with_reducible refine HC.out.mono ?_); rintro e1 w1 ⟨rfl, hr1, hk1⟩)
            | (go_at_call 84; (with_reducible refine (HM.out _).mono ?_); rintro e1 w2 ⟨rfl, rfl⟩))
          have K1 := Lib.hid (K0.out.trans hk1)
          obtain ⟨he, a, b, hC⟩ := lab_no hr1 hs hn2
          have HC2 := Lib.hid hC
          have HM2 := Lib.hid (fun w => mustL_no a b e he w)
          clear hk1 hn2 hC he Z0 HC HM
          go_wp2_with (first
            | (go_at_call 106; (with_reducible refine HC2.out.mono ?_); rintro e1 w2 ⟨rfl, hk2⟩)
            | (go_at_call 66; (with_reducible refine (HM2.out _).mono ?_); rintro e1 w3 ⟨he, hb3⟩; rw [pan_eq] at he; subst he))
          exact ⟨rfl, next_pan HX.out ((K1.out.trans hk2).trans (Keep.of hb3 g g))⟩
        | ok r =>
          obtain ⟨⟨a, b⟩, p2⟩ := r
          have HX : Hid (rdX (bytesN s) p = .ok (((a : Int), b), p2)) := by unfold Hid rdX; rw [hn]; simp [hn2, h1]
          clear hn k h0 h1
          generalize rdX (bytesN s) p = X at *
          go_enter Try.func87, Try.ntmps87
          go_upto_region 1 with (fail)
          rw [lab00]
          generalize w.alloc _ = W at *
          go_upto_region 2 with (first
            | (go_at_call 85; (with_reducible refine HC.out.mono ?_); rintro e1 w1 ⟨rfl, hr1, hk1⟩)
            | (go_at_call 84; (with_reducible refine (HM.out _).mono ?_); rintro e1 w2 ⟨rfl, rfl⟩))
          have K1 := Lib.hid (K0.out.trans hk1)
          have Z1 := Z0.keep hk1 (by omega) (by omega)
          have HC2 := Lib.hid (lab_ok hr1 hs hn2)
          have HM2 := mustL_ok a b
          clear hk1 hn2 HC HM
          go_wp2_with (first
            | (go_at_call 106; (with_reducible refine HC2.out.mono ?_); rintro e1 w2 ⟨rfl, hr2, hk2⟩)
            | (go_at_call 66; (with_reducible refine (HM2.calls _).mono ?_); rintro e1 w3 ⟨rfl, hb3⟩; have Z3 := (Z1.keep hk2 (by omega) (by omega)).below hb3 (Z1.keep hk2 (by omega) (by omega)).lt)
            | (refine p_storeL rfl _ _ rfl w.heap.size rfl a b rfl 0 0 Z3 ?_))
          exact bodyPost_ret (results_labP Try.results87 _ _ w.heap.size a b rfl (Z3.setRow _)) rfl (next_got HX.out ((hr2.below hb3).row _ _ (by omega) (by omega)) ((K1.out.trans hk2).thenB (bel_setRow (hb3.mono (K1.out.trans hk2).size) (Nat.le_refl _) _)))
      · have HX : Hid (rdX (bytesN s) p = .error 3) := by unfold Hid rdX; rw [hn]; simp only [if_neg h0, if_neg h1]
        have t0 : ((n : Int) == 0) = false := by simp; omega
        have t1 : ((n : Int) == 1) = false := by simp; omega
        clear hn k h0 h1 Z0
        generalize rdX (bytesN s) p = X at *
        go_enter Try.func87, Try.ntmps87
        go_upto_region 1 with (fail)
        rw [lab00]
        generalize w.alloc _ = W at *
        go_wp2_with (first
          | (go_at_call 85; (with_reducible refine HC.out.mono ?_); rintro e1 w1 ⟨rfl, hr1, hk1⟩)
          | (go_at_call 84; (with_reducible refine (HM.out _).mono ?_); rintro e1 w2 ⟨rfl, rfl⟩))
        exact ⟨rfl, next_pan HX.out (K0.out.trans hk1)⟩
end Go.Proofs.Ytkicndengkcojaa
