/- The order by which peers are sorted, and what is compared; rotate. -/
import Derived.Test.YtkcljbolopephaaTabDat
namespace Go.Proofs.Ytkcljbolopephaa
set_option maxRecDepth 100000
open Go Go.RowKit Go.Sort

def cmpV (a b : Int) : Int := if a < b then -1 else if b < a then 1 else 0
theorem cmpV_lt (a b : Int) : decide (cmpV a b < 0) = decide (a < b) := by
  unfold cmpV
  split
  · rename_i h; simp [h]
  · rename_i h
    split <;> simp [h]
theorem isNaN_any (a : Int) (w : World) : Calls Try.prog 79 #[.int .i64 a] w fun e w' => e = .returned (.bool false) ∧ w = w' := by
  go_enter Try.func79, Try.ntmps79
  go_wp2
  go_ret
  simp
theorem compare_any (a b : Int) (w : World) : Calls Try.prog 64 #[.int .i64 a, .int .i64 b] w fun e w' => e = .returned (.int .i64 (cmpV a b)) ∧ w = w' := by
  have HN := Lib.hid isNaN_any
  unfold cmpV
  by_cases h1 : a < b
  · rw [if_pos h1]
    go_enter Try.func64, Try.ntmps64
    go_wp2_with (go_at_call 79; (with_reducible refine (HN.out _ _).mono ?_); rintro e w1 ⟨rfl, rfl⟩)
    go_ret
    exact ⟨rfl, rfl⟩
  · rw [if_neg h1]
    by_cases h2 : b < a
    · rw [if_pos h2]
      go_enter Try.func64, Try.ntmps64
      go_wp2_with (go_at_call 79; (with_reducible refine (HN.out _ _).mono ?_); rintro e w1 ⟨rfl, rfl⟩)
      go_ret
      exact ⟨rfl, rfl⟩
    · rw [if_neg h2]
      go_enter Try.func64, Try.ntmps64
      go_wp2_with (go_at_call 79; (with_reducible refine (HN.out _ _).mono ?_); rintro e w1 ⟨rfl, rfl⟩)
      go_ret
      exact ⟨rfl, rfl⟩
/-- the function that the sort is handed -/
abbrev cmpF : Value := .func (.func 63) #[] #[]
theorem cmp_any (x y : Pe) (w : World) : Calls Try.prog 63 #[.agg (peA x), .agg (peA y)] w fun e w' => e = .returned (.int .i64 (cmpV x.1 y.1)) ∧ Below w.heap.size w w' := by
  have B0 := ((Below.refl w.heap.size w).alloc (Nat.le_refl _) (.cells (peA x) 25)).alloc (by simp) (.cells (peA y) 25)
  have c0 : ((w.alloc (.cells (peA x) 25)).alloc (.cells (peA y) 25)).cell? ⟨w.heap.size, 0, none⟩ = some (.int .i64 x.1) := ((Blk.new w (peA x) 25).alloc _).cell 0
  have c1 : ((w.alloc (.cells (peA x) 25)).alloc (.cells (peA y) 25)).cell? ⟨w.heap.size + 1, 0, none⟩ = some (.int .i64 y.1) := by
    have := (Blk.new (w.alloc (.cells (peA x) 25)) (peA y) 25).cell 0
    rwa [World.size_alloc] at this
  have HC := Lib.hid (compare_any x.1 y.1)
  have HB := Lib.hid B0
  clear B0
  go_enter Try.func63, Try.ntmps63
  go_upto_region 1 with (fail)
  generalize (w.alloc _).alloc _ = W at *
  generalize peA x = X at *
  generalize peA y = Y at *
  go_wp2_with (go_at_call 64; (with_reducible refine (HC.out _).mono ?_); rintro e w1 ⟨rfl, rfl⟩)
  go_ret
  exact ⟨rfl, HB.out⟩
theorem cmp_gives (x y : Pe) : Gives Try.prog 63 #[.agg (peA x), .agg (peA y)] (.int .i64 (cmpV x.1 y.1)) := cmp_any x y
theorem eq_any (x y : Pe) (w : World) : Calls Try.prog 66 #[.agg (peA x), .agg (peA y)] w fun e w' => e = .returned (.bool (x.1 == y.1)) ∧ Below w.heap.size w w' := by
  have B0 := ((Below.refl w.heap.size w).alloc (Nat.le_refl _) (.cells (peA x) 25)).alloc (by simp) (.cells (peA y) 25)
  have c0 : ((w.alloc (.cells (peA x) 25)).alloc (.cells (peA y) 25)).cell? ⟨w.heap.size, 0, none⟩ = some (.int .i64 x.1) := ((Blk.new w (peA x) 25).alloc _).cell 0
  have c1 : ((w.alloc (.cells (peA x) 25)).alloc (.cells (peA y) 25)).cell? ⟨w.heap.size + 1, 0, none⟩ = some (.int .i64 y.1) := by
    have := (Blk.new (w.alloc (.cells (peA x) 25)) (peA y) 25).cell 0
    rwa [World.size_alloc] at this
  have HB := Lib.hid B0
  clear B0
  go_enter Try.func66, Try.ntmps66
  go_upto_region 1 with (fail)
  generalize (w.alloc _).alloc _ = W at *
  generalize peA x = X at *
  generalize peA y = Y at *
  go_wp2
  go_ret
  exact ⟨rfl, HB.out⟩
theorem eq_gives (x y : Pe) : Gives Try.prog 66 #[.agg (peA x), .agg (peA y)] (.bool (x.1 == y.1)) := eq_any x y

set_option maxHeartbeats 2000000 in
theorem rotate_any {w : World} {b o c n : Nat} {f : Nat → Pe} {v : Value} (h : Dat w b o f n) (a m e : Nat) (hn : n ≤ 1000) (ha : a < m) (hm : m < e) (he : e ≤ n) :
    Calls Try.prog 85 #[.slice (some ⟨b, o, none⟩) n c, .int .i64 (a : Int), .int .i64 (m : Int), .int .i64 (e : Int), v] w (Does w b o n (rot f a m e)) := by
  have H := Lib.hid h
  clear h
  have w1 : IntKind.i64.wrap ((m : Int) - (a : Int)) = ((m - a : Nat) : Int) := by rw [← Int.ofNat_sub (by omega)]; exact IntWalk.i64_in _ (by omega)
  have w2 : IntKind.i64.wrap ((e : Int) - (m : Int)) = ((e - m : Nat) : Int) := by rw [← Int.ofNat_sub (by omega)]; exact IntWalk.i64_in _ (by omega)
  have hr : rot f (m - (m - a)) m (m + (e - m)) = rot f a m e := by rw [show m - (m - a) = a by omega, show m + (e - m) = e by omega]
  generalize hi0 : m - a = i0 at *
  generalize hj0 : e - m = j0 at *
  rw [← hr]
  have p0 : 0 < i0 ∧ 0 < j0 ∧ i0 ≤ m ∧ m + j0 ≤ n := by omega
  clear hr hi0 hj0
  have HP := Lib.hid p0
  clear p0 ha hm he
  go_enter Try.func85, Try.ntmps85
  go_wp2
  clear w1 w2
  go_loopw [10, 11] (fun x y wr => ∃ (i j : Nat) (g : Nat → Pe), x = .int .i64 (i : Int) ∧ y = .int .i64 (j : Int) ∧ 0 < i ∧ 0 < j ∧ i ≤ m ∧ m + j ≤ n ∧ Dat wr b o g n ∧ rot g (m - i) m (m + j) = rot f (m - i0) m (m + j0) ∧ w.grownBy wr (some b)) (fun x y _ => (intOf x).toNat + (intOf y).toNat)
  case atStart => exact ⟨i0, j0, f, rfl, rfl, HP.out.1, HP.out.2.1, HP.out.2.2.1, HP.out.2.2.2, H.out, rfl, World.grownBy.refl _ _⟩
  case round =>
    obtain ⟨i, j, g, rfl, rfl, hi, hj, him, hjn, hD, hR, hG⟩ := hrel
    have HR := Lib.hid hR
    clear hR
    have w1 : IntKind.i64.wrap ((m : Int) - (i : Int)) = ((m - i : Nat) : Int) := by rw [← Int.ofNat_sub him]; exact IntWalk.i64_in _ (by omega)
    rcases Nat.lt_trichotomy i j with hlt | rfl | hgt
    · have w2 : IntKind.i64.wrap ((j : Int) - (i : Int)) = ((j - i : Nat) : Int) := by rw [← Int.ofNat_sub (Nat.le_of_lt hlt)]; exact IntWalk.i64_in _ (by omega)
      have w3 : IntKind.i64.wrap (IntKind.i64.wrap ((m : Int) + (j : Int)) - (i : Int)) = ((m + j - i : Nat) : Int) := by rw [sum_in m j (by omega), ← Int.ofNat_sub (by omega)]; exact IntWalk.i64_in _ (by omega)
      have w4 : IntKind.i64.wrap ((m : Int) + (j : Int) - (i : Int)) = ((m + j - i : Nat) : Int) := by rw [← Int.natCast_add, ← Int.ofNat_sub (by omega)]; exact IntWalk.i64_in _ (by omega)
      have d1 : ((i : Int) == (j : Int)) = false := by simp; omega
      have d2 : decide ((j : Int) < (i : Int)) = false := decide_eq_false (by omega)
      have HS := Lib.hid (swapRange_any (v := v) (c := c) hD (m - i) (m + j - i) i hn (by omega) (by omega))
      have HL := Lib.hid (rot_less g him hlt)
      have hz1 : 0 < j - i := by omega
      have hz2 : m + (j - i) ≤ n := by omega
      have hz3 : (i : Int) + ((j - i : Nat) : Int) < (i : Int) + (j : Int) := by omega
      generalize hx1 : m - i = x1 at *
      generalize hx2 : m + j - i = x2 at *
      generalize hx3 : j - i = x3 at *
      go_wp2_with (go_at_call 86; (with_reducible refine HS.out.mono ?_); rintro e w5 ⟨rfl, hD5, hG5⟩)
      refine ⟨⟨i, x3, _, rfl, rfl, hi, hz1, him, hz2, hD5, ?_, grownBy_trans hG hG5⟩, by simp [intOf]; omega⟩
      rw [← HR.out, ← HL.out, hx1]
    · have d1 : ((i : Int) == (i : Int)) = true := by simp
      have HS := Lib.hid (swapRange_any (v := v) (c := c) hD (m - i) m i hn (by omega) (by omega))
      have HL := Lib.hid (rot_same g him)
      generalize hx1 : m - i = x1 at *
      go_wp2_with (go_at_call 86; (with_reducible refine HS.out.mono ?_); rintro e w5 ⟨rfl, hD5, hG5⟩)
      refine bodyPost_end (results_none rfl _ _ _) rfl ⟨rfl, ?_, grownBy_trans hG hG5⟩
      rw [← HR.out, ← HL.out]
      exact hD5
    · have w2 : IntKind.i64.wrap ((i : Int) - (j : Int)) = ((i - j : Nat) : Int) := by rw [← Int.ofNat_sub (Nat.le_of_lt hgt)]; exact IntWalk.i64_in _ (by omega)
      have d1 : ((i : Int) == (j : Int)) = false := by simp; omega
      have d2 : decide ((j : Int) < (i : Int)) = true := decide_eq_true (by omega)
      have HS := Lib.hid (swapRange_any (v := v) (c := c) hD (m - i) m j hn (by omega) (by omega))
      have HL := Lib.hid (rot_more g him hgt)
      have hz1 : 0 < i - j := by omega
      have hz2 : i - j ≤ m := by omega
      have hz3 : ((i - j : Nat) : Int) + (j : Int) < (i : Int) + (j : Int) := by omega
      generalize hx1 : m - i = x1 at *
      generalize hx3 : i - j = x3 at *
      go_wp2_with (go_at_call 86; (with_reducible refine HS.out.mono ?_); rintro e w5 ⟨rfl, hD5, hG5⟩)
      refine ⟨⟨x3, j, _, rfl, rfl, hz1, hj, hz2, hjn, hD5, ?_, grownBy_trans hG hG5⟩, by simp [intOf]; omega⟩
      rw [← HR.out, ← HL.out]
end Go.Proofs.Ytkcljbolopephaa
