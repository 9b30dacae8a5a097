/- The program's calls on labels: Span, Next, the closure of bits, Sibling. -/
import Derived.Test.YtdhcilnkimmblaaLabKin
import Derived.Test.YtdhcilnkimmblaaLabBits
namespace Go.Proofs.Ytdhcilnkimmblaa
open Go.RowKit Go.Sort

theorem span_no (n : Int) (b : Nat) (w : World) (h1 : -9223372036854775808 ≤ n) (h2 : n ≤ 9223372036854775807) (hb : b < 18446744073709551616) (hi : isB n b = false) :
    Calls Try.prog 35 #[labv n b] w fun e w' => e = .returned (.tuple #[.int .u64 0, .int .u64 0, .int .i64 1]) ∧ Below w.heap.size w w' := by
  have HI : Gives Try.prog 26 #[.agg (labc n b)] (.bool false) := fun w => hi ▸ isL_any n b w h1 h2 hb
  clear hi hb
  rw [labv_eq]
  go_enter Try.func35, Try.ntmps35
  go_upto_region 1 with (fail)
  have A1 := Lib.hid (Blk.new w (labc n b) 36)
  have B1 : Hid (Below w.heap.size w (w.alloc (.cells (labc n b) 36))) := (Below.refl _ _).alloc (Nat.le_refl _) _
  generalize w.alloc (.cells (labc n b) 36) = W at *
  go_wp2_with (first | (refine p_loadL rfl _ rfl _ rfl n b A1.out ?_) | (go_at_call 26; (with_reducible refine (HI.calls _).mono ?_); rintro e w' ⟨rfl, hb⟩))
  go_ret3
  exact ⟨rfl, B1.out.trans (hb.mono B1.out.size)⟩
theorem span_yes (n : Nat) (b : Nat) (w : World) (hn : n ≤ 64) (hb : b < 18446744073709551616) (hi : lowB n b = true) :
    Calls Try.prog 35 #[labv n b] w fun e w' => e = .returned (.tuple #[.int .u64 (b : Int), .int .u64 ((b + (gap n - 1) : Nat) : Int), .int .i64 0]) ∧ Below w.heap.size w w' := by
  have HI : Gives Try.prog 26 #[.agg (labc n b)] (.bool true) := fun w => hi ▸ isL_yes n b w hn hb
  have HB : Gives Try.prog 38 #[.int .i64 n] (.int .u64 ((gap n - 1 : Nat) : Int)) := fun w => calls_below (behind_any n w hn)
  have hg := gap_le n
  have hor : Hid (bits .or .u64 (b : Int) ((gap n - 1 : Nat) : Int) = ((b + (gap n - 1) : Nat) : Int)) := by
    unfold Hid; rw [u64_or_nat b (gap n - 1) hb (by omega), or_low n b (lowB_iff.1 hi)]
  clear hi hb hg
  rw [labv_eq]
  go_enter Try.func35, Try.ntmps35
  go_upto_region 1 with (fail)
  have A1 := Lib.hid (Blk.new w (labc n b) 36)
  have B1 : Hid (Below w.heap.size w (w.alloc (.cells (labc n b) 36))) := (Below.refl _ _).alloc (Nat.le_refl _) _
  generalize w.alloc (.cells (labc n b) 36) = W at *
  go_upto_region 3 with (first | (refine p_loadL rfl _ rfl _ rfl n b A1.out ?_) | (go_at_call 26; (with_reducible refine (HI.calls _).mono ?_); rintro e w1 ⟨rfl, hb⟩))
  replace A1 := A1.out.below hb A1.out.lt
  replace B1 := B1.out.trans (hb.mono B1.out.size)
  have c0 := A1.grown 0
  have c1 := A1.grown 1
  rw [show (labc (n : Int) b)[0]? = some (.int .i64 n) from rfl] at c0
  rw [show (labc (n : Int) b)[1]? = some (.int .u64 b) from rfl] at c1
  clear hb A1 W
  have HB1 := Lib.hid B1
  clear B1
  refine wp_region_quiet_below (by kernel_rfl) (by kernel_rfl) ?_
  repeat (first
    | go_big_quiet_skip
    | (go_big_quiet_want
       go_big_quiet_op
       first | go_big_quiet_on | go_big_quiet_call (first | with_reducible exact HB.grown _ _)))
  refine wpQuiet_nil ?_
  intro _ hw'
  obtain ⟨⟨dq, osq⟩, hw''⟩ := hw'
  subst hw''
  clear c0 c1
  rw [hor.out]
  go_wp2
  go_ret3
  exact ⟨rfl, HB1.out.trans ((below_regrown _ dq osq).mono HB1.out.size)⟩

theorem bit_int (b i : Nat) (hb : b < 18446744073709551616) : bits .and .u64 ((b : Int) / 2 ^ (63 - i)) 1 = ((bitAt b i : Nat) : Int) := by
  rw [show (b : Int) / 2 ^ (63 - i) = ((b / 2 ^ (63 - i) : Nat) : Int) by rw [Int.natCast_ediv, Int.natCast_pow]; rfl, show (1 : Int) = ((1 : Nat) : Int) from rfl, u64_and_nat _ 1 (Nat.lt_of_le_of_lt (Nat.div_le_self _ _) hb) (by omega), Nat.and_one_is_mod]
  rfl
end Go.Proofs.Ytdhcilnkimmblaa
