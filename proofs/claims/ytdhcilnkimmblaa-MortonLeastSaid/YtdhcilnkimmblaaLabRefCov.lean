/- The document's calls on labels: Bits, Of, Covers, Within. -/
import Derived.Test.YtdhcilnkimmblaaLabRefTell
namespace Go.Proofs.Ytdhcilnkimmblaa
open Go.RowKit Go.Sort

theorem refBitsL_any (n b : Nat) (w : World) (hn : n ≤ 64) (hb : b < 18446744073709551616) : Calls Try.prog 44 #[labv n b] w fun e w' => e = .returned (.string (txt (bitsN n b))) ∧ Below w.heap.size w w' := by
  have HB : Gives Try.prog 46 #[.int .u64 (b : Int)] (.string (txt (bitsN 64 b))) := fun w => calls_below (refBits_any b w hb)
  have hcut := bits_cut 64 b n (by omega) hn
  clear hb
  generalize txt (bitsN 64 b) = X at *
  generalize txt (bitsN n b) = Y at *
  rw [labv_eq]
  go_enter Try.func44, Try.ntmps44
  go_upto_region 1 with (fail)
  have A1 := Lib.hid (Blk.new w (labc n b) 36)
  have B1 : Hid (Below w.heap.size w (w.alloc (.cells (labc n b) 36))) := (Below.refl _ _).alloc (Nat.le_refl _) _
  generalize w.alloc (.cells (labc n b) 36) = W at *
  have c0 := A1.out.grown 0
  have c1 := A1.out.grown 1
  rw [show (labc (n : Int) b)[0]? = some (.int .i64 n) from rfl] at c0
  rw [show (labc (n : Int) b)[1]? = some (.int .u64 b) from rfl] at c1
  refine wp_region_quiet_below (by kernel_rfl) (by kernel_rfl) ?_
  repeat (first
    | go_big_quiet_skip
    | (go_big_quiet_want
       go_big_quiet_op
       first | go_big_quiet_on | go_big_quiet_call (first | with_reducible exact HB.grown _ _)))
  refine wpQuiet_nil ?_
  intro _ hw'
  obtain ⟨⟨dq, osq⟩, hw''⟩ := hw'
  subst hw''
  clear c0 c1 hcut
  go_wp2
  go_ret
  exact ⟨rfl, B1.out.trans ((below_regrown _ dq osq).mono B1.out.size)⟩

end Go.Proofs.Ytdhcilnkimmblaa
