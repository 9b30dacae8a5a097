/- The program's calls on labels: Covers, Within, Child, Parent, Span, Next. -/
import Derived.Test.YtdhcilnkimmblaaLabOps
import Derived.Test.YtdhcilnkimmblaaQRow
import Derived.Deep.Cut
namespace Go.Proofs.Ytdhcilnkimmblaa
open Go.RowKit Go.Sort

theorem infoLab : (Try.prog.info? 36).map (·.size) = some 2 := by kernel_rfl
/-- the cells of a label -/
def labc (n : Int) (b : Nat) : Array Value := #[.int .i64 n, .int .u64 (b : Int)]
theorem labv_eq (n : Int) (b : Nat) : labv n b = .agg (labc n b) := rfl

def coversB (n : Int) (b key : Nat) : Bool := isB n b && decide (cutN n.toNat key = b)
def withinB (n : Int) (b : Nat) (m : Int) (c : Nat) : Bool := isB n b && decide (m ≤ n) && coversB m c b

theorem covers_no (n : Int) (b key : Nat) (w : World) (h1 : -9223372036854775808 ≤ n) (h2 : n ≤ 9223372036854775807) (hb : b < 18446744073709551616) (hi : isB n b = false) : Calls Try.prog 27 #[labv n b, .int .u64 (key : Int)] w fun e w' => e = .returned (.bool false) ∧ Below w.heap.size w w' := by
  have HI : Gives Try.prog 26 #[.agg (labc n b)] (.bool false) := fun w => hi ▸ isL_any n b w h1 h2 hb
  clear hi hb
  rw [labv_eq]
  go_enter Try.func27, Try.ntmps27
  go_upto_region 1 with (fail)
  have A1 := Lib.hid (Blk.new w (labc n b) 36)
  have B1 : Hid (Below w.heap.size w (w.alloc (.cells (labc n b) 36))) := (Below.refl _ _).alloc (Nat.le_refl _) _
  generalize w.alloc (.cells (labc n b) 36) = W at *
  refine wp_region_quiet_below (by kernel_rfl) (by kernel_rfl) ?_
  repeat (first
    | go_big_quiet_skip
    | (go_big_quiet_want
       first
       | (refine q_row 36 _ rfl w.heap.size rfl (labc n b) 36 _ A1.out Try.underlying36 rfl infoLab ?_
          simp only [Act.put, List.setIfInBounds_toArray, List.set_cons_succ, List.set_cons_zero]
          go_big_quiet_on)
       | (go_big_quiet_op
          first | go_big_quiet_on | go_big_quiet_call (first | with_reducible exact HI.grown _ _))))
  refine wpQuiet_nil ?_
  intro _ hw'
  obtain ⟨⟨dq, osq⟩, hw''⟩ := hw'
  subst hw''
  go_wp2
  go_ret
  exact ⟨rfl, B1.out.trans ((below_regrown _ dq osq).mono B1.out.size)⟩

theorem covers_yes (n b key : Nat) (w : World) (hn : n ≤ 64) (hb : b < 18446744073709551616) (hk : key < 18446744073709551616) (hi : lowB n b = true) : Calls Try.prog 27 #[labv n b, .int .u64 (key : Int)] w fun e w' => e = .returned (.bool (decide (cutN n key = b))) ∧ Below w.heap.size w w' := by
  have HI : Gives Try.prog 26 #[.agg (labc n b)] (.bool true) := fun w => hi ▸ isL_yes n b w hn hb
  have HB : Gives Try.prog 38 #[.int .i64 n] (.int .u64 ((gap n - 1 : Nat) : Int)) := fun w => calls_below (behind_any n w hn)
  have hg := gap_le n
  have hand : Hid (bits .andNot .u64 (key : Int) ((gap n - 1 : Nat) : Int) = ((cutN n key : Nat) : Int)) := by
    unfold Hid; rw [u64_andNot_nat key (gap n - 1) hk (by omega), andNot_low n key hk]
  have hv : Hid ((((cutN n key : Nat) : Int) == (b : Int)) = decide (cutN n key = b)) := by
    unfold Hid; rw [Bool.eq_iff_iff]; simp; omega
  clear hi hb hg hk
  rw [labv_eq]
  go_enter Try.func27, Try.ntmps27
  go_upto_region 1 with (fail)
  have A1 := Lib.hid (Blk.new w (labc n b) 36)
  have c0 := (Blk.new w (labc n b) 36).grown 0
  have c1 := (Blk.new w (labc n b) 36).grown 1
  rw [show (labc (n : Int) b)[0]? = some (.int .i64 n) from rfl] at c0
  rw [show (labc (n : Int) b)[1]? = some (.int .u64 b) from rfl] at c1
  have B1 : Hid (Below w.heap.size w (w.alloc (.cells (labc n b) 36))) := (Below.refl _ _).alloc (Nat.le_refl _) _
  generalize w.alloc (.cells (labc n b) 36) = W at *
  refine wp_region_quiet_below (by kernel_rfl) (by kernel_rfl) ?_
  repeat (first
    | go_big_quiet_skip
    | (go_big_quiet_want
       first
       | (refine q_row 36 _ rfl w.heap.size rfl (labc n b) 36 _ A1.out Try.underlying36 rfl infoLab ?_
          simp only [Act.put, List.setIfInBounds_toArray, List.set_cons_succ, List.set_cons_zero]
          go_big_quiet_on)
       | (go_big_quiet_op
          first | go_big_quiet_on | go_big_quiet_call (first | with_reducible exact HI.grown _ _ | with_reducible exact HB.grown _ _))))
  refine wpQuiet_nil ?_
  intro _ hw'
  obtain ⟨⟨dq, osq⟩, hw''⟩ := hw'
  subst hw''
  clear c0 c1
  go_wp2
  go_ret
  refine ⟨ret_bool ?_, B1.out.trans ((below_regrown _ dq osq).mono B1.out.size)⟩
  rw [← hv.out, ← hand.out]

theorem covers_any (n : Int) (b key : Nat) (w : World) (h1 : -9223372036854775808 ≤ n) (h2 : n ≤ 9223372036854775807) (hb : b < 18446744073709551616) (hk : key < 18446744073709551616) : Calls Try.prog 27 #[labv n b, .int .u64 (key : Int)] w fun e w' => e = .returned (.bool (coversB n b key)) ∧ Below w.heap.size w w' := by
  cases hi : isB n b
  · rw [show coversB n b key = false by unfold coversB; rw [hi]; rfl]
    exact covers_no n b key w h1 h2 hb hi
  · have hl : lenB n = true := by unfold isB at hi; revert hi; cases lenB n <;> simp
    have hn := lenB_iff.1 hl
    obtain ⟨m, rfl⟩ := Int.eq_ofNat_of_zero_le hn.1
    rw [show coversB (m : Int) b key = decide (cutN m key = b) by unfold coversB; rw [hi]; rfl]
    exact covers_yes m b key w (by omega) hb hk (by unfold isB at hi; rw [hl] at hi; exact hi)

theorem lab0 {w : World} {g : Nat} {n : Int} {b : Nat} {t : TypeId} (h : Blk w g (labc n b) t) : w.cell? ⟨g, 0, none⟩ = some (.int .i64 n) := h.cell 0
theorem lab1 {w : World} {g : Nat} {n : Int} {b : Nat} {t : TypeId} (h : Blk w g (labc n b) t) : w.cell? ⟨g, 1, none⟩ = some (.int .u64 (b : Int)) := h.cell 1

theorem isB_len {n : Int} {b : Nat} (h : isB n b = true) : 0 ≤ n ∧ n ≤ 64 := by
  refine lenB_iff.1 ?_
  unfold isB at h; revert h; cases lenB n <;> simp
theorem isB_low {n b : Nat} (h : isB (n : Int) b = true) : lowB n b = true := by
  unfold isB at h; revert h; cases lenB n <;> simp
theorem isB_mk {n b : Nat} (hn : n ≤ 64) (h : lowB n b = true) : isB (n : Int) b = true := by
  unfold isB; rw [lenB_yes (by omega)]; simpa using h

end Go.Proofs.Ytdhcilnkimmblaa
