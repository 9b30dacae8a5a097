/- The program's call Least. -/
import Derived.Test.YtdhcilnkimmblaaMorBox
import Derived.Test.YtdhcilnkimmblaaMorStep
import Derived.WalkMore
namespace Go.Proofs.Ytdhcilnkimmblaa
open Go.RowKit Go.Sort

theorem pow_int (k : Nat) (hk : k < 64) : IntKind.u64.wrap (2 ^ k) = ((2 ^ k : Nat) : Int) := by
  have h := two_lt hk
  rw [show (2 : Int) ^ k = ((2 ^ k : Nat) : Int) by rw [Int.natCast_pow]; rfl]
  generalize 2 ^ k = B at *
  rw [IntKind.wrap_u64]; omega
theorem and_one_pow (z k : Nat) : z &&& 2 ^ k = if z.testBit k then 2 ^ k else 0 := by
  apply Nat.eq_of_testBit_eq
  intro j
  rw [Nat.testBit_and, Nat.testBit_two_pow]
  by_cases h : k = j
  · subst h; cases hz : z.testBit k <;> simp
  · rw [decide_eq_false h, Bool.and_false]
    split
    · rw [Nat.testBit_two_pow, decide_eq_false h]
    · rw [Nat.zero_testBit]
theorem and_pow (z k : Nat) (hz : z < 18446744073709551616) (hk : k < 64) : bits .and .u64 (z : Int) ((2 ^ k : Nat) : Int) = ((z / 2 ^ k % 2 * 2 ^ k : Nat) : Int) := by
  rw [u64_and_nat z _ hz (two_lt hk), and_one_pow, bit_eq]
  cases z.testBit k <;> simp
theorem xmask_pow (k : Nat) : 2 ^ k &&& 6148914691236517205 = if k < 64 ∧ k % 2 = 0 then 2 ^ k else 0 := by
  rw [Nat.and_comm, and_one_pow, xmask_bit]
  simp
theorem below_any (k : Nat) (hk : k < 64) (w : World) : Calls Try.prog 39 #[.int .u64 ((2 ^ k : Nat) : Int)] w fun e w' => e = .returned (.int .u64 ((belowN k : Nat) : Int)) ∧ w = w' := by
  have hp : 0 < 2 ^ k := Nat.pow_pos (by omega)
  have hl := two_lt hk
  have hm := u64_and_nat (2 ^ k) 6148914691236517205 hl (by omega)
  rw [xmask_pow, show ((6148914691236517205 : Nat) : Int) = 6148914691236517205 from rfl] at hm
  have hs : IntKind.u64.wrap (((2 ^ k : Nat) : Int) - 1) = ((2 ^ k - 1 : Nat) : Int) := by rw [IntKind.wrap_u64]; omega
  unfold belowN
  by_cases h : k % 2 = 0
  · rw [if_pos ⟨hk, h⟩] at hm
    rw [if_pos h]
    have hv := Lib.hid (u64_and_nat (2 ^ k - 1) 6148914691236517205 (by omega) (by omega))
    generalize 2 ^ k - 1 &&& 6148914691236517205 = v at *
    generalize 2 ^ k - 1 = q at *
    generalize 2 ^ k = B at *
    have hne : (((B : Nat) : Int) != 0) = true := by rw [bne_iff_ne]; omega
    go_enter Try.func39, Try.ntmps39
    go_wp2
    go_ret
    exact ⟨ret_u64' hv.out, rfl⟩
  · rw [if_neg (fun x => h x.2)] at hm
    rw [if_neg h]
    have hv := Lib.hid (u64_and_nat (2 ^ k - 1) 12297829382473034410 (by omega) (by omega))
    generalize 2 ^ k - 1 &&& 12297829382473034410 = v at *
    generalize 2 ^ k - 1 = q at *
    generalize 2 ^ k = B at *
    rw [show ((0 : Nat) : Int) = 0 from rfl] at hm
    go_enter Try.func39, Try.ntmps39
    go_wp2
    go_ret
    exact ⟨ret_u64' hv.out, rfl⟩
theorem upperStart_any (lo k : Nat) (hlo : lo < 18446744073709551616) (hk : k < 64) (w : World) : Calls Try.prog 30 #[.int .u64 (lo : Int), .int .u64 ((2 ^ k : Nat) : Int)] w fun e w' => e = .returned (.int .u64 ((upN lo k : Nat) : Int)) ∧ w = w' := by
  have HB := fun w => below_any k hk w
  have hv : Hid (bits .or .u64 (bits .andNot .u64 (lo : Int) ((belowN k : Nat) : Int)) ((2 ^ k : Nat) : Int) = ((upN lo k : Nat) : Int)) := by
    unfold Hid upN
    rw [u64_andNot_nat lo _ hlo (belowN_lt k), u64_or_nat _ _ (Nat.lt_of_le_of_lt Nat.and_le_left hlo) (two_lt hk)]
  generalize upN lo k = v at *
  generalize belowN k = m at *
  generalize 2 ^ k = B at *
  clear hlo
  go_enter Try.func30, Try.ntmps30
  go_wp2_with (go_at_call 39; (with_reducible refine (HB _).mono ?_); rintro e w' ⟨rfl, rfl⟩)
  go_ret
  exact ⟨ret_u64' hv.out, rfl⟩
theorem lowerEnd_any (hi k : Nat) (hhi : hi < 18446744073709551616) (hk : k < 64) (w : World) : Calls Try.prog 31 #[.int .u64 (hi : Int), .int .u64 ((2 ^ k : Nat) : Int)] w fun e w' => e = .returned (.int .u64 ((lwN hi k : Nat) : Int)) ∧ w = w' := by
  have HB := fun w => below_any k hk w
  have hv : Hid (bits .or .u64 (bits .andNot .u64 (hi : Int) ((2 ^ k : Nat) : Int)) ((belowN k : Nat) : Int) = ((lwN hi k : Nat) : Int)) := by
    unfold Hid lwN
    rw [u64_andNot_nat hi _ hhi (two_lt hk), u64_or_nat _ _ (Nat.lt_of_le_of_lt Nat.and_le_left hhi) (belowN_lt k)]
  generalize lwN hi k = v at *
  generalize belowN k = m at *
  generalize 2 ^ k = B at *
  clear hhi
  go_enter Try.func31, Try.ntmps31
  go_wp2_with (go_at_call 39; (with_reducible refine (HB _).mono ?_); rintro e w' ⟨rfl, rfl⟩)
  go_ret
  exact ⟨ret_u64' hv.out, rfl⟩

theorem least_wrong (a b c d z : Nat) (hr : isR a b c d = false) : Gives Try.prog 11 #[.agg (rectc a b c d), .int .u64 (z : Int)] (.tuple #[.int .u64 0, .bool false]) := by
  intro w
  have HI := isM_any a b c d
  rw [hr] at HI
  clear hr
  go_enter Try.func11, Try.ntmps11
  go_wp2
  have A1 := Lib.hid (Blk.new w (rectc a b c d) 25)
  have B1 := Lib.hid ((Below.refl w.heap.size w).alloc (Nat.le_refl _) (.cells (rectc a b c d) 25))
  generalize w.alloc (.cells (rectc a b c d) 25) = W at *
  go_step3
  go_wp2_with (first | (refine p_loadR rfl _ rfl _ rfl _ _ _ _ A1.out ?_) | (go_at_call 16; (with_reducible refine (HI.calls _).mono ?_); rintro e w1 ⟨rfl, hb⟩))
  rw [Exit.noGoto_ret]
  go_ret2
  exact ⟨rfl, B1.out.trans (hb.mono B1.out.size)⟩
theorem least_here (a b c d z : Nat) (hz : z < 18446744073709551616) (hr : isR a b c d = true) (hin : insideB a b c d z = true) : Gives Try.prog 11 #[.agg (rectc a b c d), .int .u64 (z : Int)] (.tuple #[.int .u64 (z : Int), .bool true]) := by
  intro w
  have HI := isM_any a b c d
  have HN := inside_any a b c d z hz
  rw [hr] at HI
  rw [hin] at HN
  clear hr hin hz
  go_enter Try.func11, Try.ntmps11
  go_wp2
  have A1 := Lib.hid (Blk.new w (rectc a b c d) 25)
  have B1 := Lib.hid ((Below.refl w.heap.size w).alloc (Nat.le_refl _) (.cells (rectc a b c d) 25))
  generalize w.alloc (.cells (rectc a b c d) 25) = W at *
  go_step3
  go_upto_region 3 with (first | (refine p_loadR rfl _ rfl _ rfl _ _ _ _ A1.out ?_) | (go_at_call 16; (with_reducible refine (HI.calls _).mono ?_); rintro e w1 ⟨rfl, hb⟩))
  replace A1 := Lib.hid (A1.out.below hb A1.out.lt)
  replace B1 := Lib.hid (B1.out.trans (hb.mono B1.out.size))
  clear hb
  go_wp2_with (first | (refine p_loadR rfl _ rfl _ rfl _ _ _ _ A1.out ?_) | (go_at_call 18; (with_reducible refine (HN.calls _).mono ?_); rintro e w2 ⟨rfl, hb⟩))
  rw [Exit.noGoto_ret]
  go_ret2
  exact ⟨rfl, B1.out.trans (hb.mono B1.out.size)⟩
set_option maxHeartbeats 1000000 in
theorem least_loop (a b c d z : Nat) (hz : z < 18446744073709551616) (ha : a ≤ b) (hc : c ≤ d) (hb : b < 4294967296) (hd : d < 4294967296) (hin : insideB a b c d z = false) (w : World) :
    Calls Try.prog 11 #[.agg (rectc a b c d), .int .u64 (z : Int)] w fun e w' => (∃ v ok, e = .returned (.tuple #[.int .u64 ((v : Nat) : Int), .bool ok]) ∧ LeastAt (InR a b c d) z v ok) ∧ Below w.heap.size w w' := by
  have HI := isM_any a b c d
  have HN := inside_any a b c d z hz
  rw [isR_iff.2 ⟨ha, hc⟩] at HI
  rw [hin] at HN
  have HW1 : Gives Try.prog 14 #[.int .u32 (a : Int), .int .u32 (c : Int)] (.int .u64 ((wvZ a c : Nat) : Int)) := fun w => calls_below (weave_any a c w (by omega) (by omega))
  have HW2 : Gives Try.prog 14 #[.int .u32 (b : Int), .int .u32 (d : Int)] (.int .u64 ((wvZ b d : Nat) : Int)) := fun w => calls_below (weave_any b d w hb hd)
  have hstart := Lib.hid (LeastInv.start (a := a) (b := b) (c := c) (d := d) hz ha hc hb hd)
  have hnot : Hid (¬ InR a b c d z) := by
    unfold Hid
    intro h
    rw [insideB_iff.2 ⟨⟨ha, hc⟩, h⟩] at hin
    cases hin
  have HU : ∀ (lo k : Nat) (w : World), lo < 18446744073709551616 → k < 64 → Calls Try.prog 30 #[.int .u64 (lo : Int), .int .u64 ((2 ^ k : Nat) : Int)] w fun e w' => e = .returned (.int .u64 ((upN lo k : Nat) : Int)) ∧ w = w' := fun lo k w h1 h2 => upperStart_any lo k h1 h2 w
  have HD : ∀ (lo k : Nat) (w : World), lo < 18446744073709551616 → k < 64 → Calls Try.prog 31 #[.int .u64 (lo : Int), .int .u64 ((2 ^ k : Nat) : Int)] w fun e w' => e = .returned (.int .u64 ((lwN lo k : Nat) : Int)) ∧ w = w' := fun lo k w h1 h2 => lowerEnd_any lo k h1 h2 w
  have hpr : Hid (∀ z k, z < 18446744073709551616 → k < 64 → bits .and .u64 ((z : Nat) : Int) ((2 ^ k : Nat) : Int) = ((z / 2 ^ k % 2 * 2 ^ k : Nat) : Int)) := Lib.hid and_pow
  clear hin ha hc hb hd
  generalize InR a b c d = P at *
  generalize wvZ a c = l0 at *
  generalize wvZ b d = h0 at *
  go_enter Try.func11, Try.ntmps11
  go_wp2
  have A1 := Lib.hid (Blk.new w (rectc a b c d) 25)
  have B1 := Lib.hid ((Below.refl w.heap.size w).alloc (Nat.le_refl _) (.cells (rectc a b c d) 25))
  generalize w.alloc (.cells (rectc a b c d) 25) = W at *
  go_step3
  go_upto_region 3 with (first | (refine p_loadR rfl _ rfl _ rfl _ _ _ _ A1.out ?_) | (go_at_call 16; (with_reducible refine (HI.calls _).mono ?_); rintro e w1 ⟨rfl, hb⟩))
  replace A1 := Lib.hid (A1.out.below hb A1.out.lt)
  replace B1 := Lib.hid (B1.out.trans (hb.mono B1.out.size))
  clear hb W
  go_upto_region 5 with (first | (refine p_loadR rfl _ rfl _ rfl _ _ _ _ A1.out ?_) | (go_at_call 18; (with_reducible refine (HN.calls _).mono ?_); rintro e w2 ⟨rfl, hb⟩))
  replace A1 := Lib.hid (A1.out.below hb A1.out.lt)
  replace B1 := Lib.hid (B1.out.trans (hb.mono B1.out.size))
  clear hb w1
  have c0 := A1.out.grown 0
  have c1 := A1.out.grown 1
  have c2 := A1.out.grown 2
  have c3 := A1.out.grown 3
  rw [show (rectc a b c d)[0]? = some (.int .u32 a) from rfl] at c0
  rw [show (rectc a b c d)[1]? = some (.int .u32 b) from rfl] at c1
  rw [show (rectc a b c d)[2]? = some (.int .u32 c) from rfl] at c2
  rw [show (rectc a b c d)[3]? = some (.int .u32 d) from rfl] at c3
  refine wp_region_quiet_below (by kernel_rfl) (by kernel_rfl) ?_
  repeat (first
    | go_big_quiet_skip
    | (go_big_quiet_want
       go_big_quiet_op
       first | go_big_quiet_on | go_big_quiet_call (first | with_reducible exact HW1.grown _ _ | with_reducible exact HW2.grown _ _)))
  refine wpQuiet_nil ?_
  intro _ hw'
  obtain ⟨⟨dq, osq⟩, hw''⟩ := hw'
  subst hw''
  replace B1 := Lib.hid (B1.out.trans ((below_regrown _ dq osq).mono B1.out.size))
  clear c0 c1 c2 c3 A1
  generalize grow _ _ = W1 at *
  go_wp2
  go_step3
  go_wp2
  go_loop [6, 7, 8, 9, 10] (fun lo hi v ok i => ∃ (e l h u : Nat) (o : Bool) (q : Int), e ≤ 64 ∧ q + 1 = (e : Int) ∧ i = .int .i64 q ∧ lo = .int .u64 (l : Int) ∧ hi = .int .u64 (h : Int) ∧ v = .int .u64 (u : Int) ∧ ok = .bool o ∧ Hid (LeastInv P z e l h u o)) (fun _ _ _ _ i => (intOf i + 1).toNat)
  case atStart => exact ⟨64, l0, h0, 0, false, 63, by omega, by omega, rfl, rfl, rfl, rfl, rfl, hstart⟩
  case round =>
    obtain ⟨e, l, h, u, o, q, he, hq, rfl, rfl, rfl, rfl, rfl, inv⟩ := hrel
    cases e with
    | zero =>
      obtain rfl : q = -1 := by omega
      have hd := Lib.hid (inv.out.done hnot.out)
      clear inv hstart hnot HU HD hpr
      go_wp2
      go_ret2
      exact ⟨⟨u, o, rfl, hd.out⟩, B1.out⟩
    | succ k =>
      obtain rfl : q = (k : Int) := by omega
      have hk : k < 64 := by omega
      have U := Lib.hid (fun w => HU l k w inv.out.lo_lt hk)
      have D := Lib.hid (fun w => HD h k w inv.out.hi_lt hk)
      have hp : IntKind.u64.wrap (2 ^ k) = ((2 ^ k : Nat) : Int) := pow_int k hk
      have az := hpr.out z k hz hk
      have al := hpr.out l k inv.out.lo_lt hk
      have ah := hpr.out h k inv.out.hi_lt hk
      have hb0 := inv.out.between hk inv.out.hi_lt inv.out.own.2
      have z2 : z / 2 ^ k % 2 < 2 := Nat.mod_lt _ (by omega)
      have l2 : l / 2 ^ k % 2 < 2 := Nat.mod_lt _ (by omega)
      have h2 : h / 2 ^ k % 2 < 2 := Nat.mod_lt _ (by omega)
      have hpos : 0 < 2 ^ k := Nat.pow_pos (by omega)
      clear hpr HU HD hstart
      rcases (by omega : (z / 2 ^ k % 2 = 0 ∧ l / 2 ^ k % 2 = 1 ∧ h / 2 ^ k % 2 = 1) ∨ (z / 2 ^ k % 2 = 1 ∧ l / 2 ^ k % 2 = 0 ∧ h / 2 ^ k % 2 = 0) ∨ (z / 2 ^ k % 2 = 0 ∧ l / 2 ^ k % 2 = 0 ∧ h / 2 ^ k % 2 = 0) ∨ (z / 2 ^ k % 2 = 1 ∧ l / 2 ^ k % 2 = 1 ∧ h / 2 ^ k % 2 = 1) ∨ (z / 2 ^ k % 2 = 0 ∧ l / 2 ^ k % 2 = 0 ∧ h / 2 ^ k % 2 = 1) ∨ (z / 2 ^ k % 2 = 1 ∧ l / 2 ^ k % 2 = 0 ∧ h / 2 ^ k % 2 = 1)) with ⟨ez, el, eh⟩ | ⟨ez, el, eh⟩ | ⟨ez, el, eh⟩ | ⟨ez, el, eh⟩ | ⟨ez, el, eh⟩ | ⟨ez, el, eh⟩
      · have R := Lib.hid (inv.out.above ez el)
        rw [ez, Nat.zero_mul, show ((0 : Nat) : Int) = 0 from rfl] at az
        rw [el, Nat.one_mul] at al
        rw [eh, Nat.one_mul] at ah
        clear inv ez el eh z2 l2 h2 hb0 hnot HI HN HW1 HW2
        generalize 2 ^ k = B at *
        have f1 : (0 : Int) < (B : Int) := by omega
        go_wp2
        go_ret2
        exact ⟨⟨l, true, rfl, R.out⟩, B1.out⟩
      · have R := Lib.hid (inv.out.under hk ez eh)
        rw [ez, Nat.one_mul] at az
        rw [el, Nat.zero_mul, show ((0 : Nat) : Int) = 0 from rfl] at al
        rw [eh, Nat.zero_mul, show ((0 : Nat) : Int) = 0 from rfl] at ah
        clear inv ez el eh z2 l2 h2 hb0 hnot HI HN HW1 HW2
        generalize 2 ^ k = B at *
        have f1 : (0 : Int) < (B : Int) := by omega
        go_wp2
        go_ret2
        exact ⟨⟨u, o, rfl, R.out⟩, B1.out⟩
      · have R := Lib.hid (inv.out.same hk (by rw [el, ez]) (by rw [eh, ez]))
        rw [ez, Nat.zero_mul, show ((0 : Nat) : Int) = 0 from rfl] at az
        rw [el, Nat.zero_mul, show ((0 : Nat) : Int) = 0 from rfl] at al
        rw [eh, Nat.zero_mul, show ((0 : Nat) : Int) = 0 from rfl] at ah
        clear inv ez el eh z2 l2 h2 hb0 hnot HI HN HW1 HW2
        generalize 2 ^ k = B at *
        have f1 : (0 : Int) < (B : Int) := by omega
        go_wp2
        exact ⟨⟨k, l, h, u, o, (k : Int) - 1, by omega, by omega, rfl, rfl, rfl, rfl, rfl, R⟩, by simp [intOf]⟩
      · have R := Lib.hid (inv.out.same hk (by rw [el, ez]) (by rw [eh, ez]))
        rw [ez, Nat.one_mul] at az
        rw [el, Nat.one_mul] at al
        rw [eh, Nat.one_mul] at ah
        clear inv ez el eh z2 l2 h2 hb0 hnot HI HN HW1 HW2
        generalize 2 ^ k = B at *
        have f1 : (0 : Int) < (B : Int) := by omega
        go_wp2
        exact ⟨⟨k, l, h, u, o, (k : Int) - 1, by omega, by omega, rfl, rfl, rfl, rfl, rfl, R⟩, by simp [intOf]⟩
      · have R := Lib.hid (inv.out.lower hk ez el eh)
        rw [ez, Nat.zero_mul, show ((0 : Nat) : Int) = 0 from rfl] at az
        rw [el, Nat.zero_mul, show ((0 : Nat) : Int) = 0 from rfl] at al
        rw [eh, Nat.one_mul] at ah
        clear inv ez el eh z2 l2 h2 hb0 hnot HI HN HW1 HW2
        generalize 2 ^ k = B at *
        have f1 : (0 : Int) < (B : Int) := by omega
        generalize upN l k = un at *
        generalize lwN h k = ln at *
        go_wp2_with (first | (go_at_call 30; (with_reducible refine (U.out _).mono ?_); rintro e w3 ⟨rfl, rfl⟩) | (go_at_call 31; (with_reducible refine (D.out _).mono ?_); rintro e w3 ⟨rfl, rfl⟩))
        exact ⟨⟨k, l, ln, un, true, (k : Int) - 1, by omega, by omega, rfl, rfl, rfl, rfl, rfl, R⟩, by simp [intOf]⟩
      · have R := Lib.hid (inv.out.upper hk ez el eh)
        rw [ez, Nat.one_mul] at az
        rw [el, Nat.zero_mul, show ((0 : Nat) : Int) = 0 from rfl] at al
        rw [eh, Nat.one_mul] at ah
        clear inv ez el eh z2 l2 h2 hb0 hnot HI HN HW1 HW2
        generalize 2 ^ k = B at *
        have f1 : (0 : Int) < (B : Int) := by omega
        generalize upN l k = un at *
        generalize lwN h k = ln at *
        go_wp2_with (first | (go_at_call 30; (with_reducible refine (U.out _).mono ?_); rintro e w3 ⟨rfl, rfl⟩))
        exact ⟨⟨k, un, h, u, o, (k : Int) - 1, by omega, by omega, rfl, rfl, rfl, rfl, rfl, R⟩, by simp [intOf]⟩
end Go.Proofs.Ytdhcilnkimmblaa
