/- The document's calls on labels: Bits, Of, Covers, Within. -/
import Derived.Test.YtbihggfnhcpieaaLabRefTell
namespace Go.Proofs.Ytbihggfnhcpieaa
open Go.RowKit Go.Sort

theorem refBitsL_any (n b : Nat) (w : World) (hn : n ≤ 64) (hb : b < 18446744073709551616) : Calls Try.prog 36 #[labv n b] w fun e w' => e = .returned (.string (txt (bitsN n b))) ∧ Below w.heap.size w w' := by
  have HB : Gives Try.prog 43 #[.int .u64 (b : Int)] (.string (txt (bitsN 64 b))) := fun w => calls_below (refBits_any b w hb)
  have hcut := bits_cut 64 b n (by omega) hn
  clear hb
  generalize txt (bitsN 64 b) = X at *
  generalize txt (bitsN n b) = Y at *
  rw [labv_eq]
  go_enter Try.func36, Try.ntmps36
  go_upto_region 1 with (fail)
  have A1 := Lib.hid (Blk.new w (labc n b) 24)
  have B1 : Hid (Below w.heap.size w (w.alloc (.cells (labc n b) 24))) := (Below.refl _ _).alloc (Nat.le_refl _) _
  generalize w.alloc (.cells (labc n b) 24) = W at *
  have c0 := A1.out.grown 0
  have c1 := A1.out.grown 1
  rw [show (labc (n : Int) b)[0]? = some (.int .i64 n) from rfl] at c0
  rw [show (labc (n : Int) b)[1]? = some (.int .u64 b) from rfl] at c1
  refine wp_region_quiet_below (by kernel_rfl) (by kernel_rfl) ?_
  repeat (first
    | go_big_quiet_skip
    | (go_big_quiet_want
       go_big_quiet_op
       first | go_big_quiet_on | go_big_quiet_call (first | with_reducible exact HB.grown _ _)))
  refine wpQuiet_nil ?_
  intro _ hw'
  obtain ⟨⟨dq, osq⟩, hw''⟩ := hw'
  subst hw''
  clear c0 c1 hcut
  go_wp2
  go_ret
  exact ⟨rfl, B1.out.trans ((below_regrown _ dq osq).mono B1.out.size)⟩

theorem refOf_no (key : Nat) (n : Int) (w : World) (hl : ¬ (0 ≤ n ∧ n ≤ 64)) : Calls Try.prog 27 #[.int .u64 (key : Int), .int .i64 n] w fun e w' => e = .returned (labr 0 0 1) ∧ Below w.heap.size w w' := by
  rcases (by omega : n < 0 ∨ (¬ n < 0 ∧ 64 < n)) with h | ⟨h, h'⟩
  all_goals
    clear hl
    go_enter Try.func27, Try.ntmps27
    go_upto_region 1 with (fail)
    have Z := Lib.hid (Blk.new w (labc 0 0) 24)
    have B := Lib.hid ((Below.refl w.heap.size w).alloc (Nat.le_refl _) (.cells (labc 0 0) 24))
    rw [lab00]
    generalize w.alloc _ = W at *
    go_wp2_with (first | (refine p_storeL rfl _ _ rfl _ rfl 0 0 rfl 0 0 Z.out ?_))
    exact bodyPost_ret (results_lab Try.results27 _ _ _ 0 0 1 rfl rfl (Z.out.setRow _)) rfl ⟨rfl, bel_setRow B.out (Nat.le_refl _) _⟩
theorem refOf_yes (key n : Nat) (w : World) (hl : n ≤ 64) (hk : key < 18446744073709551616) : Calls Try.prog 27 #[.int .u64 (key : Int), .int .i64 (n : Int)] w fun e w' => e = .returned (labr n (cutN n key) 0) ∧ Below w.heap.size w w' := by
  have HB := Lib.hid (fun w => refBits_any key w hk)
  have HO : Gives Try.prog 35 #[.string (txt (bitsN n key))] (.agg (labc n (cutN n key))) := fun w => refOf_bits n key w hl hk
  have hcut := bits_cut 64 key n (by omega) hl
  clear hk
  generalize txt (bitsN 64 key) = X at *
  generalize txt (bitsN n key) = Y at *
  generalize cutN n key = c at *
  go_enter Try.func27, Try.ntmps27
  go_upto_region 1 with (fail)
  have Z := Lib.hid (Blk.new w (labc 0 0) 24)
  have B := Lib.hid ((Below.refl w.heap.size w).alloc (Nat.le_refl _) (.cells (labc 0 0) 24))
  rw [lab00]
  generalize w.alloc _ = W at *
  go_wp2_with (first | (go_at_call 43; (with_reducible refine (HB.out _).mono ?_); rintro e w' ⟨rfl, rfl⟩) | (go_at_call 35; (with_reducible refine (HO.calls _).mono ?_); rintro e w' ⟨rfl, hb⟩; have Z1 := Lib.hid (Z.out.below hb Z.out.lt)) | (refine p_storeL rfl _ _ rfl _ rfl n c rfl 0 0 Z1.out ?_))
  exact bodyPost_ret (results_lab Try.results27 _ _ _ _ _ 0 rfl rfl (Z1.out.setRow _)) rfl ⟨rfl, bel_setRow (B.out.trans (hb.mono B.out.size)) (Nat.le_refl _) _⟩

theorem refCovers_no (n : Int) (b key : Nat) (w : World) (hb : b < 18446744073709551616) (hi : isB n b = false) : Calls Try.prog 31 #[labv n b, .int .u64 (key : Int)] w fun e w' => e = .returned (.bool false) ∧ Below w.heap.size w w' := by
  have HI : Gives Try.prog 25 #[.agg (labc n b)] (.bool false) := fun w => hi ▸ refIs_any n b w hb
  clear hi hb
  rw [labv_eq]
  go_enter Try.func31, Try.ntmps31
  go_upto_region 1 with (fail)
  have A1 := Lib.hid (Blk.new w (labc n b) 24)
  have B1 : Hid (Below w.heap.size w (w.alloc (.cells (labc n b) 24))) := (Below.refl _ _).alloc (Nat.le_refl _) _
  generalize w.alloc (.cells (labc n b) 24) = W at *
  refine wp_region_quiet_below (by kernel_rfl) (by kernel_rfl) ?_
  repeat (first
    | go_big_quiet_skip
    | (go_big_quiet_want
       first
       | (refine q_loadL _ rfl _ rfl n b A1.out ?_
          simp only [Act.put, List.setIfInBounds_toArray, List.set_cons_succ, List.set_cons_zero]
          go_big_quiet_on)
       | (go_big_quiet_op
          first | go_big_quiet_on | go_big_quiet_call (first | with_reducible exact HI.grown _ _))))
  refine wpQuiet_nil ?_
  intro _ hw'
  obtain ⟨⟨dq, osq⟩, hw''⟩ := hw'
  subst hw''
  go_wp2
  go_ret
  exact ⟨rfl, B1.out.trans ((below_regrown _ dq osq).mono B1.out.size)⟩
theorem refCovers_yes (n b key : Nat) (w : World) (hn : n ≤ 64) (hb : b < 18446744073709551616) (hk : key < 18446744073709551616) (hi : lowB n b = true) : Calls Try.prog 31 #[labv n b, .int .u64 (key : Int)] w fun e w' => e = .returned (.bool (decide (cutN n key = b))) ∧ Below w.heap.size w w' := by
  have HI : Gives Try.prog 25 #[.agg (labc n b)] (.bool true) := fun w => hi ▸ refIs_yes n b w hn hb
  have HL : Gives Try.prog 36 #[.agg (labc n b)] (.string (txt (bitsN n b))) := fun w => refBitsL_any n b w hn hb
  have HB : Gives Try.prog 43 #[.int .u64 (key : Int)] (.string (txt (bitsN 64 key))) := fun w => calls_below (refBits_any key w hk)
  have hcut := bits_cut 64 key n (by omega) hn
  have heq := bits_same hn hb hk hi
  clear hi hb hk
  generalize txt (bitsN 64 key) = X at *
  generalize txt (bitsN n key) = Y at *
  generalize txt (bitsN n b) = Z at *
  generalize decide (cutN n key = b) = r at *
  rw [labv_eq]
  go_enter Try.func31, Try.ntmps31
  go_upto_region 1 with (fail)
  have A1 := Lib.hid (Blk.new w (labc n b) 24)
  have B1 : Hid (Below w.heap.size w (w.alloc (.cells (labc n b) 24))) := (Below.refl _ _).alloc (Nat.le_refl _) _
  generalize w.alloc (.cells (labc n b) 24) = W at *
  have c0 := A1.out.grown 0
  rw [show (labc (n : Int) b)[0]? = some (.int .i64 n) from rfl] at c0
  refine wp_region_quiet_below (by kernel_rfl) (by kernel_rfl) ?_
  repeat (first
    | go_big_quiet_skip
    | (go_big_quiet_want
       first
       | (refine q_loadL _ rfl _ rfl n b A1.out ?_
          simp only [Act.put, List.setIfInBounds_toArray, List.set_cons_succ, List.set_cons_zero]
          go_big_quiet_on)
       | (go_big_quiet_op
          first | go_big_quiet_on | go_big_quiet_call (first | with_reducible exact HI.grown _ _ | with_reducible exact HL.grown _ _ | with_reducible exact HB.grown _ _))))
  refine wpQuiet_nil ?_
  intro _ hw'
  obtain ⟨⟨dq, osq⟩, hw''⟩ := hw'
  subst hw''
  clear c0 hcut heq
  go_wp2
  go_ret
  exact ⟨rfl, B1.out.trans ((below_regrown _ dq osq).mono B1.out.size)⟩
theorem refCovers_any (n : Int) (b key : Nat) (w : World) (hb : b < 18446744073709551616) (hk : key < 18446744073709551616) : Calls Try.prog 31 #[labv n b, .int .u64 (key : Int)] w fun e w' => e = .returned (.bool (coversB n b key)) ∧ Below w.heap.size w w' := by
  cases hi : isB n b
  · rw [show coversB n b key = false by unfold coversB; rw [hi]; rfl]
    exact refCovers_no n b key w hb hi
  · have hn := isB_len hi
    obtain ⟨m, rfl⟩ := Int.eq_ofNat_of_zero_le hn.1
    rw [show coversB (m : Int) b key = decide (cutN m key = b) by unfold coversB; rw [hi]; rfl]
    exact refCovers_yes m b key w (by omega) hb hk (isB_low hi)

theorem refWithin_gen (n : Int) (b : Nat) (m : Int) (c : Nat) (w : World) (r : Bool) (x y : Bool) (HI : Gives Try.prog 25 #[.agg (labc n b)] (.bool x)) (HJ : Gives Try.prog 25 #[.agg (labc m c)] (.bool y))
    (X Y Z : ByteArray) (hx : x = true → y = true → m ≤ n → Gives Try.prog 36 #[.agg (labc n b)] (.string X) ∧ Gives Try.prog 36 #[.agg (labc m c)] (.string Y) ∧ (∀ w, (Instr.slice 9 (.string X) none (some (.int .i64 m)) none).run Try.prog w = .ok (.string Z) w) ∧ (Z.toList == Y.toList) = r)
    (hr : ¬ (x = true ∧ y = true ∧ m ≤ n) → r = false) :
    Calls Try.prog 33 #[labv n b, labv m c] w fun e w' => e = .returned (.bool r) ∧ Below w.heap.size w w' := by
  rw [labv_eq, labv_eq]
  have HX := Lib.hid hx
  have HR := Lib.hid hr
  clear hx hr
  cases x
  · obtain rfl : r = false := HR.out (by simp)
    go_enter Try.func33, Try.ntmps33
    go_upto_region 1 with (fail)
    have A1 := Lib.hid ((Blk.new w (labc n b) 24).alloc (.cells (labc m c) 24))
    have B1 : Hid (Below w.heap.size w ((w.alloc (.cells (labc n b) 24)).alloc (.cells (labc m c) 24))) := ((Below.refl _ _).alloc (Nat.le_refl _) _).alloc (by simp) _
    generalize (w.alloc _).alloc _ = W at *
    refine wp_region_quiet_below (by kernel_rfl) (by kernel_rfl) ?_
    repeat (first
      | go_big_quiet_skip
      | (go_big_quiet_want
         first
         | (refine q_loadL _ rfl _ rfl n b A1.out ?_
            simp only [Act.put, List.setIfInBounds_toArray, List.set_cons_succ, List.set_cons_zero]
            go_big_quiet_on)
         | (go_big_quiet_op
            first | go_big_quiet_on | go_big_quiet_call (first | with_reducible exact HI.grown _ _))))
    refine wpQuiet_nil ?_
    intro _ hw'
    obtain ⟨⟨dq, osq⟩, hw''⟩ := hw'
    subst hw''
    go_wp2
    go_ret
    exact ⟨rfl, B1.out.trans ((below_regrown _ dq osq).mono B1.out.size)⟩
  cases y
  · obtain rfl : r = false := HR.out (by simp)
    go_enter Try.func33, Try.ntmps33
    go_upto_region 1 with (fail)
    have A1 := Lib.hid ((Blk.new w (labc n b) 24).alloc (.cells (labc m c) 24))
    have h2 := Blk.new (w.alloc (.cells (labc n b) 24)) (labc m c) 24
    rw [World.size_alloc] at h2
    have A2 := Lib.hid h2
    have B1 : Hid (Below w.heap.size w ((w.alloc (.cells (labc n b) 24)).alloc (.cells (labc m c) 24))) := ((Below.refl _ _).alloc (Nat.le_refl _) _).alloc (by simp) _
    clear h2
    generalize (w.alloc _).alloc _ = W at *
    refine wp_region_quiet_below (by kernel_rfl) (by kernel_rfl) ?_
    repeat (first
      | go_big_quiet_skip
      | (go_big_quiet_want
         first
         | (first | refine q_loadL _ rfl _ rfl n b A1.out ?_ | refine q_loadL _ rfl _ rfl m c A2.out ?_
            simp only [Act.put, List.setIfInBounds_toArray, List.set_cons_succ, List.set_cons_zero]
            go_big_quiet_on)
         | (go_big_quiet_op
            first | go_big_quiet_on | go_big_quiet_call (first | with_reducible exact HI.grown _ _ | with_reducible exact HJ.grown _ _))))
    refine wpQuiet_nil ?_
    intro _ hw'
    obtain ⟨⟨dq, osq⟩, hw''⟩ := hw'
    subst hw''
    go_wp2
    go_ret
    exact ⟨rfl, B1.out.trans ((below_regrown _ dq osq).mono B1.out.size)⟩
  by_cases hm : m ≤ n
  · obtain ⟨HL, HM, hcut, heq⟩ := HX.out rfl rfl hm
    clear HX HR
    go_enter Try.func33, Try.ntmps33
    go_upto_region 1 with (fail)
    have A1 := Lib.hid ((Blk.new w (labc n b) 24).alloc (.cells (labc m c) 24))
    have h2 := Blk.new (w.alloc (.cells (labc n b) 24)) (labc m c) 24
    rw [World.size_alloc] at h2
    have A2 := Lib.hid h2
    have B1 : Hid (Below w.heap.size w ((w.alloc (.cells (labc n b) 24)).alloc (.cells (labc m c) 24))) := ((Below.refl _ _).alloc (Nat.le_refl _) _).alloc (by simp) _
    clear h2
    generalize (w.alloc _).alloc _ = W at *
    have c0 := A1.out.grown 0
    have d0 := A2.out.grown 0
    rw [show (labc n b)[0]? = some (.int .i64 n) from rfl] at c0
    rw [show (labc m c)[0]? = some (.int .i64 m) from rfl] at d0
    refine wp_region_quiet_below (by kernel_rfl) (by kernel_rfl) ?_
    repeat (first
      | go_big_quiet_skip
      | (go_big_quiet_want
         first
         | (first | refine q_loadL _ rfl _ rfl n b A1.out ?_ | refine q_loadL _ rfl _ rfl m c A2.out ?_
            simp only [Act.put, List.setIfInBounds_toArray, List.set_cons_succ, List.set_cons_zero]
            go_big_quiet_on)
         | (go_big_quiet_op
            first | go_big_quiet_on | go_big_quiet_call (first | with_reducible exact HI.grown _ _ | with_reducible exact HJ.grown _ _ | with_reducible exact HL.grown _ _ | with_reducible exact HM.grown _ _))))
    refine wpQuiet_nil ?_
    intro _ hw'
    obtain ⟨⟨dq, osq⟩, hw''⟩ := hw'
    subst hw''
    clear c0 d0 hcut heq
    go_wp2
    go_ret
    exact ⟨rfl, B1.out.trans ((below_regrown _ dq osq).mono B1.out.size)⟩
  · obtain rfl : r = false := HR.out (by simp [hm])
    go_enter Try.func33, Try.ntmps33
    go_upto_region 1 with (fail)
    have A1 := Lib.hid ((Blk.new w (labc n b) 24).alloc (.cells (labc m c) 24))
    have h2 := Blk.new (w.alloc (.cells (labc n b) 24)) (labc m c) 24
    rw [World.size_alloc] at h2
    have A2 := Lib.hid h2
    have B1 : Hid (Below w.heap.size w ((w.alloc (.cells (labc n b) 24)).alloc (.cells (labc m c) 24))) := ((Below.refl _ _).alloc (Nat.le_refl _) _).alloc (by simp) _
    clear h2
    generalize (w.alloc _).alloc _ = W at *
    have c0 := A1.out.grown 0
    have d0 := A2.out.grown 0
    rw [show (labc n b)[0]? = some (.int .i64 n) from rfl] at c0
    rw [show (labc m c)[0]? = some (.int .i64 m) from rfl] at d0
    refine wp_region_quiet_below (by kernel_rfl) (by kernel_rfl) ?_
    repeat (first
      | go_big_quiet_skip
      | (go_big_quiet_want
         first
         | (first | refine q_loadL _ rfl _ rfl n b A1.out ?_ | refine q_loadL _ rfl _ rfl m c A2.out ?_
            simp only [Act.put, List.setIfInBounds_toArray, List.set_cons_succ, List.set_cons_zero]
            go_big_quiet_on)
         | (go_big_quiet_op
            first | go_big_quiet_on | go_big_quiet_call (first | with_reducible exact HI.grown _ _ | with_reducible exact HJ.grown _ _))))
    refine wpQuiet_nil ?_
    intro _ hw'
    obtain ⟨⟨dq, osq⟩, hw''⟩ := hw'
    subst hw''
    clear c0 d0
    go_wp2
    go_ret
    exact ⟨rfl, B1.out.trans ((below_regrown _ dq osq).mono B1.out.size)⟩
theorem refWithin_any (n : Int) (b : Nat) (m : Int) (c : Nat) (w : World) (hb : b < 18446744073709551616) (hc : c < 18446744073709551616) :
    Calls Try.prog 33 #[labv n b, labv m c] w fun e w' => e = .returned (.bool (withinB n b m c)) ∧ Below w.heap.size w w' := by
  refine refWithin_gen n b m c w _ _ _ (fun w => refIs_any n b w hb) (fun w => refIs_any m c w hc) (txt (bitsN n.toNat b)) (txt (bitsN m.toNat c)) (txt (bitsN m.toNat b)) ?_ ?_
  · intro hx hy hm
    have h1 := isB_len hx
    have h2 := isB_len hy
    obtain ⟨n, rfl⟩ := Int.eq_ofNat_of_zero_le h1.1
    obtain ⟨m, rfl⟩ := Int.eq_ofNat_of_zero_le h2.1
    refine ⟨fun w => refBitsL_any n b w (by omega) hb, fun w => refBitsL_any m c w (by omega) hc, fun w => bits_cut n b m (by omega) (by omega) w, ?_⟩
    rw [show ((m : Nat) : Int).toNat = m by omega, bits_same' (by omega) hc hb (isB_low hy)]
    unfold withinB coversB
    rw [hx, hy, decide_eq_true hm]
    rfl
  · intro h
    unfold withinB coversB
    cases hx : isB n b
    · rfl
    · cases hy : isB m c
      · simp
      · have : ¬ m ≤ n := fun hm => h ⟨hx, hy, hm⟩
        simp [this]
end Go.Proofs.Ytbihggfnhcpieaa
