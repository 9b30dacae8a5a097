/- The document's calls on labels: Span, Next, Text, Parse. -/
import Derived.Test.YtbihggfnhcpieaaLabRefCov
import Derived.Test.YtbihggfnhcpieaaLabParse
namespace Go.Proofs.Ytbihggfnhcpieaa
open Go.RowKit Go.Sort

theorem refSpan_no (n : Int) (b : Nat) (w : World) (hb : b < 18446744073709551616) (hi : isB n b = false) :
    Calls Try.prog 16 #[labv n b] w fun e w' => e = .returned (.tuple #[.int .u64 0, .int .u64 0, .int .i64 1]) ∧ Below w.heap.size w w' := by
  have HI : Gives Try.prog 25 #[.agg (labc n b)] (.bool false) := fun w => hi ▸ refIs_any n b w hb
  clear hi hb
  rw [labv_eq]
  go_enter Try.func16, Try.ntmps16
  go_upto_region 1 with (fail)
  have A1 := Lib.hid (Blk.new w (labc n b) 24)
  have B1 : Hid (Below w.heap.size w (w.alloc (.cells (labc n b) 24))) := (Below.refl _ _).alloc (Nat.le_refl _) _
  generalize w.alloc (.cells (labc n b) 24) = W at *
  go_wp2_with (first | (refine p_loadL rfl _ rfl _ rfl n b A1.out ?_) | (go_at_call 25; (with_reducible refine (HI.calls _).mono ?_); rintro e w' ⟨rfl, hb⟩))
  go_ret3
  exact ⟨rfl, B1.out.trans (hb.mono B1.out.size)⟩
theorem span_num (n b : Nat) (hn : n ≤ 64) (hb : b < 18446744073709551616) (hi : lowB n b = true) : num (bitsN n b ++ List.replicate (64 - (bitsN n b).length) 49) = b + (gap n - 1) := by
  rw [num_rep1, bitsN_length, num_bits n b hn hb]
  show b / gap n * gap n + (gap n - 1) = _
  rw [← cutN_mul, cutN_self n b (lowB_iff.1 hi)]
theorem refSpan_yes (n : Nat) (b : Nat) (w : World) (hn : n ≤ 64) (hb : b < 18446744073709551616) (hi : lowB n b = true) :
    Calls Try.prog 16 #[labv n b] w fun e w' => e = .returned (.tuple #[.int .u64 (b : Int), .int .u64 ((b + (gap n - 1) : Nat) : Int), .int .i64 0]) ∧ Below w.heap.size w w' := by
  have HI : Gives Try.prog 25 #[.agg (labc n b)] (.bool true) := fun w => hi ▸ refIs_yes n b w hn hb
  have HL : Gives Try.prog 36 #[.agg (labc n b)] (.string (txt (bitsN n b))) := fun w => refBitsL_any n b w hn hb
  have HF : Gives Try.prog 40 #[.string (txt (bitsN n b)), .string ⟨#[49]⟩] (.string (txt (bitsN n b ++ List.replicate (64 - (bitsN n b).length) 49))) := fun w => calls_below (refFill_any (bitsN n b) 49 ⟨#[49]⟩ w rfl (by rw [bitsN_length]; exact hn))
  have HN : Gives Try.prog 39 #[.string (txt (bitsN n b ++ List.replicate (64 - (bitsN n b).length) 49))] (.int .u64 ((b + (gap n - 1) : Nat) : Int)) := fun w => by
    rw [← span_num n b hn hb hi]
    exact calls_below (refNumber_any _ w (by simp [bitsN_length]; omega) ((Bin.bits n b).append (Bin.rep _ (.inr rfl))))
  clear hi hb
  generalize txt (bitsN n b ++ List.replicate (64 - (bitsN n b).length) 49) = Y at *
  generalize txt (bitsN n b) = X at *
  generalize hM : b + (gap n - 1) = m at *
  clear hM
  rw [labv_eq]
  go_enter Try.func16, Try.ntmps16
  go_upto_region 1 with (fail)
  have A1 := Lib.hid (Blk.new w (labc n b) 24)
  have B1 : Hid (Below w.heap.size w (w.alloc (.cells (labc n b) 24))) := (Below.refl _ _).alloc (Nat.le_refl _) _
  generalize w.alloc (.cells (labc n b) 24) = W at *
  go_upto_region 3 with (first | (refine p_loadL rfl _ rfl _ rfl n b A1.out ?_) | (go_at_call 25; (with_reducible refine (HI.calls _).mono ?_); rintro e w1 ⟨rfl, hb⟩))
  replace A1 := Lib.hid (A1.out.below hb A1.out.lt)
  replace B1 := B1.out.trans (hb.mono B1.out.size)
  have c1 := A1.out.grown 1
  rw [show (labc (n : Int) b)[1]? = some (.int .u64 b) from rfl] at c1
  clear hb W
  have HB1 := Lib.hid B1
  clear B1
  refine wp_region_quiet_below (by kernel_rfl) (by kernel_rfl) ?_
  repeat (first
    | go_big_quiet_skip
    | (go_big_quiet_want
       first
       | (refine q_loadL _ rfl _ rfl n b A1.out ?_
          simp only [Act.put, List.setIfInBounds_toArray, List.set_cons_succ, List.set_cons_zero]
          go_big_quiet_on)
       | (go_big_quiet_op
          first | go_big_quiet_on | go_big_quiet_call (first | with_reducible exact HL.grown _ _ | with_reducible exact HF.grown _ _ | with_reducible exact HN.grown _ _))))
  refine wpQuiet_nil ?_
  intro _ hw'
  obtain ⟨⟨dq, osq⟩, hw''⟩ := hw'
  subst hw''
  clear c1
  go_wp2
  go_ret3
  exact ⟨rfl, HB1.out.trans ((below_regrown _ dq osq).mono HB1.out.size)⟩

theorem refNext_no (n : Int) (b : Nat) (w : World) (hb : b < 18446744073709551616) (hi : isB n b = false) :
    Calls Try.prog 18 #[labv n b] w fun e w' => e = .returned (.tuple #[.int .u64 0, .bool false]) ∧ Below w.heap.size w w' := by
  have HI : Gives Try.prog 16 #[.agg (labc n b)] (.tuple #[.int .u64 0, .int .u64 0, .int .i64 1]) := fun w => refSpan_no n b w hb hi
  clear hi hb
  rw [labv_eq]
  go_enter Try.func18, Try.ntmps18
  go_upto_region 1 with (fail)
  have A1 := Lib.hid (Blk.new w (labc n b) 24)
  have B1 : Hid (Below w.heap.size w (w.alloc (.cells (labc n b) 24))) := (Below.refl _ _).alloc (Nat.le_refl _) _
  generalize w.alloc (.cells (labc n b) 24) = W at *
  go_wp2_with (first | (refine p_loadL rfl _ rfl _ rfl n b A1.out ?_) | (go_at_call 16; (with_reducible refine (HI.calls _).mono ?_); rintro e w' ⟨rfl, hb⟩))
  go_ret2
  exact ⟨rfl, B1.out.trans (hb.mono B1.out.size)⟩
theorem refNext_last (n : Nat) (b m : Nat) (w : World) (hn : n ≤ 64) (hb : b < 18446744073709551616) (hi : lowB n b = true) (hm : m = b + (gap n - 1)) (hl : ((m : Int) == 18446744073709551615) = true) :
    Calls Try.prog 18 #[labv n b] w fun e w' => e = .returned (.tuple #[.int .u64 0, .bool false]) ∧ Below w.heap.size w w' := by
  have HI : Gives Try.prog 16 #[.agg (labc n b)] (.tuple #[.int .u64 (b : Int), .int .u64 (m : Int), .int .i64 0]) := fun w => hm ▸ refSpan_yes n b w hn hb hi
  clear hi hb hm
  rw [labv_eq]
  go_enter Try.func18, Try.ntmps18
  go_upto_region 1 with (fail)
  have A1 := Lib.hid (Blk.new w (labc n b) 24)
  have B1 : Hid (Below w.heap.size w (w.alloc (.cells (labc n b) 24))) := (Below.refl _ _).alloc (Nat.le_refl _) _
  generalize w.alloc (.cells (labc n b) 24) = W at *
  go_wp2_with (first | (refine p_loadL rfl _ rfl _ rfl n b A1.out ?_) | (go_at_call 16; (with_reducible refine (HI.calls _).mono ?_); rintro e w' ⟨rfl, hb⟩))
  go_ret2
  exact ⟨rfl, B1.out.trans (hb.mono B1.out.size)⟩
theorem refNext_yes (n : Nat) (b m : Nat) (w : World) (hn : n ≤ 64) (hb : b < 18446744073709551616) (hi : lowB n b = true) (hm : m = b + (gap n - 1)) (hl : ((m : Int) == 18446744073709551615) = false) (hlt : m < 18446744073709551615) :
    Calls Try.prog 18 #[labv n b] w fun e w' => e = .returned (.tuple #[.int .u64 ((m : Int) + 1), .bool true]) ∧ Below w.heap.size w w' := by
  have HI : Gives Try.prog 16 #[.agg (labc n b)] (.tuple #[.int .u64 (b : Int), .int .u64 (m : Int), .int .i64 0]) := fun w => hm ▸ refSpan_yes n b w hn hb hi
  clear hi hb hm
  rw [labv_eq]
  go_enter Try.func18, Try.ntmps18
  go_upto_region 1 with (fail)
  have A1 := Lib.hid (Blk.new w (labc n b) 24)
  have B1 : Hid (Below w.heap.size w (w.alloc (.cells (labc n b) 24))) := (Below.refl _ _).alloc (Nat.le_refl _) _
  generalize w.alloc (.cells (labc n b) 24) = W at *
  go_wp2_with (first | (refine p_loadL rfl _ rfl _ rfl n b A1.out ?_) | (go_at_call 16; (with_reducible refine (HI.calls _).mono ?_); rintro e w' ⟨rfl, hb⟩))
  go_ret2
  exact ⟨rfl, B1.out.trans (hb.mono B1.out.size)⟩

theorem refText_no (n : Int) (b : Nat) (w : World) (hb : b < 18446744073709551616) (hi : isB n b = false) :
    Calls Try.prog 20 #[labv n b] w fun e w' => e = .returned (.tuple #[.string ⟨#[]⟩, .int .i64 1]) ∧ Below w.heap.size w w' := by
  have HI : Gives Try.prog 25 #[.agg (labc n b)] (.bool false) := fun w => hi ▸ refIs_any n b w hb
  clear hi hb
  rw [labv_eq]
  go_enter Try.func20, Try.ntmps20
  go_upto_region 1 with (fail)
  have A1 := Lib.hid (Blk.new w (labc n b) 24)
  have B1 : Hid (Below w.heap.size w (w.alloc (.cells (labc n b) 24))) := (Below.refl _ _).alloc (Nat.le_refl _) _
  generalize w.alloc (.cells (labc n b) 24) = W at *
  go_wp2_with (first | (refine p_loadL rfl _ rfl _ rfl n b A1.out ?_) | (go_at_call 25; (with_reducible refine (HI.calls _).mono ?_); rintro e w' ⟨rfl, hb⟩))
  go_ret2
  exact ⟨rfl, B1.out.trans (hb.mono B1.out.size)⟩
theorem ret2_str {a b : ByteArray} {c : Value} (h : a = b) : Ending.returned (.tuple #[.string a, c]) = .returned (.tuple #[.string b, c]) := by rw [h]
theorem refText_yes (n b : Nat) (w : World) (hn : n ≤ 64) (hb : b < 18446744073709551616) (hi : lowB n b = true) :
    Calls Try.prog 20 #[labv n b] w fun e w' => e = .returned (.tuple #[.string (txt (textN n b)), .int .i64 0]) ∧ Below w.heap.size w w' := by
  have HI : Gives Try.prog 25 #[.agg (labc n b)] (.bool true) := fun w => hi ▸ refIs_yes n b w hn hb
  have HL : Gives Try.prog 36 #[.agg (labc n b)] (.string (txt (bitsN n b))) := fun w => refBitsL_any n b w hn hb
  have HT : Hid (⟨#[47]⟩ ++ txt (bitsN n b) = txt (textN n b)) := by
    unfold Hid
    rw [show (⟨#[47]⟩ : ByteArray) = txt [47] from rfl, ← txt_append]; rfl
  have hz : (txt (bitsN n b)).size ≤ 64 := by rw [txt_size, bitsN_length]; exact hn
  clear hi hb
  generalize txt (bitsN n b) = X at *
  rw [labv_eq]
  go_enter Try.func20, Try.ntmps20
  go_upto_region 1 with (fail)
  have A1 := Lib.hid (Blk.new w (labc n b) 24)
  have B1 : Hid (Below w.heap.size w (w.alloc (.cells (labc n b) 24))) := (Below.refl _ _).alloc (Nat.le_refl _) _
  generalize w.alloc (.cells (labc n b) 24) = W at *
  go_upto_region 3 with (first | (refine p_loadL rfl _ rfl _ rfl n b A1.out ?_) | (go_at_call 25; (with_reducible refine (HI.calls _).mono ?_); rintro e w1 ⟨rfl, hb⟩))
  replace A1 := Lib.hid (A1.out.below hb A1.out.lt)
  replace B1 := Lib.hid (B1.out.trans (hb.mono B1.out.size))
  clear hb W
  go_wp2_with (first | (refine p_loadL rfl _ rfl _ rfl n b A1.out ?_) | (go_at_call 36; (with_reducible refine (HL.calls _).mono ?_); rintro e w2 ⟨rfl, hb⟩))
  go_ret2
  exact ⟨ret2_str HT.out, B1.out.trans (hb.mono B1.out.size)⟩

/-- the bits of a text behind its slash -/
theorem valS_full (s : ByteArray) (hg : goodT s = true) : ∀ k, k ≤ s.size - 1 → full (((bytesN s).drop 1).take k) = valS s k
  | 0, _ => by simp [full, num, valS]
  | k + 1, h => by
    obtain ⟨⟨h1, h2⟩, _, h3⟩ := goodT_iff.1 hg
    have ih := valS_full s hg k (by omega)
    have hl : ((bytesN s).drop 1).length = s.size - 1 := by rw [List.length_drop, bytesN_length]
    have hk : k < ((bytesN s).drop 1).length := by omega
    have hx : ((bytesN s).drop 1)[k] = byteAt s (k + 1) := by
      have h4 := bytesN_tab s
      rw [List.getElem_drop]
      have h5 : (bytesN s)[1 + k]? = some (byteAt s (1 + k)) := by rw [h4, tab_get _ _ _ (by omega)]
      rw [List.getElem?_eq_getElem (by rw [bytesN_length]; omega)] at h5
      injection h5 with h6
      rw [h6, Nat.add_comm]
    have hb := h3 k (by omega)
    unfold bitOk at hb
    rw [decide_eq_true_iff] at hb
    rw [List.take_succ_eq_append_getElem hk, hx, full_snoc _ _ (by rw [List.length_take]; omega) hb, ih, List.length_take, Nat.min_eq_left (by omega)]
    rfl
theorem txt_drop (l : List Nat) (a : Nat) : (txt l).extract a (txt l).size = txt (l.drop a) := by
  rw [txt_size]
  unfold txt
  apply ByteArray.ext
  simp [ByteArray.extract, ByteArray.copySlice, List.map_drop]
  exact List.take_of_length_le (by simp)
theorem refOf_tail (s : ByteArray) (hg : goodT s = true) : Gives Try.prog 35 #[.string (s.extract 1 s.size)] (.agg #[.int .i64 ((s.size - 1 : Nat) : Int), .int .u64 ((valS s (s.size - 1) : Nat) : Int)]) := by
  obtain ⟨⟨h1, h2⟩, _, h3⟩ := goodT_iff.1 hg
  have hl : ((bytesN s).drop 1).length = s.size - 1 := by rw [List.length_drop, bytesN_length]
  have he : s.extract 1 s.size = txt ((bytesN s).drop 1) := by
    have h := txt_drop (bytesN s) 1
    rwa [txt_bytes] at h
  have hb : Bin ((bytesN s).drop 1) := by
    intro x hx
    obtain ⟨i, hi, rfl⟩ := List.mem_iff_getElem.1 hx
    have h4 := bytesN_tab s
    rw [List.getElem_drop]
    have h5 : (bytesN s)[1 + i]? = some (byteAt s (1 + i)) := by rw [h4, tab_get _ _ _ (by omega)]
    rw [List.getElem?_eq_getElem (by rw [bytesN_length]; omega)] at h5
    injection h5 with h6
    rw [h6]
    have h7 := h3 i (by omega)
    unfold bitOk at h7
    rw [decide_eq_true_iff, Nat.add_comm] at h7
    exact h7
  intro w
  have h := refOf_any ((bytesN s).drop 1) w (by omega) hb
  have hv := valS_full s hg (s.size - 1) (Nat.le_refl _)
  rw [List.take_of_length_le (by omega)] at hv
  rw [hl, hv, ← he] at h
  exact h

theorem refParse_bad (s : ByteArray) (w : World) (h : s.size < 1 ∨ (¬ s.size < 1 ∧ 65 < s.size)) (hs : s.size ≤ 9223372036854775807) : Calls Try.prog 29 #[.string s] w fun e w' => e = .returned (labr 0 0 3) ∧ Below w.heap.size w w' := by
  rcases h with h | ⟨h, h'⟩
  all_goals
    go_enter Try.func29, Try.ntmps29
    go_upto_region 1 with (fail)
    have Z := Lib.hid (Blk.new w (labc 0 0) 24)
    have B := Lib.hid ((Below.refl w.heap.size w).alloc (Nat.le_refl _) (.cells (labc 0 0) 24))
    rw [lab00]
    generalize w.alloc _ = W at *
    go_wp2_with (first | (refine p_storeL rfl _ _ rfl _ rfl 0 0 rfl 0 0 Z.out ?_))
    exact bodyPost_ret (results_lab Try.results29 _ _ _ 0 0 3 rfl rfl (Z.out.setRow _)) rfl ⟨rfl, bel_setRow B.out (Nat.le_refl _) _⟩
theorem refParse_other (s : ByteArray) (w : World) (h : 1 ≤ s.size) (h' : s.size ≤ 65) (hb : byteAt s 0 ≠ 47) : Calls Try.prog 29 #[.string s] w fun e w' => e = .returned (labr 0 0 3) ∧ Below w.heap.size w w' := by
  have h1 : 0 < s.size := h
  have h0 : ((s[0].toNat : Int) != 47) = true := by
    have e : byteAt s 0 = s[0].toNat := by unfold byteAt; simp [Array.getD, h1]; rfl
    rw [bne_iff_ne]; omega
  clear hb
  go_enter Try.func29, Try.ntmps29
  go_upto_region 1 with (fail)
  have Z := Lib.hid (Blk.new w (labc 0 0) 24)
  have B := Lib.hid ((Below.refl w.heap.size w).alloc (Nat.le_refl _) (.cells (labc 0 0) 24))
  rw [lab00]
  generalize w.alloc _ = W at *
  go_wp2_with (first | (refine p_storeL rfl _ _ rfl _ rfl 0 0 rfl 0 0 Z.out ?_))
  exact bodyPost_ret (results_lab Try.results29 _ _ _ 0 0 3 rfl rfl (Z.out.setRow _)) rfl ⟨rfl, bel_setRow B.out (Nat.le_refl _) _⟩
theorem refParse_slash (s : ByteArray) (w : World) (h : 1 ≤ s.size) (h' : s.size ≤ 65) (hb : byteAt s 0 = 47) : Calls Try.prog 29 #[.string s] w fun e w' => e = .returned (parsedT s) ∧ Below w.heap.size w w' := by
  have h1 : 0 < s.size := h
  have h0 : ((s[0].toNat : Int) != 47) = false := by
    have e : byteAt s 0 = s[0].toNat := by unfold byteAt; simp [Array.getD, h1]; rfl
    rw [bne_eq_false_iff_eq]; omega
  have HB := Lib.hid hb
  have HPT : Hid (parsedT s = if goodT s = true then labr ((s.size - 1 : Nat) : Int) (valS s (s.size - 1)) 0 else labr 0 0 3) := rfl
  clear hb
  go_enter Try.func29, Try.ntmps29
  go_upto_region 1 with (fail)
  have Z := Lib.hid (Blk.new w (labc 0 0) 24)
  have B := Lib.hid ((Below.refl w.heap.size w).alloc (Nat.le_refl _) (.cells (labc 0 0) 24))
  rw [lab00]
  generalize w.alloc _ = W at *
  go_wp2
  clear h0
  go_loop [4] (fun i => ∃ k : Nat, k + 1 ≤ s.size ∧ i = .int .i64 ((k : Int) + 1) ∧ Hid (∀ j, j < k → bitOk (byteAt s (j + 1)) = true)) (fun i => s.size - (intOf i).toNat)
  case atStart => exact ⟨0, by omega, rfl, fun j hj => by omega⟩
  case round =>
    obtain ⟨k, hk, rfl, HJ⟩ := hrel
    by_cases hlt : k + 1 < s.size
    · have hx : byteAt s (k + 1) = s[k + 1].toNat := by unfold byteAt; simp [Array.getD, hlt]; rfl
      have hn1 : ((k : Int) + 1).toNat = k + 1 := by omega
      by_cases hbit : bitOk (byteAt s (k + 1)) = true
      · have HBT := Lib.hid hbit
        unfold bitOk at hbit
        rw [decide_eq_true_iff, hx] at hbit
        have HJ2 : Hid (∀ j, j < k + 1 → bitOk (byteAt s (j + 1)) = true) := by
          intro j hj
          rcases Nat.lt_or_ge j k with h | h
          · exact HJ.out j h
          · rw [show j = k by omega]; exact HBT.out
        clear hx
        rcases hbit with hbit | hbit
        · have e0 : ((s[k + 1].toNat : Int) != 48) = false := by rw [bne_eq_false_iff_eq]; omega
          clear hbit
          go_wp2
          exact ⟨⟨k + 1, by omega, by go_num, HJ2.out⟩, by simp [intOf]; omega⟩
        · have e0 : ((s[k + 1].toNat : Int) != 48) = true := by rw [bne_iff_ne]; omega
          have e1 : ((s[k + 1].toNat : Int) != 49) = false := by rw [bne_eq_false_iff_eq]; omega
          clear hbit
          go_wp2
          exact ⟨⟨k + 1, by omega, by go_num, HJ2.out⟩, by simp [intOf]; omega⟩
      · have hg : goodT s = false := by
          cases hg : goodT s
          · rfl
          · obtain ⟨_, _, h3⟩ := goodT_iff.1 hg
            exact absurd (h3 k (by omega)) hbit
        have HP : Hid (parsedT s = labr 0 0 3) := by unfold Hid; rw [HPT.out, hg]; rfl
        have e0 : ((s[k + 1].toNat : Int) != 48) = true := by unfold bitOk at hbit; rw [decide_eq_true_iff] at hbit; rw [bne_iff_ne]; omega
        have e1 : ((s[k + 1].toNat : Int) != 49) = true := by unfold bitOk at hbit; rw [decide_eq_true_iff] at hbit; rw [bne_iff_ne]; omega
        clear hbit hg hx
        go_wp2_with (first | (refine p_storeL rfl _ _ rfl _ rfl 0 0 rfl 0 0 Z.out ?_))
        rw [HP.out]
        exact bodyPost_ret (results_lab Try.results29 _ _ _ 0 0 3 rfl rfl (Z.out.setRow _)) rfl ⟨rfl, bel_setRow B.out (Nat.le_refl _) _⟩
    · have hg : goodT s = true := goodT_iff.2 ⟨⟨h, h'⟩, HB.out, fun j hj => HJ.out j (by omega)⟩
      have HP : Hid (parsedT s = labr ((s.size - 1 : Nat) : Int) (valS s (s.size - 1)) 0) := by unfold Hid; rw [HPT.out, if_pos hg]
      have HO := refOf_tail s hg
      clear hg
      generalize valS s (s.size - 1) = v at *
      generalize ((s.size - 1 : Nat) : Int) = z at *
      go_wp2_with (first | (go_at_call 35; (with_reducible refine (HO.calls _).mono ?_); rintro e w2 ⟨rfl, hb2⟩; have Z2 := Lib.hid (Z.out.below hb2 Z.out.lt)) | (refine p_storeL rfl _ _ rfl _ rfl z v rfl 0 0 Z2.out ?_))
      rw [HP.out]
      exact bodyPost_ret (results_lab Try.results29 _ _ _ _ _ 0 rfl rfl (Z2.out.setRow _)) rfl ⟨rfl, bel_setRow (B.out.trans (hb2.mono B.out.size)) (Nat.le_refl _) _⟩
theorem goodT_not {s : ByteArray} (h : ¬ ((1 ≤ s.size ∧ s.size ≤ 65) ∧ byteAt s 0 = 47)) : parsedT s = labr 0 0 3 := by
  unfold parsedT
  rw [if_neg]
  intro hg
  obtain ⟨h1, h2, _⟩ := goodT_iff.1 hg
  exact h ⟨h1, h2⟩
theorem refParse_any (s : ByteArray) (hs : s.size ≤ 9223372036854775807) : Gives Try.prog 29 #[.string s] (parsedT s) := by
  intro w
  by_cases h : 1 ≤ s.size ∧ s.size ≤ 65
  · by_cases hb : byteAt s 0 = 47
    · exact refParse_slash s w h.1 h.2 hb
    · rw [goodT_not (fun x => hb x.2)]; exact refParse_other s w h.1 h.2 hb
  · rw [goodT_not (fun x => h x.1)]; exact refParse_bad s w (by omega) hs
theorem parse_any (s : ByteArray) (hs : s.size ≤ 9223372036854775807) : Gives Try.prog 28 #[.string s] (parsedT s) := by
  intro w
  by_cases h : s.size = 0
  · rw [goodT_not (by omega)]; exact parse_empty s w h
  · by_cases hb : byteAt s 0 = 47
    · exact parse_slash s w (by omega) hs hb
    · rw [goodT_not (fun x => hb x.2)]; exact parse_other s w (by omega) hb
end Go.Proofs.Ytbihggfnhcpieaa
