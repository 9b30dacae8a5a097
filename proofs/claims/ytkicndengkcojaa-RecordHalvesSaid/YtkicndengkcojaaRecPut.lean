/- A record's bytes: putItems, putNext, Put. -/
import Derived.Test.YtkicndengkcojaaRecGuard
import Derived.Test.YtkicndengkcojaaRecIs3
import Derived.Test.YtkicndengkcojaaPkB
import Derived.Test.YtkicndengkcojaaPkC
namespace Go.Proofs.Ytkicndengkcojaa
set_option maxRecDepth 100000
open Go Go.RowKit Go.Sort

theorem refuse_0 (w : World) : Calls Try.prog 34 #[.bool true, .int .i64 0] w fun e w' => e = Pan 0 ∧ w = w' := refuse_yes 0 w
theorem pass_0 (w : World) : Calls Try.prog 34 #[.bool false, .int .i64 0] w fun e w' => e = .returned (.tuple #[]) ∧ w = w' := refuse_no 0 w
theorem refuse_1 (w : World) : Calls Try.prog 34 #[.bool true, .int .i64 1] w fun e w' => e = Pan 1 ∧ w = w' := refuse_yes 1 w
theorem pass_1 (w : World) : Calls Try.prog 34 #[.bool false, .int .i64 1] w fun e w' => e = .returned (.tuple #[]) ∧ w = w' := refuse_no 1 w
theorem refuse_2 (w : World) : Calls Try.prog 34 #[.bool true, .int .i64 2] w fun e w' => e = Pan 2 ∧ w = w' := refuse_yes 2 w
theorem pass_2 (w : World) : Calls Try.prog 34 #[.bool false, .int .i64 2] w fun e w' => e = .returned (.tuple #[]) ∧ w = w' := refuse_no 2 w
theorem refuse_3 (w : World) : Calls Try.prog 34 #[.bool true, .int .i64 3] w fun e w' => e = Pan 3 ∧ w = w' := refuse_yes 3 w
theorem pass_3 (w : World) : Calls Try.prog 34 #[.bool false, .int .i64 3] w fun e w' => e = .returned (.tuple #[]) ∧ w = w' := refuse_no 3 w
theorem refuse_12 (w : World) : Calls Try.prog 34 #[.bool true, .int .i64 12] w fun e w' => e = Pan 12 ∧ w = w' := refuse_yes 12 w
theorem pass_12 (w : World) : Calls Try.prog 34 #[.bool false, .int .i64 12] w fun e w' => e = .returned (.tuple #[]) ∧ w = w' := refuse_no 12 w
theorem refuse_13 (w : World) : Calls Try.prog 34 #[.bool true, .int .i64 13] w fun e w' => e = Pan 13 ∧ w = w' := refuse_yes 13 w
theorem pass_13 (w : World) : Calls Try.prog 34 #[.bool false, .int .i64 13] w fun e w' => e = .returned (.tuple #[]) ∧ w = w' := refuse_no 13 w
theorem must_ok (s : ByteArray) (w : World) : Calls Try.prog 79 #[.string s, .int .i64 0] w fun e w' => e = .returned (.string s) ∧ w = w' := by
  have HR := Lib.hid pass_0
  go_enter Try.func79, Try.ntmps79
  go_wp2_with (go_at_call 34; (with_reducible refine (HR.out _).mono ?_); rintro e w1 ⟨rfl, rfl⟩)
  go_ret
  exact ⟨rfl, rfl⟩
theorem must_no (s : ByteArray) (n : Nat) (hn : n ≠ 0) (w : World) : Calls Try.prog 79 #[.string s, .int .i64 (n : Int)] w fun e w' => e = Pan n ∧ w = w' := by
  have HR := Lib.hid (fun w => refuse_yes n w)
  have hd : ((n : Int) != 0) = true := by simp; omega
  clear hn
  go_enter Try.func79, Try.ntmps79
  go_wp2_with (go_at_call 34; (with_reducible refine (HR.out _).mono ?_); rintro e w1 ⟨he, rfl⟩; rw [pan_eq] at he; subst he)
  exact ⟨rfl, rfl, rfl⟩

theorem str_nil (b : ByteArray) : b ++ txt [] = b := ByteArray.ext (by rw [ByteArray.data_append, show (txt []).data = #[] from rfl, Array.append_empty])
/-! the items -/
theorem itsN_take {L : List It} {i : Nat} {x : It} (hx : L[i]? = some x) : itsN (L.take (i + 1)) = itsN (L.take i) ++ (numN x.1 ++ txtN (bytesN x.2)) := by
  obtain ⟨hp, rfl⟩ := List.getElem?_eq_some_iff.1 hx
  rw [List.take_succ_eq_append_getElem hp, itsN_append, itsN_one]
  rfl
theorem itN_length {x : It} (hk : x.1 < 18446744073709551616) (hv : x.2.size ≤ 64) : (itN x).length ≤ 80 := by
  have h1 := nb_le8 hk
  have h2 := nb_le8 (v := x.2.size) (by omega)
  rw [itN, List.length_append, numN_length, txtN_length, bytesN_length]
  have h3 : nb x.2.size ≤ 1 := nb_le.2 (by omega)
  omega
theorem itsN_length {L : List It} (hk : ∀ x ∈ L, x.1 < 18446744073709551616) (hv : ∀ x ∈ L, x.2.size ≤ 64) : (itsN L).length ≤ L.length * 80 := by
  induction L with
  | nil => simp [itsN]
  | cons x L ih =>
    rw [show x :: L = [x] ++ L from rfl, itsN_append, itsN_one, List.length_append]
    have := itN_length (hk x (by simp)) (hv x (by simp))
    have := ih (fun y hy => hk y (by simp [hy])) (fun y hy => hv y (by simp [hy]))
    simp only [List.length_append, List.length_singleton]
    omega
set_option maxHeartbeats 2000000 in
theorem putItems_any (b : ByteArray) (u : Value) (L : List It) (w : World) (hT0 : Told w u L) (hl : L.length ≤ 16) (hkey : ∀ x ∈ L, x.1 < 18446744073709551616) (hval : ∀ x ∈ L, x.2.size ≤ 64) (hb : b.size ≤ 100) :
    Calls Try.prog 37 #[.string b, u] w fun e w' => e = .returned (.string (b ++ txt (numN L.length ++ itsN L))) ∧ Below w.heap.size w w' := by
  obtain ⟨a, c, rfl⟩ := told_shape hT0
  obtain ⟨n, hn⟩ : ∃ n, n = L.length := ⟨_, rfl⟩
  rw [← hn] at hT0 hl ⊢
  have HN := Lib.hid hn
  have HT := Lib.hid hT0
  have HK := Lib.hid hkey
  have HV := Lib.hid hval
  have HP0 := Lib.hid (fun w => putNumber_any b n w (by omega) (by omega))
  obtain ⟨b0, hb0⟩ : ∃ b0, b0 = b ++ txt (numN n) := ⟨_, rfl⟩
  have hz : b0.size ≤ 200 := by
    have := nb_le8 (v := n) (by omega)
    rw [hb0, ByteArray.size_append, txt_size, numN_length]; omega
  rw [← hb0] at HP0
  have HB0 := Lib.hid hb0
  have hcv : IntKind.u64.wrap (n : Int) = (n : Int) := IntWalk.u64_in _ (by omega)
  clear hT0 hn hkey hval hb hb0
  go_enter Try.func37, Try.ntmps37
  go_upto_region 2 with (go_at_call 35; (with_reducible refine (HP0.out _).mono ?_); rintro e w0 ⟨rfl, hb1⟩)
  have HB := Lib.hid hb1
  clear hb1
  go_wp2
  go_loopw [0, 6, 14] (fun s _ i wr => ∃ q : Nat, q ≤ n ∧ i = .int .i64 (q : Int) ∧ Below w.heap.size w wr ∧ s = .string (b0 ++ txt (itsN (L.take q)))) (fun _ _ i _ => n - (intOf i).toNat)
  case atStart => exact ⟨0, by omega, rfl, HB.out, by rw [List.take_zero, show itsN [] = [] from rfl, str_nil]⟩
  case round =>
    obtain ⟨q, hq, rfl, hB, rfl⟩ := hrel
    replace HB := Lib.hid hB
    clear hB
    by_cases hlt : q < n
    · obtain ⟨x, hx⟩ : ∃ x, L[q]? = some x := ⟨_, List.getElem?_eq_getElem (by have := HN.out; omega)⟩
      have hT : Told wr (.slice a n c) L := HT.out.bel HB.out
      obtain ⟨b1, o1, rfl, _, _, hr⟩ := told_at hT hx
      have hmem := List.mem_of_getElem? hx
      have hk := HK.out x hmem
      have hv := HV.out x hmem
      have HTK := Lib.hid (itsN_take hx)
      have hlen : (itsN (L.take q)).length ≤ 16 * 80 := by
        have := itsN_length (L := L.take q) (fun y hy => HK.out y (List.mem_of_mem_take hy)) (fun y hy => HV.out y (List.mem_of_mem_take hy))
        rw [List.length_take] at this
        omega
      clear hx hT hmem
      have HM := Lib.hid (made wr x.1 x.2 #[.int .u64 0, .string ⟨#[]⟩])
      have HR := Lib.hid hr
      clear hr
      obtain ⟨s, hs⟩ : ∃ s, s = b0 ++ txt (itsN (L.take q)) := ⟨_, rfl⟩
      rw [← hs]
      have hsz : s.size ≤ 1480 := by rw [hs, ByteArray.size_append, txt_size]; omega
      have hsz2 : (s ++ txt (numN x.1)).size ≤ 1500 := by
        have := nb_le8 hk
        rw [ByteArray.size_append, txt_size, numN_length]; omega
      have HA : Gives Try.prog 35 #[.string s, .int .u64 (x.1 : Int)] (.string (s ++ txt (numN x.1))) := fun w => putNumber_any s x.1 w (by omega) hk
      have HC : Gives Try.prog 81 #[.string (s ++ txt (numN x.1)), .string x.2] (.tuple #[.string (s ++ txt (numN x.1) ++ txt (txtN (bytesN x.2))), .int .i64 0]) := fun w => putText_short _ x.2 w (by omega) (by omega)
      have HD : Gives Try.prog 79 #[.string (s ++ txt (numN x.1) ++ txt (txtN (bytesN x.2))), .int .i64 0] (.string (s ++ txt (numN x.1) ++ txt (txtN (bytesN x.2)))) := fun w => calls_below (must_ok _ w)
      have HE : Hid (s ++ txt (numN x.1) ++ txt (txtN (bytesN x.2)) = b0 ++ txt (itsN (L.take (q + 1)))) := by
        unfold Hid
        rw [HTK.out, hs, txt_append, txt_append, ByteArray.append_assoc, ByteArray.append_assoc]
      clear hs hsz hsz2 hlen hk hv HTK
      generalize s ++ txt (numN x.1) ++ txt (txtN (bytesN x.2)) = s3 at *
      generalize s ++ txt (numN x.1) = s2 at *
      go_upto_region 5 with (first
        | (refine p_midA rfl _ rfl _ _ rfl x.1 x.2 HR.out ?_)
        | (refine p_storeA rfl _ _ rfl wr.heap.size rfl x.1 x.2 rfl #[.int .u64 0, .string ⟨#[]⟩] rfl (Blk.new _ _ _) ?_))
      generalize (wr.alloc _).setRow _ _ = W2 at *
      have d1 : ∀ d os, (grow (redrawn W2 d) os).cell? ⟨wr.heap.size, 0, none⟩ = some (.int .u64 (x.1 : Int)) := fun d os => HM.out.blk.grown 0 d os
      have d2 : ∀ d os, (grow (redrawn W2 d) os).cell? ⟨wr.heap.size, 1, none⟩ = some (.string x.2) := fun d os => HM.out.blk.grown 1 d os
      simp only [Act.put]
      refine wp_region_quiet_below (by kernel_rfl) (by kernel_rfl) ?_
      repeat (first
        | go_big_quiet_skip
        | (go_big_quiet_want
           first
           | (first | fail
              simp only [Act.put, List.setIfInBounds_toArray, List.set_cons_succ, List.set_cons_zero]
              go_big_quiet_on)
           | (go_big_quiet_op
              first | go_big_quiet_on | go_big_quiet_call (first | with_reducible exact HA.grown _ _ | with_reducible exact HC.grown _ _ | with_reducible exact HD.grown _ _))))
      refine wpQuiet_nil ?_
      intro _ hw'
      have HB2 := Lib.hid (rstep (rstep HB.out HM.out.bel) (quiet_fin hw'))
      clear hw' d1 d2
      go_wp2
      exact ⟨⟨q + 1, by omega, by go_num, HB2.out, by rw [HE.out]⟩, by simp [intOf]; omega⟩
    · obtain rfl : n = q := by omega
      have hall : L.take n = L := by rw [HN.out, List.take_length]
      rw [hall]
      go_wp2
      go_ret
      refine ⟨?_, HB.out⟩
      rw [HB0.out, txt_append, ByteArray.append_assoc]
      rfl

/-! the next leaf's label -/
theorem putNext_none (b : ByteArray) (w : World) (hb : b.size ≤ 10000) : Calls Try.prog 36 #[.string b, .agg (labc (-1) 0)] w fun e w' => e = .returned (.string (b ++ txt (numN 0))) ∧ Below w.heap.size w w' := by
  have HP : Gives Try.prog 35 #[.string b, .int .u64 0] (.string (b ++ txt (numN 0))) := fun w => putNumber_any b 0 w (by omega) (by omega)
  have HN := none_any
  have HE : eqL (-1) 0 (-1) 0 = true := eqL_self _ _
  generalize b ++ txt (numN 0) = s at *
  go_enter Try.func36, Try.ntmps36
  go_upto_region 1 with (fail)
  have A0 := Lib.hid (Blk.new w (labc (-1) 0) 25)
  have B0 := Lib.hid ((Below.refl w.heap.size w).alloc (Nat.le_refl _) (.cells (labc (-1) 0) 25))
  generalize w.alloc _ = W at *
  refine wp_region_quiet_below (by kernel_rfl) (by kernel_rfl) ?_
  repeat (first
    | go_big_quiet_skip
    | (go_big_quiet_want
       first
       | (first | refine q_loadL _ rfl _ rfl (-1) 0 A0.out ?_ | refine q_eqlL _ _ rfl (-1) 0 (-1) 0 rfl rfl HE ?_
          simp only [Act.put, List.setIfInBounds_toArray, List.set_cons_succ, List.set_cons_zero]
          go_big_quiet_on)
       | (go_big_quiet_op
          first | go_big_quiet_on | go_big_quiet_call (first | with_reducible exact HN.grown _ _))))
  refine wpQuiet_nil ?_
  intro _ hw'
  have B1 := Lib.hid (rstep B0.out (quiet_fin hw'))
  clear hw'
  go_wp2_with (go_at_call 35; (with_reducible refine (HP.calls _).mono ?_); rintro e w1 ⟨rfl, hb1⟩)
  go_ret
  exact ⟨rfl, rstep B1.out hb1⟩
theorem putNext_lab (b : ByteArray) (n c : Nat) (w : World) (hb : b.size ≤ 10000) (hn : n ≤ 64) (hc : c < 18446744073709551616) (hi : lowB n c = true) : Calls Try.prog 36 #[.string b, .agg (labc n c)] w fun e w' => e = .returned (.string (b ++ txt (numN 1 ++ labN n c))) ∧ Below w.heap.size w w' := by
  have HP : Gives Try.prog 35 #[.string b, .int .u64 1] (.string (b ++ txt (numN 1))) := fun w => putNumber_any b 1 w (by omega) (by omega)
  have hz : (b ++ txt (numN 1)).size ≤ 10010 := by
    have := nb_le8 (v := 1) (by omega)
    rw [ByteArray.size_append, txt_size, numN_length]; omega
  have HL : Gives Try.prog 80 #[.string (b ++ txt (numN 1)), .agg (labc n c)] (.tuple #[.string (b ++ txt (numN 1) ++ txt (labN n c)), .int .i64 0]) := fun w => putLabel_yes _ n c w (by omega) hn hc hi
  have HD : Gives Try.prog 79 #[.string (b ++ txt (numN 1) ++ txt (labN n c)), .int .i64 0] (.string (b ++ txt (numN 1) ++ txt (labN n c))) := fun w => calls_below (must_ok _ w)
  have HS : Hid (b ++ txt (numN 1) ++ txt (labN n c) = b ++ txt (numN 1 ++ labN n c)) := by unfold Hid; rw [txt_append, ByteArray.append_assoc]
  have HN := none_any
  have HE : eqL n c (-1) 0 = false := by
    rw [Bool.eq_false_iff]; intro h; have := (eqL_iff.1 h).1; omega
  clear hz hi hc hn hb
  generalize b ++ txt (numN 1) ++ txt (labN n c) = s2 at *
  generalize b ++ txt (numN 1) = s1 at *
  go_enter Try.func36, Try.ntmps36
  go_upto_region 1 with (fail)
  have A0 := Lib.hid (Blk.new w (labc n c) 25)
  have B0 := Lib.hid ((Below.refl w.heap.size w).alloc (Nat.le_refl _) (.cells (labc n c) 25))
  generalize w.alloc _ = W at *
  refine wp_region_quiet_below (by kernel_rfl) (by kernel_rfl) ?_
  repeat (first
    | go_big_quiet_skip
    | (go_big_quiet_want
       first
       | (first | refine q_loadL _ rfl _ rfl n c A0.out ?_ | refine q_eqlL _ _ rfl n c (-1) 0 rfl rfl HE ?_
          simp only [Act.put, List.setIfInBounds_toArray, List.set_cons_succ, List.set_cons_zero]
          go_big_quiet_on)
       | (go_big_quiet_op
          first | go_big_quiet_on | go_big_quiet_call (first | with_reducible exact HN.grown _ _))))
  refine wpQuiet_nil ?_
  intro _ hw'
  replace A0 := Lib.hid (A0.out.below (quiet_fin hw') A0.out.lt)
  have B1 := Lib.hid (rstep B0.out (quiet_fin hw'))
  clear hw'
  rename_i W2
  go_upto_region 3 with (fail)
  refine wp_region_quiet_below (by kernel_rfl) (by kernel_rfl) ?_
  repeat (first
    | go_big_quiet_skip
    | (go_big_quiet_want
       first
       | (first | refine q_loadL _ rfl _ rfl n c A0.out ?_
          simp only [Act.put, List.setIfInBounds_toArray, List.set_cons_succ, List.set_cons_zero]
          go_big_quiet_on)
       | (go_big_quiet_op
          first | go_big_quiet_on | go_big_quiet_call (first | with_reducible exact HP.grown _ _ | with_reducible exact HL.grown _ _ | with_reducible exact HD.grown _ _))))
  refine wpQuiet_nil ?_
  intro _ hw'
  have B2 := Lib.hid (rstep B1.out (quiet_fin hw'))
  clear hw'
  go_wp2
  go_ret
  exact ⟨by rw [← HS.out]; rfl, B2.out⟩
end Go.Proofs.Ytkicndengkcojaa
