/- The document's calls on labels: Span, Next, Text, Parse. -/
import Derived.Test.YtdhcilnkimmblaaLabRefCov
import Derived.Test.YtdhcilnkimmblaaLabParse
namespace Go.Proofs.Ytdhcilnkimmblaa
open Go.RowKit Go.Sort

theorem refSpan_no (n : Int) (b : Nat) (w : World) (hb : b < 18446744073709551616) (hi : isB n b = false) :
    Calls Try.prog 36 #[labv n b] w fun e w' => e = .returned (.tuple #[.int .u64 0, .int .u64 0, .int .i64 1]) ∧ Below w.heap.size w w' := by
  have HI : Gives Try.prog 41 #[.agg (labc n b)] (.bool false) := fun w => hi ▸ refIs_any n b w hb
  clear hi hb
  rw [labv_eq]
  go_enter Try.func36, Try.ntmps36
  go_upto_region 1 with (fail)
  have A1 := Lib.hid (Blk.new w (labc n b) 36)
  have B1 : Hid (Below w.heap.size w (w.alloc (.cells (labc n b) 36))) := (Below.refl _ _).alloc (Nat.le_refl _) _
  generalize w.alloc (.cells (labc n b) 36) = W at *
  go_wp2_with (first | (refine p_loadL rfl _ rfl _ rfl n b A1.out ?_) | (go_at_call 41; (with_reducible refine (HI.calls _).mono ?_); rintro e w' ⟨rfl, hb⟩))
  go_ret3
  exact ⟨rfl, B1.out.trans (hb.mono B1.out.size)⟩
theorem span_num (n b : Nat) (hn : n ≤ 64) (hb : b < 18446744073709551616) (hi : lowB n b = true) : num (bitsN n b ++ List.replicate (64 - (bitsN n b).length) 49) = b + (gap n - 1) := by
  rw [num_rep1, bitsN_length, num_bits n b hn hb]
  show b / gap n * gap n + (gap n - 1) = _
  rw [← cutN_mul, cutN_self n b (lowB_iff.1 hi)]
theorem refSpan_yes (n : Nat) (b : Nat) (w : World) (hn : n ≤ 64) (hb : b < 18446744073709551616) (hi : lowB n b = true) :
    Calls Try.prog 36 #[labv n b] w fun e w' => e = .returned (.tuple #[.int .u64 (b : Int), .int .u64 ((b + (gap n - 1) : Nat) : Int), .int .i64 0]) ∧ Below w.heap.size w w' := by
  have HI : Gives Try.prog 41 #[.agg (labc n b)] (.bool true) := fun w => hi ▸ refIs_yes n b w hn hb
  have HL : Gives Try.prog 44 #[.agg (labc n b)] (.string (txt (bitsN n b))) := fun w => refBitsL_any n b w hn hb
  have HF : Gives Try.prog 43 #[.string (txt (bitsN n b)), .string ⟨#[49]⟩] (.string (txt (bitsN n b ++ List.replicate (64 - (bitsN n b).length) 49))) := fun w => calls_below (refFill_any (bitsN n b) 49 ⟨#[49]⟩ w rfl (by rw [bitsN_length]; exact hn))
  have HN : Gives Try.prog 42 #[.string (txt (bitsN n b ++ List.replicate (64 - (bitsN n b).length) 49))] (.int .u64 ((b + (gap n - 1) : Nat) : Int)) := fun w => by
    rw [← span_num n b hn hb hi]
    exact calls_below (refNumber_any _ w (by simp [bitsN_length]; omega) ((Bin.bits n b).append (Bin.rep _ (.inr rfl))))
  clear hi hb
  generalize txt (bitsN n b ++ List.replicate (64 - (bitsN n b).length) 49) = Y at *
  generalize txt (bitsN n b) = X at *
  generalize hM : b + (gap n - 1) = m at *
  clear hM
  rw [labv_eq]
  go_enter Try.func36, Try.ntmps36
  go_upto_region 1 with (fail)
  have A1 := Lib.hid (Blk.new w (labc n b) 36)
  have B1 : Hid (Below w.heap.size w (w.alloc (.cells (labc n b) 36))) := (Below.refl _ _).alloc (Nat.le_refl _) _
  generalize w.alloc (.cells (labc n b) 36) = W at *
  go_upto_region 3 with (first | (refine p_loadL rfl _ rfl _ rfl n b A1.out ?_) | (go_at_call 41; (with_reducible refine (HI.calls _).mono ?_); rintro e w1 ⟨rfl, hb⟩))
  replace A1 := Lib.hid (A1.out.below hb A1.out.lt)
  replace B1 := B1.out.trans (hb.mono B1.out.size)
  have c1 := A1.out.grown 1
  rw [show (labc (n : Int) b)[1]? = some (.int .u64 b) from rfl] at c1
  clear hb W
  have HB1 := Lib.hid B1
  clear B1
  refine wp_region_quiet_below (by kernel_rfl) (by kernel_rfl) ?_
  repeat (first
    | go_big_quiet_skip
    | (go_big_quiet_want
       first
       | (refine q_loadL _ rfl _ rfl n b A1.out ?_
          simp only [Act.put, List.setIfInBounds_toArray, List.set_cons_succ, List.set_cons_zero]
          go_big_quiet_on)
       | (go_big_quiet_op
          first | go_big_quiet_on | go_big_quiet_call (first | with_reducible exact HL.grown _ _ | with_reducible exact HF.grown _ _ | with_reducible exact HN.grown _ _))))
  refine wpQuiet_nil ?_
  intro _ hw'
  obtain ⟨⟨dq, osq⟩, hw''⟩ := hw'
  subst hw''
  clear c1
  go_wp2
  go_ret3
  exact ⟨rfl, HB1.out.trans ((below_regrown _ dq osq).mono HB1.out.size)⟩

theorem ret2_str {a b : ByteArray} {c : Value} (h : a = b) : Ending.returned (.tuple #[.string a, c]) = .returned (.tuple #[.string b, c]) := by rw [h]
/-- the bits of a text behind its slash -/
theorem valS_full (s : ByteArray) (hg : goodT s = true) : ∀ k, k ≤ s.size - 1 → full (((bytesN s).drop 1).take k) = valS s k
  | 0, _ => by simp [full, num, valS]
  | k + 1, h => by
    obtain ⟨⟨h1, h2⟩, _, h3⟩ := goodT_iff.1 hg
    have ih := valS_full s hg k (by omega)
    have hl : ((bytesN s).drop 1).length = s.size - 1 := by rw [List.length_drop, bytesN_length]
    have hk : k < ((bytesN s).drop 1).length := by omega
    have hx : ((bytesN s).drop 1)[k] = byteAt s (k + 1) := by
      have h4 := bytesN_tab s
      rw [List.getElem_drop]
      have h5 : (bytesN s)[1 + k]? = some (byteAt s (1 + k)) := by rw [h4, tab_get _ _ _ (by omega)]
      rw [List.getElem?_eq_getElem (by rw [bytesN_length]; omega)] at h5
      injection h5 with h6
      rw [h6, Nat.add_comm]
    have hb := h3 k (by omega)
    unfold bitOk at hb
    rw [decide_eq_true_iff] at hb
    rw [List.take_succ_eq_append_getElem hk, hx, full_snoc _ _ (by rw [List.length_take]; omega) hb, ih, List.length_take, Nat.min_eq_left (by omega)]
    rfl
theorem txt_drop (l : List Nat) (a : Nat) : (txt l).extract a (txt l).size = txt (l.drop a) := by
  rw [txt_size]
  unfold txt
  apply ByteArray.ext
  simp [ByteArray.extract, ByteArray.copySlice, List.map_drop]
  exact List.take_of_length_le (by simp)
theorem refOf_tail (s : ByteArray) (hg : goodT s = true) : Gives Try.prog 45 #[.string (s.extract 1 s.size)] (.agg #[.int .i64 ((s.size - 1 : Nat) : Int), .int .u64 ((valS s (s.size - 1) : Nat) : Int)]) := by
  obtain ⟨⟨h1, h2⟩, _, h3⟩ := goodT_iff.1 hg
  have hl : ((bytesN s).drop 1).length = s.size - 1 := by rw [List.length_drop, bytesN_length]
  have he : s.extract 1 s.size = txt ((bytesN s).drop 1) := by
    have h := txt_drop (bytesN s) 1
    rwa [txt_bytes] at h
  have hb : Bin ((bytesN s).drop 1) := by
    intro x hx
    obtain ⟨i, hi, rfl⟩ := List.mem_iff_getElem.1 hx
    have h4 := bytesN_tab s
    rw [List.getElem_drop]
    have h5 : (bytesN s)[1 + i]? = some (byteAt s (1 + i)) := by rw [h4, tab_get _ _ _ (by omega)]
    rw [List.getElem?_eq_getElem (by rw [bytesN_length]; omega)] at h5
    injection h5 with h6
    rw [h6]
    have h7 := h3 i (by omega)
    unfold bitOk at h7
    rw [decide_eq_true_iff, Nat.add_comm] at h7
    exact h7
  intro w
  have h := refOf_any ((bytesN s).drop 1) w (by omega) hb
  have hv := valS_full s hg (s.size - 1) (Nat.le_refl _)
  rw [List.take_of_length_le (by omega)] at hv
  rw [hl, hv, ← he] at h
  exact h

theorem goodT_not {s : ByteArray} (h : ¬ ((1 ≤ s.size ∧ s.size ≤ 65) ∧ byteAt s 0 = 47)) : parsedT s = labr 0 0 3 := by
  unfold parsedT
  rw [if_neg]
  intro hg
  obtain ⟨h1, h2, _⟩ := goodT_iff.1 hg
  exact h ⟨h1, h2⟩
theorem parse_any (s : ByteArray) (hs : s.size ≤ 9223372036854775807) : Gives Try.prog 33 #[.string s] (parsedT s) := by
  intro w
  by_cases h : s.size = 0
  · rw [goodT_not (by omega)]; exact parse_empty s w h
  · by_cases hb : byteAt s 0 = 47
    · exact parse_slash s w (by omega) hs hb
    · rw [goodT_not (fun x => hb x.2)]; exact parse_other s w (by omega) hb
end Go.Proofs.Ytdhcilnkimmblaa
