/- The document's reader: GetNumber, and the four calls. -/
import Derived.Test.YtplcdjmidelboaaWirRef
namespace Go.Proofs.Ytplcdjmidelboaa
set_option maxRecDepth 100000
open Go.RowKit Go.Sort

theorem run_cutN' {P : Program} {T : TypeId} (hT : P.underlying T = some .string) (s : ByteArray) (lo : Int) (a : Nat) (ha : lo = (a : Int)) (has : a ≤ s.size) (w : World) :
    (Instr.slice T (.string s) (some (.int .i64 lo)) none none).run P w = .ok (.string (s.extract a s.size)) w := by
  subst ha
  have h1 : (0 : Int) ≤ (a : Int) ∧ (a : Int) ≤ (s.size : Int) := by omega
  simp [Instr.slice, run_underlying hT, Instr.sliceBounds, Instr.sliceBound, asIntOf, h1, has]
theorem txt_mid (l : List Nat) (a b : Nat) : (txt l).extract a b = txt ((l.take b).drop a) := by
  apply ByteArray.ext
  rw [ByteArray.data_extract]
  apply Array.ext'
  simp [txt, List.extract, List.map_take, List.map_drop, List.drop_take]
theorem txt_from (l : List Nat) (a : Nat) : (txt l).extract a (txt l).size = txt (l.drop a) := by rw [txt_mid, txt_size, List.take_length]
/-- a text is cut behind its first a bytes -/
theorem cut_from (l : List Nat) (a : Nat) (h : a ≤ l.length) (w : World) : (Instr.slice 9 (.string (txt l)) (some (.int .i64 (a : Int))) none none).run Try.prog w = .ok (.string (txt (l.drop a))) w := by
  rw [run_cutN' Try.underlying9 _ (a : Int) a rfl (by rw [txt_size]; exact h), txt_from]
theorem cut_upto (l : List Nat) (a : Nat) (h : a ≤ l.length) (w : World) : (Instr.slice 9 (.string (txt l)) none (some (.int .i64 (a : Int))) none).run Try.prog w = .ok (.string (txt (l.take a))) w := by
  rw [run_cut0 Try.underlying9 _ (a : Int) a rfl (by rw [txt_size]; exact h), txt_mid, List.drop_zero]
theorem cut_mid (l : List Nat) (a b : Nat) (h : a ≤ b) (hb : b ≤ l.length) (w : World) : (Instr.slice 9 (.string (txt l)) (some (.int .i64 (a : Int))) (some (.int .i64 (b : Int))) none).run Try.prog w = .ok (.string (txt ((l.take b).drop a))) w := by
  rw [run_cut Try.underlying9 _ (a : Int) (b : Int) a b rfl rfl h (by rw [txt_size]; exact hb), txt_mid]
/-- a byte of a text -/
theorem run_at (l : List Nat) (hl : ∀ b ∈ l, b < 256) (i : Nat) (h : i < l.length) (w : World) : (Instr.index 9 (.string (txt l)) (.int .i64 (i : Int))).run Try.prog w = .ok (.int .u8 ((l[i] : Nat) : Int)) w := by
  have hi : (0 : Int) ≤ (i : Int) ∧ (i : Int) < ((txt l).size : Int) := by rw [txt_size]; omega
  rw [run_index_string w 9 (txt l) .i64 (i : Int) Try.underlying9, dif_pos hi]
  simp only [Int.toNat_natCast]
  rw [txt_get l i (by rw [txt_size]; exact h) hl]

theorem run_at0 (c : Nat) (t : List Nat) (hl : ∀ b ∈ c :: t, b < 256) (w : World) : (Instr.index 9 (.string (txt (c :: t))) (.int .i64 0)).run Try.prog w = .ok (.int .u8 (c : Int)) w := run_at (c :: t) hl 0 (by simp) w
theorem run_atS (c : Nat) (t : List Nat) (hl : ∀ b ∈ c :: t, b < 256) (k : Nat) (h : k < t.length) (w : World) : (Instr.index 9 (.string (txt (c :: t))) (.int .i64 ((k : Int) + 1))).run Try.prog w = .ok (.int .u8 ((t[k] : Nat) : Int)) w := run_at (c :: t) hl (k + 1) (by simp; omega) w

/-- what GetNumber answers -/
def numv (r : Nat × Nat × Nat) : Value := .tuple #[.int .u64 (r.1 : Int), .int .i64 (r.2.1 : Int), .int .i64 (r.2.2 : Int)]
theorem refGet_nil (w : World) : Calls Try.prog 77 #[.string (txt [])] w fun e w' => e = .returned (numv (rNum [])) ∧ Below w.heap.size w w' := by
  have hz : (txt []).size = 0 := txt_size []
  go_enter Try.func77, Try.ntmps77
  go_wp2
  exact bodyPost_ret (v := numv (0, 0, 4)) (by simp [results, Try.results77, go_sem, numv]) rfl ⟨rfl, Below.refl _ _⟩
theorem refGet_big (c : Nat) (t : List Nat) (w : World) (hl : ∀ b ∈ c :: t, b < 256) (h : 8 < c) (hz : t.length ≤ 1000000) : Calls Try.prog 77 #[.string (txt (c :: t))] w fun e w' => e = .returned (numv (rNum (c :: t))) ∧ Below w.heap.size w w' := by
  have hz2 : (txt (c :: t)).size = t.length + 1 := txt_size _
  have h0 := run_at0 c t hl
  have hc := hl c (List.mem_cons_self ..)
  have HE : Hid (rNum (c :: t) = (0, 0, 3)) := by unfold Hid; rw [rNum, if_pos h]
  generalize hx : txt (c :: t) = x at *
  go_enter Try.func77, Try.ntmps77
  go_wp2
  exact bodyPost_ret (v := numv (0, 0, 3)) (by simp [results, Try.results77, go_sem, numv]) rfl ⟨by rw [HE.out], Below.refl _ _⟩
theorem refGet_few (c : Nat) (t : List Nat) (w : World) (hl : ∀ b ∈ c :: t, b < 256) (h : ¬ 8 < c) (h2 : t.length < c) (hz : t.length ≤ 1000000) : Calls Try.prog 77 #[.string (txt (c :: t))] w fun e w' => e = .returned (numv (rNum (c :: t))) ∧ Below w.heap.size w w' := by
  have hz2 : (txt (c :: t)).size = t.length + 1 := txt_size _
  have h0 := run_at0 c t hl
  have HE : Hid (rNum (c :: t) = (0, 0, 4)) := by unfold Hid; rw [rNum, if_neg h, if_pos h2]
  generalize hx : txt (c :: t) = x at *
  go_enter Try.func77, Try.ntmps77
  go_wp2
  exact bodyPost_ret (v := numv (0, 0, 4)) (by simp [results, Try.results77, go_sem, numv]) rfl ⟨by rw [HE.out], Below.refl _ _⟩
theorem num_same (c : Nat) (t : List Nat) (hl : ∀ b ∈ t, b < 256) (h2 : ¬ t.length < c) : (!((txt (numN (valN (t.take c)))).toList == (txt (c :: t.take c)).toList)) = decide (nb (valN (t.take c)) < c) := by
  have hb : ∀ b ∈ t.take c, b < 256 := fun b hb => hl b (List.mem_of_mem_take hb)
  have hlen : (t.take c).length = c := by rw [List.length_take]; omega
  have hlt := valN_lt hb
  rw [hlen] at hlt
  have hle := nb_le.2 hlt
  rw [toList_beq]
  by_cases e : nb (valN (t.take c)) < c
  · rw [decide_eq_true e, decide_eq_false]; rfl
    intro h3
    have h4 := congrArg ByteArray.size h3
    rw [txt_size, txt_size, numN_length, List.length_cons, hlen] at h4
    omega
  · rw [decide_eq_false e, decide_eq_true]; rfl
    rw [numN, show nb (valN (t.take c)) = c by omega, dig_valN hb hlen]
set_option maxHeartbeats 1000000 in
theorem refGet_some (c : Nat) (t : List Nat) (w : World) (hl : ∀ b ∈ c :: t, b < 256) (h : ¬ 8 < c) (h2 : ¬ t.length < c) (hz : t.length ≤ 1000000) : Calls Try.prog 77 #[.string (txt (c :: t))] w fun e w' => e = .returned (numv (rNum (c :: t))) ∧ Below w.heap.size w w' := by
  have hz2 : (txt (c :: t)).size = t.length + 1 := txt_size _
  have h0 := run_at0 c t hl
  have hb : ∀ b ∈ t, b < 256 := fun b hb => hl b (List.mem_cons_of_mem _ hb)
  have HI := Lib.hid (fun (k : Nat) (hk : k < t.length) w => run_atS c t hl k hk w)
  have HS := Lib.hid (num_same c t hb h2)
  have HC : Hid (∀ w, (Instr.slice 9 (.string (txt (c :: t))) none (some (.int .i64 (1 + (c : Int)))) none).run Try.prog w = .ok (.string (txt (c :: t.take c))) w) := fun w => by
    have := cut_upto (c :: t) (c + 1) (by simp; omega) w
    rwa [List.take_succ_cons, show ((c + 1 : Nat) : Int) = 1 + (c : Int) by omega] at this
  have HV := Lib.hid (fun (k : Nat) (hk : k ≤ 8) => show valN (t.take k) < 18446744073709551616 from Nat.lt_of_lt_of_le (valN_lt (fun b hb' => hb b (List.mem_of_mem_take hb'))) (Nat.le_trans (Nat.pow_le_pow_right (by omega) (show (t.take k).length ≤ 8 by rw [List.length_take]; omega)) (by decide)))
  have HT := Lib.hid (fun (k : Nat) (hk : k < t.length) => show valN (t.take (k + 1)) = 256 * valN (t.take k) + t[k] by rw [List.take_add_one, List.getElem?_eq_getElem hk]; exact valN_snoc _ _)
  have HE : Hid (rNum (c :: t) = if nb (valN (t.take c)) < c then (0, 0, 3) else (valN (t.take c), 1 + c, 0)) := by unfold Hid; rw [rNum, if_neg h, if_neg h2]
  have HB := Lib.hid hb
  clear hb hl
  generalize hx : txt (c :: t) = x at *
  go_enter Try.func77, Try.ntmps77
  go_wp2
  clear h0
  go_loop [6, 7] (fun v i => ∃ k : Nat, k ≤ c ∧ i = .int .i64 (((k + 1 : Nat)) : Int) ∧ v = .int .u64 ((valN (t.take k) : Nat) : Int)) (fun _ i => 9 - (intOf i).toNat)
  case atStart => exact ⟨0, by omega, rfl, rfl⟩
  case round =>
    obtain ⟨k, hk, rfl, rfl⟩ := hrel
    by_cases hlt : k < c
    · have hi := HI.out k (by omega)
      have hT := Lib.hid (HT.out k (by omega))
      have hv := HV.out (k + 1) (by omega)
      rw [hT.out] at hv
      have hy := HB.out (t[k]'(by omega)) (List.getElem_mem _)
      generalize valN (t.take k) = v at *
      generalize t[k] = y at *
      go_wp2
      exact ⟨⟨k + 1, by omega, by go_num, by rw [hT.out]; exact congrArg (Value.int .u64) (by omega)⟩, by simp [intOf]; omega⟩
    · obtain rfl : k = c := by omega
      have hv := HV.out k (by omega)
      have HN : Gives Try.prog 28 #[.int .u64 ((valN (t.take k) : Nat) : Int)] (.string (txt (numN (valN (t.take k))))) := fun w => refNum_any _ w hv
      have hs := HS.out
      have hcut := HC.out
      have g1 : IntKind.i64.wrap (1 + (k : Int)) = 1 + (k : Int) := IntWalk.i64_in _ (by omega)
      clear HI HS HC HV HT HB
      generalize txt (numN (valN (t.take k))) = a at *
      generalize txt (k :: t.take k) = b at *
      generalize valN (t.take k) = v at *
      go_upto_region 13 with (fail)
      refine wp_region_quiet_below (by kernel_rfl) (by kernel_rfl) ?_
      repeat (first
        | go_big_quiet_skip
        | (go_big_quiet_want
           go_big_quiet_op
           first | go_big_quiet_on | go_big_quiet_call (first | with_reducible exact HN.grown _ _)))
      refine wpQuiet_nil ?_
      intro _ hw'
      obtain ⟨⟨dq, osq⟩, hw''⟩ := hw'
      subst hw''
      clear hcut g1
      by_cases hd : nb v < k
      · rw [if_pos hd] at HE
        rw [decide_eq_true hd]
        clear hs
        go_wp2
        exact bodyPost_ret (v := numv (0, 0, 3)) (by simp [results, Try.results77, go_sem, numv]) rfl ⟨by rw [HE.out], below_regrown _ dq osq⟩
      · rw [if_neg hd] at HE
        rw [decide_eq_false hd]
        clear hs
        go_wp2
        exact bodyPost_ret (v := numv (v, 1 + k, 0)) (by simp [results, Try.results77, go_sem, numv]) rfl ⟨by rw [HE.out], below_regrown _ dq osq⟩
theorem refGet_any (l : List Nat) (w : World) (hl : ∀ b ∈ l, b < 256) (hz : l.length ≤ 1000000) : Calls Try.prog 77 #[.string (txt l)] w fun e w' => e = .returned (numv (rNum l)) ∧ Below w.heap.size w w' := by
  cases l with
  | nil => exact refGet_nil w
  | cons c t =>
    have hz' : t.length ≤ 1000000 := by simp at hz; omega
    by_cases h : 8 < c
    · exact refGet_big c t w hl h hz'
    · by_cases h2 : t.length < c
      · exact refGet_few c t w hl h h2 hz'
      · exact refGet_some c t w hl h h2 hz'
end Go.Proofs.Ytplcdjmidelboaa
