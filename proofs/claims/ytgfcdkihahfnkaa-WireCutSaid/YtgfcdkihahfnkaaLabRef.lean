/- The document's calls on labels: bits, number, fill, of, Bits, Is. -/
import Derived.Test.YtgfcdkihahfnkaaLabMem
import Derived.Test.YtgfcdkihahfnkaaLabBits
namespace Go.Proofs.Ytgfcdkihahfnkaa
open Go.RowKit Go.Sort

theorem ret_str {a b : ByteArray} (h : a = b) : Ending.returned (.string a) = .returned (.string b) := by rw [h]
def sizeS : Value → Nat
  | .string x => x.size
  | _ => 0
theorem refBits_any (v : Nat) (w : World) (hv : v < 18446744073709551616) : Calls Try.prog 34 #[.int .u64 (v : Int)] w fun e w' => e = .returned (.string (txt (bitsN 64 v))) ∧ w = w' := by
  go_enter Try.func34, Try.ntmps34
  go_wp2
  go_loop [0, 3, 4] (fun x o i => ∃ k : Nat, k ≤ 64 ∧ i = .int .i64 k ∧ x = .int .u64 ((v / 2 ^ k : Nat) : Int) ∧ o = .string (txt (lowN k v))) (fun _ _ i => 64 - (intOf i).toNat)
  case atStart => exact ⟨0, by omega, rfl, by rw [Nat.pow_zero, Nat.div_one], rfl⟩
  case round =>
    obtain ⟨k, hk, rfl, rfl, rfl⟩ := hrel
    have hle := Nat.div_le_self v (2 ^ k)
    by_cases hlt : k < 64
    · have hs := Lib.hid (lowN_succ k v)
      have hq : Hid (v / 2 ^ k / 2 = v / 2 ^ (k + 1)) := by unfold Hid; rw [Nat.pow_succ, Nat.div_div_eq_div_mul]
      have hz : Hid ((txt (lowN k v)).size ≤ 64) := by unfold Hid; rw [txt_size, lowN, tab_length]; omega
      have hz' := hz.out
      generalize v / 2 ^ k = y at *
      have ha : Hid (txt [48 + y % 2] ++ txt (lowN k v) = txt (lowN (k + 1) v)) := by unfold Hid; rw [← txt_append, hs.out]
      generalize txt (lowN k v) = o at *
      rcases (by omega : y % 2 = 0 ∨ y % 2 = 1) with h2 | h2
      · have hb : (((y : Int) % 2) == 1) = false := by rw [beq_eq_false_iff_ne]; omega
        rw [h2] at ha
        clear h2
        go_wp2
        exact ⟨⟨k + 1, by omega, by go_num, by rw [← hq.out]; rfl, by rw [← ha.out]; rfl⟩, by simp [intOf]; omega⟩
      · have hb : (((y : Int) % 2) == 1) = true := by rw [beq_iff_eq]; omega
        rw [h2] at ha
        clear h2
        go_wp2
        exact ⟨⟨k + 1, by omega, by go_num, by rw [← hq.out]; rfl, by rw [← ha.out]; rfl⟩, by simp [intOf]; omega⟩
    · obtain rfl : k = 64 := by omega
      rw [lowN_full]
      go_wp2
      go_ret
      exact ⟨rfl, rfl⟩

theorem refNumber_any (l : List Nat) (w : World) (hl : l.length ≤ 64) (hb : Bin l) : Calls Try.prog 48 #[.string (txt l)] w fun e w' => e = .returned (.int .u64 ((num l : Nat) : Int)) ∧ w = w' := by
  have hz := txt_size l
  have HN : Hid (num (l.take l.length) = num l) := by unfold Hid; rw [List.take_length]
  go_enter Try.func48, Try.ntmps48
  go_wp2
  go_loop [3, 4] (fun x i => ∃ k : Nat, k ≤ l.length ∧ i = .int .i64 k ∧ x = .int .u64 ((num (l.take k) : Nat) : Int)) (fun _ i => l.length - (intOf i).toNat)
  case atStart => exact ⟨0, by omega, rfl, rfl⟩
  case round =>
    obtain ⟨k, hk, rfl, rfl⟩ := hrel
    by_cases hlt : k < l.length
    · have hs := Lib.hid (num_take_succ hlt)
      have hx := hb l[k] (List.getElem_mem hlt)
      have hv : num (l.take k) < 9223372036854775808 := by
        have h1 := num_lt (hb.take k)
        have h2 : 2 ^ (l.take k).length ≤ 2 ^ 63 := Nat.pow_le_pow_right (by omega) (by rw [List.length_take]; omega)
        exact Nat.lt_of_lt_of_le h1 h2
      have hg : Hid (((txt l)[k]'(by rw [hz]; exact hlt)).toNat = l[k]) := txt_get l k (by rw [hz]; exact hlt) hb.lt
      generalize num (l.take k) = y at *
      generalize hX : l[k] = x at *
      clear hX
      go_wp2
      refine ⟨⟨k + 1, by omega, by go_num, ?_⟩, by simp [intOf]; omega⟩
      refine congrArg (Value.int .u64) ?_
      rw [hs.out, hg.out, IntKind.wrap_u64]
      omega
    · obtain rfl : k = l.length := by omega
      rw [HN.out]
      go_wp2
      go_ret
      exact ⟨rfl, rfl⟩

theorem refFill_any (l : List Nat) (c : Nat) (x : ByteArray) (w : World) (hx : x = txt [c]) (hl : l.length ≤ 64) : Calls Try.prog 49 #[.string (txt l), .string x] w fun e w' => e = .returned (.string (txt (l ++ List.replicate (64 - l.length) c))) ∧ w = w' := by
  have HX := Lib.hid hx
  clear hx
  go_enter Try.func49, Try.ntmps49
  go_wp2
  go_loop [0] (fun o => ∃ k : Nat, l.length + k ≤ 64 ∧ o = .string (txt (l ++ List.replicate k c))) (fun o => 64 - sizeS o)
  case atStart => exact ⟨0, by omega, by simp⟩
  case round =>
    obtain ⟨k, hk, rfl⟩ := hrel
    have hz : Hid ((txt (l ++ List.replicate k c)).size = l.length + k) := by unfold Hid; rw [txt_size]; simp
    have hz2 : Hid ((txt (l ++ List.replicate (k + 1) c)).size = l.length + (k + 1)) := by unfold Hid; rw [txt_size]; simp
    have hs : Hid (txt (l ++ List.replicate k c) ++ x = txt (l ++ List.replicate (k + 1) c)) := by
      unfold Hid; rw [HX.out, ← txt_append, List.append_assoc, ← List.replicate_succ']
    have hx1 : x.size = 1 := by rw [HX.out, txt_size]; rfl
    by_cases hlt : l.length + k < 64
    · have hz' : (txt (l ++ List.replicate k c)).size < 64 := by rw [hz.out]; omega
      generalize hT : txt (l ++ List.replicate k c) = o at *
      go_wp2
      refine ⟨⟨k + 1, by omega, by rw [hs.out]⟩, ?_⟩
      rw [hs.out]
      simp only [sizeS, hz.out, hz2.out]
      omega
    · have hz' : (txt (l ++ List.replicate k c)).size = 64 := by rw [hz.out]; omega
      obtain rfl : k = 64 - l.length := by omega
      clear hs
      generalize hT : txt (l ++ List.replicate (64 - l.length) c) = o at *
      have HT := Lib.hid hT
      clear hT
      go_wp2
      go_ret
      exact ⟨ret_str HT.out.symm, rfl⟩

theorem results_lab1 {fn : Func} {p : Tmp} (h : fn.results = #[.cell p 26]) (tmps : Array Value) (w : World) (g : Nat) (n : Int) (b : Nat)
    (hp : tmps.getD p undef = .pointer (some ⟨g, 0, none⟩)) (hg : Blk w g (labc n b) 26) :
    (results fn tmps).run Try.prog w = .ok (labv n b) w := by
  have hp' : tmps[p]?.getD undef = .pointer (some ⟨g, 0, none⟩) := by simpa using hp
  simp [results, h, hp', asAddr, run_loadVar_row w g 26 26 (labc n b) (0, 0) _ hg Try.underlying26 rfl infoLab, labv_eq]
theorem full_fill (l : List Nat) : num (l ++ List.replicate (64 - l.length) 48) = full l := num_rep0 l _
theorem refOf_any (l : List Nat) (w : World) (hl : l.length ≤ 64) (hb : Bin l) : Calls Try.prog 33 #[.string (txt l)] w fun e w' => e = .returned (labv (l.length : Int) (full l)) ∧ Below w.heap.size w w' := by
  have hz := txt_size l
  have HF := Lib.hid (fun w => refFill_any l 48 ⟨#[48]⟩ w rfl hl)
  have HN := Lib.hid (fun w => refNumber_any (l ++ List.replicate (64 - l.length) 48) w (by simp; omega) (hb.append (Bin.rep _ (.inl rfl))))
  rw [full_fill] at HN
  generalize l ++ List.replicate (64 - l.length) 48 = m at *
  generalize full l = r at *
  go_enter Try.func33, Try.ntmps33
  go_upto_region 1 with (fail)
  have Z := Lib.hid (Blk.new w (labc 0 0) 26)
  have B := Lib.hid ((Below.refl w.heap.size w).alloc (Nat.le_refl _) (.cells (labc 0 0) 26))
  rw [lab00]
  generalize w.alloc _ = W at *
  go_wp2_with (first | (go_at_call 49; (with_reducible refine (HF.out _).mono ?_); rintro e w' ⟨rfl, rfl⟩) | (go_at_call 48; (with_reducible refine (HN.out _).mono ?_); rintro e w' ⟨rfl, rfl⟩) | (refine p_storeL rfl _ _ rfl _ rfl (l.length : Int) r rfl 0 0 Z.out ?_))
  exact bodyPost_ret (results_lab1 Try.results33 _ _ _ _ _ rfl (Z.out.setRow _)) rfl ⟨rfl, bel_setRow B.out (Nat.le_refl _) _⟩
theorem refOf_bits (n b : Nat) (w : World) (hn : n ≤ 64) (hb : b < 18446744073709551616) : Calls Try.prog 33 #[.string (txt (bitsN n b))] w fun e w' => e = .returned (.agg (labc n (cutN n b))) ∧ Below w.heap.size w w' := by
  have h := refOf_any (bitsN n b) w (by rw [bitsN_length]; exact hn) (Bin.bits n b)
  rw [bitsN_length, full_bits n b hn hb] at h
  exact h
end Go.Proofs.Ytgfcdkihahfnkaa
