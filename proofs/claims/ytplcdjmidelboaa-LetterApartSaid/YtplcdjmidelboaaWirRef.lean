/- The document's bytes: one, Number, Text, Place, Label. -/
import Derived.Test.YtplcdjmidelboaaWirPut
import Derived.Test.YtplcdjmidelboaaLabRefTell
namespace Go.Proofs.Ytplcdjmidelboaa
set_option maxRecDepth 100000
open Go.RowKit Go.Sort

theorem one_any (v : Nat) (w : World) (hv : v < 18446744073709551616) : Calls Try.prog 53 #[.int .u64 (v : Int)] w fun e w' => e = .returned (.string (txt [v % 256])) ∧ Below w.heap.size w w' := by
  have hcv := run_text_blk (P := Try.prog) (w.alloc (.cells (row [v % 256]) 5)) 85 5 9 Try.underlying85 Try.underlying5 Try.underlying9 w.heap.size 1 1 _ 5 rfl (Blk.new _ _ _)
  rw [show row [v % 256] = #[.int .u8 ((v : Int) % 256)] from rfl] at hcv
  go_enter Try.func53, Try.ntmps53
  go_wp2
  go_ret
  exact ⟨rfl, (Below.refl _ _).alloc (Nat.le_refl _) _⟩

theorem wrap_u64 (x : Nat) : IntKind.u64.wrap (x : Int) = ((x % 18446744073709551616 : Nat) : Int) := by
  show ((x : Int) % 18446744073709551616) = _
  omega
def natU : Value → Nat
  | .int _ n => n.toNat
  | _ => 0
theorem dig_front (v k : Nat) : txt [v / 256 ^ k % 256] ++ txt (dig k v) = txt (dig (k + 1) v) := by rw [← txt_append]; rfl
set_option maxHeartbeats 1000000 in
theorem refNum_any (v : Nat) (w : World) (hv : v < 18446744073709551616) : Calls Try.prog 28 #[.int .u64 (v : Int)] w fun e w' => e = .returned (.string (txt (numN v))) ∧ Below w.heap.size w w' := by
  have h8 := nb_le8 hv
  have HZ := Lib.hid (fun k => (nb_le (v := v) (k := k)))
  have HV := Lib.hid hv
  clear hv
  go_enter Try.func28, Try.ntmps28
  go_wp2
  go_loopw [0, 3] (fun a o wr => ∃ k : Nat, k ≤ nb v ∧ a = .int .u64 ((v / 256 ^ k : Nat) : Int) ∧ o = .string (txt (dig k v)) ∧ Below w.heap.size w wr) (fun a _ _ => natU a)
  case atStart => exact ⟨0, by omega, by rw [Nat.pow_zero, Nat.div_one], rfl, Below.refl _ _⟩
  case round =>
    obtain ⟨k, hk, rfl, rfl, B0⟩ := hrel
    have hp : 0 < 256 ^ k := Nat.pow_pos (by omega)
    have hle := Nat.div_le_self v (256 ^ k)
    have hz := txt_size (dig k v)
    rw [dig_length] at hz
    by_cases hlt : k < nb v
    · have hpos : v / 256 ^ k ≠ 0 := by
        intro h0
        have : v < 256 ^ k := by
          rcases Nat.lt_or_ge v (256 ^ k) with h | h
          · exact h
          · have := Nat.div_pos h hp; omega
        have := (HZ.out k).2 this
        omega
      have HF := Lib.hid (dig_front v k)
      have hq : Hid (v / 256 ^ k / 256 = v / 256 ^ (k + 1)) := by unfold Hid; rw [Nat.pow_succ, Nat.div_div_eq_div_mul]
      have hlv := Nat.lt_of_le_of_lt hle HV.out
      have HB := Lib.hid B0
      have hz1 := txt_size [v / 256 ^ k % 256]
      clear B0 hle hp
      generalize v / 256 ^ k = y at *
      have HO := Lib.hid (fun w => one_any y w hlv)
      have hb : decide ((0 : Int) < (y : Int)) = true := by simp; omega
      generalize txt (dig k v) = d at *
      go_wp2_with (go_at_call 53; (with_reducible refine (HO.out _).mono ?_); rintro e w1 ⟨rfl, hb1⟩)
      refine ⟨⟨k + 1, by omega, ?_, ?_, HB.out.trans (hb1.mono HB.out.size)⟩, by simp only [natU]; omega⟩
      · rw [← hq.out]; rfl
      · rw [HF.out]
    · obtain rfl : k = nb v := by omega
      have h0 : v / 256 ^ nb v = 0 := Nat.div_eq_of_lt (lt_nb v)
      have HO := Lib.hid (fun w => one_any (nb v) w (by omega))
      have HE : Hid (txt [nb v % 256] ++ txt (dig (nb v) v) = txt (numN v)) := by unfold Hid; rw [← txt_append, Nat.mod_eq_of_lt (by omega)]; rfl
      have HB := Lib.hid B0
      have hz1 := txt_size [nb v % 256]
      rw [h0]
      clear B0 hle hp h0
      generalize txt (dig (nb v) v) = d at *
      go_wp2_with (go_at_call 53; (with_reducible refine (HO.out _).mono ?_); rintro e w1 ⟨rfl, hb1⟩)
      go_ret
      rw [HE.out]
      exact ⟨rfl, HB.out.trans (hb1.mono HB.out.size)⟩
theorem take_snoc (l : List Nat) (k x : Nat) (h : l[k]? = some x) : txt (l.take k) ++ txt [x] = txt (l.take (k + 1)) := by
  rw [← txt_append, List.take_add_one, h]; rfl
set_option maxHeartbeats 1000000 in
theorem refPlace_any (p : Nat) (w : World) : Calls Try.prog 30 #[idv p] w fun e w' => e = .returned (.string (txt (dig 20 p))) ∧ Below w.heap.size w w' := by
  have HD := Lib.hid (fun i h => dig_get 20 p i h)
  have hl := dig_length 20 p
  rw [show idv p = .agg (row (dig 20 p)) from rfl]
  have HF : Hid ((dig 20 p).take 20 = dig 20 p) := by unfold Hid; rw [List.take_of_length_le (by omega)]
  go_enter Try.func30, Try.ntmps30
  go_upto_region 1 with (fail)
  have A0 := Lib.hid (Blk.new w (row (dig 20 p)) 23)
  have B0 := Lib.hid ((Below.refl w.heap.size w).alloc (Nat.le_refl _) (.cells (row (dig 20 p)) 23))
  generalize w.alloc _ = W at *
  go_wp2
  go_loopw [3, 4] (fun o i wr => ∃ k : Nat, k ≤ 20 ∧ i = .int .i64 (k : Int) ∧ o = .string (txt ((dig 20 p).take k)) ∧ Blk wr w.heap.size (row (dig 20 p)) 23 ∧ Below w.heap.size w wr) (fun _ i _ => 20 - (intOf i).toNat)
  case atStart => exact ⟨0, by omega, rfl, rfl, A0.out, B0.out⟩
  case round =>
    clear A0 B0
    obtain ⟨k, hk, rfl, rfl, A0, B0⟩ := hrel
    have hz := txt_size ((dig 20 p).take k)
    rw [List.length_take, hl] at hz
    by_cases hlt : k < 20
    · have hd := HD.out k hlt
      have hx : p / 256 ^ (20 - 1 - k) % 256 < 256 := Nat.mod_lt _ (by omega)
      have HT := Lib.hid (take_snoc _ _ _ hd)
      have c1 : wr.cell? ⟨w.heap.size, k, none⟩ = some (.int .u8 ((p / 256 ^ (20 - 1 - k) % 256 : Nat) : Int)) := by rw [A0.cell, row_get, hd]; rfl
      have hz2 : (txt ((dig 20 p).take k)).size ≤ 20 := by rw [hz]; omega
      clear hd hz
      have HA := Lib.hid A0
      have HB := Lib.hid B0
      clear A0 B0
      generalize p / 256 ^ (20 - 1 - k) % 256 = y at *
      have HO := Lib.hid (fun w => one_any y w (by omega))
      have hz1 := txt_size [y % 256]
      have HM : Hid (y % 256 = y) := by unfold Hid; omega
      generalize txt ((dig 20 p).take k) = o at *
      go_wp2_with (go_at_call 53; (with_reducible refine (HO.out _).mono ?_); rintro e w1 ⟨rfl, hb1⟩)
      refine ⟨⟨k + 1, by omega, by go_num, ?_, HA.out.below hb1 HA.out.lt, HB.out.trans (hb1.mono HB.out.size)⟩, by simp [intOf]; omega⟩
      rw [← HT.out, HM.out]
    · obtain rfl : k = 20 := by omega
      have HB := Lib.hid B0
      clear A0 B0
      rw [HF.out]
      clear hz
      go_wp2
      go_ret
      exact ⟨rfl, HB.out⟩
theorem lab_out (n c k : Nat) (h : k < 8) : txt (n :: (dig 8 c).take k) ++ txt [digit c (7 - k)] = txt (n :: (dig 8 c).take (k + 1)) := by
  rw [← txt_append, List.cons_append, List.take_add_one, dig_get 8 c k h]
  rfl
theorem lab_shift (c k : Nat) (h : k < 8) : c * 256 ^ k % 18446744073709551616 / 72057594037927936 = digit c (7 - k) := by
  unfold digit
  have e1 : (18446744073709551616 : Nat) = 256 ^ 8 := by decide
  have e2 : (72057594037927936 : Nat) = 256 ^ 7 := by decide
  rw [e1, e2, show (8 : Nat) = 7 + 1 from rfl, Nat.pow_succ, Nat.mod_mul_right_div_self]
  obtain ⟨j, hj⟩ : ∃ j, 7 = k + j := ⟨7 - k, by omega⟩
  rw [hj, show k + j - k = j by omega, Nat.pow_add, Nat.mul_comm (256 ^ k), Nat.mul_div_mul_right _ _ (Nat.pow_pos (by omega))]
end Go.Proofs.Ytplcdjmidelboaa
