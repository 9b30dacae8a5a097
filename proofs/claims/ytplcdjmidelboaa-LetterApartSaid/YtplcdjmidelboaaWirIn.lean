/- The program's reader: first, join, number. -/
import Derived.Test.YtplcdjmidelboaaWirRd
namespace Go.Proofs.Ytplcdjmidelboaa
set_option maxRecDepth 100000
open Go.RowKit Go.Sort

theorem zeros1 : (#[Value.int IntKind.u8 0] : Array Value) = row [0] := rfl
theorem first_more {w : World} {g h c : Nat} {s : ByteArray} {p : Nat} (k : Rd w g h c s p) (hs : s.size ≤ 1000000) (most : Nat) (hlt : s.size ≤ p) :
    Calls Try.prog 78 #[.pointer (some ⟨g, 0, none⟩), .int .u8 (most : Int)] w fun e w' => e = .returned (.tuple #[.int .i64 0, .int .i64 4]) ∧ Below w.heap.size w w' := by
  go_enter Try.func78, Try.ntmps78
  go_upto_region 2 with (fail)
  have B0 := (Below.refl w.heap.size w).alloc (Nat.le_refl _) (.cells (row [0]) 112)
  rw [zeros1]
  have HF := Lib.hid (fill_more (k.below B0) hs w.heap.size 0 1 1 (by omega))
  generalize w.alloc _ = W at *
  go_wp2_with (go_at_call 79; (with_reducible refine HF.out.mono ?_); rintro e w1 ⟨rfl, hb1⟩)
  go_ret2
  exact ⟨rfl, B0.trans (hb1.mono B0.size)⟩
theorem first_some {w : World} {g h c : Nat} {s : ByteArray} {p : Nat} (k : Rd w g h c s p) (hs : s.size ≤ 1000000) (most : Nat) (hlt : p < s.size) (x : Nat) (hx : byteAt s p = x) :
    Calls Try.prog 78 #[.pointer (some ⟨g, 0, none⟩), .int .u8 (most : Int)] w fun e w' => e = .returned (if most < x then .tuple #[.int .i64 0, .int .i64 3] else .tuple #[.int .i64 (x : Int), .int .i64 0]) ∧ Rd w' g h c s (p + 1) ∧ Keep w w' g g := by
  have hb := byteAt_lt s p
  rw [hx] at hb
  have hg := k.lt
  have hne := k.ne
  by_cases hm : most < x
  · rw [if_pos hm]
    have hd : decide (most < x) = true := decide_eq_true hm
    clear hm
    go_enter Try.func78, Try.ntmps78
    go_upto_region 2 with (fail)
    have B0 := (Below.refl w.heap.size w).alloc (Nat.le_refl _) (.cells (row [0]) 112)
    have A0 := Blk.new w (row [0]) 112
    rw [zeros1]
    have HF := fill_yes (k.below B0) hs w.heap.size 0 1 1 (by omega) [0] 112 A0 (by simp) (by omega) (by omega)
    rw [show ([0] : List Nat).take 0 ++ (rest s p).take 1 ++ ([0] : List Nat).drop (0 + 1) = [x] by rw [rest_cons s p hlt, hx]; rfl] at HF
    replace HF := Lib.hid HF
    clear A0
    generalize w.alloc _ = W at *
    go_upto_region 3 with (go_at_call 79; (with_reducible refine HF.out.mono ?_); rintro e w1 ⟨rfl, hr1, hb1, hk1⟩)
    have HR := Lib.hid hr1
    have HK : Hid (Keep w w1 g g) := (Keep.of B0 g g).new hk1 (Nat.le_refl _)
    have c0 : w1.cell? ⟨w.heap.size, 0, none⟩ = some (.int .u8 (x : Int)) := hb1.cell 0
    clear hr1 hk1 hb1 HF B0 k
    go_wp2
    go_ret2
    exact ⟨rfl, HR.out, HK.out⟩
  · rw [if_neg hm]
    have hd : decide (most < x) = false := decide_eq_false hm
    clear hm
    go_enter Try.func78, Try.ntmps78
    go_upto_region 2 with (fail)
    have B0 := (Below.refl w.heap.size w).alloc (Nat.le_refl _) (.cells (row [0]) 112)
    have A0 := Blk.new w (row [0]) 112
    rw [zeros1]
    have HF := fill_yes (k.below B0) hs w.heap.size 0 1 1 (by omega) [0] 112 A0 (by simp) (by omega) (by omega)
    rw [show ([0] : List Nat).take 0 ++ (rest s p).take 1 ++ ([0] : List Nat).drop (0 + 1) = [x] by rw [rest_cons s p hlt, hx]; rfl] at HF
    replace HF := Lib.hid HF
    clear A0
    generalize w.alloc _ = W at *
    go_upto_region 3 with (go_at_call 79; (with_reducible refine HF.out.mono ?_); rintro e w1 ⟨rfl, hr1, hb1, hk1⟩)
    have HR := Lib.hid hr1
    have HK : Hid (Keep w w1 g g) := (Keep.of B0 g g).new hk1 (Nat.le_refl _)
    have c0 : w1.cell? ⟨w.heap.size, 0, none⟩ = some (.int .u8 (x : Int)) := hb1.cell 0
    clear hr1 hk1 hb1 HF B0 k
    go_wp2
    go_ret2
    exact ⟨rfl, HR.out, HK.out⟩

theorem run_part_w (l : List Nat) (i : Nat) (h : i < l.length) (hl : l.length = 8) (w : World) : (Instr.index 82 (.agg (row l)) (.int .i64 (i : Int))).run Try.prog w = .ok (.int .u8 ((l[i] : Nat) : Int)) w := by
  have e := run_part5 l i h w
  have hi : (0 : Int) ≤ i ∧ (i : Int) < 8 := by omega
  simp [Instr.index, asIntOf, run_underlying Try.underlying82, e]
  omega
theorem or_byte (v x : Nat) (hv : 256 * v + x < 18446744073709551616) (hx : x < 256) : bits .or .u64 (IntKind.u64.wrap ((v : Int) * 256)) (x : Int) = ((256 * v + x : Nat) : Int) := by
  rw [show (v : Int) * 256 = ((256 * v : Nat) : Int) by omega, wrap_u64, Nat.mod_eq_of_lt (by omega), u64_or_nat _ _ (by omega) (by omega), or_high (256 * v) x 8 (by omega) (by omega)]
theorem or_byte' (v x : Nat) (hv : 256 * v + x < 18446744073709551616) (hx : x < 256) : bits .or .u64 ((v : Int) * 256) (x : Int) = ((256 * v + x : Nat) : Int) := by
  rw [show (v : Int) * 256 = ((256 * v : Nat) : Int) by omega, u64_or_nat _ _ (by omega) (by omega), or_high (256 * v) x 8 (by omega) (by omega)]
set_option maxHeartbeats 1000000 in
theorem join_any (l : List Nat) (hb : ∀ b ∈ l, b < 256) (hl : l.length = 8) (w : World) : Calls Try.prog 80 #[.agg (row l)] w fun e w' => e = .returned (.int .u64 ((valN l : Nat) : Int)) ∧ Below w.heap.size w w' := by
  have HI := Lib.hid (fun (k : Nat) (hk : k < l.length) w => run_part_w l k hk hl w)
  have HV := Lib.hid (fun (k : Nat) (hk : k ≤ 8) => show valN (l.take k) < 18446744073709551616 from Nat.lt_of_lt_of_le (valN_lt (fun b hb' => hb b (List.mem_of_mem_take hb'))) (Nat.le_trans (Nat.pow_le_pow_right (by omega) (show (l.take k).length ≤ 8 by rw [List.length_take]; omega)) (by decide)))
  have HT := Lib.hid (fun (k : Nat) (hk : k < l.length) => show valN (l.take (k + 1)) = 256 * valN (l.take k) + l[k] by rw [List.take_add_one, List.getElem?_eq_getElem hk]; exact valN_snoc _ _)
  have HF : Hid (valN (l.take 8) = valN l) := by unfold Hid; rw [List.take_of_length_le (by omega)]
  have HB := Lib.hid hb
  clear hb
  go_enter Try.func80, Try.ntmps80
  go_upto_region 1 with (fail)
  have A0 := Blk.new w (row l) 82
  have B0 := (Below.refl w.heap.size w).alloc (Nat.le_refl _) (.cells (row l) 82)
  generalize w.alloc _ = W at *
  go_wp2_with (refine wpList_load_row rfl 82 _ rfl w.heap.size rfl 82 _ (0, 0) _ A0 Try.underlying82 rfl (info_w _ hl) ?_)
  have HB0 := Lib.hid B0
  clear A0 B0
  go_loop [3, 7] (fun v i => ∃ k : Nat, k ≤ 8 ∧ i = .int .i64 (k : Int) ∧ v = .int .u64 ((valN (l.take k) : Nat) : Int)) (fun _ i => 8 - (intOf i).toNat)
  case atStart => exact ⟨0, by omega, rfl, rfl⟩
  case round =>
    obtain ⟨k, hk, rfl, rfl⟩ := hrel
    by_cases hlt : k < 8
    · have hi := HI.out k (by omega)
      have hT := Lib.hid (HT.out k (by omega))
      have hv := HV.out (k + 1) (by omega)
      rw [hT.out] at hv
      have hy := HB.out (l[k]'(by omega)) (List.getElem_mem _)
      clear HI HT HV HB
      generalize valN (l.take k) = v at *
      generalize l[k]'(by omega) = y at *
      have ho := or_byte v y hv hy
      have ho' := or_byte' v y hv hy
      go_wp2
      exact ⟨⟨k + 1, by omega, by go_num, by rw [hT.out]; exact congrArg (Value.int .u64) (by omega)⟩, by simp [intOf]; omega⟩
    · obtain rfl : k = 8 := by omega
      rw [HF.out]
      go_wp2
      go_ret
      exact ⟨rfl, HB0.out⟩

/-! a number is read -/
theorem rest_succ_len (s : ByteArray) (p : Nat) : (rest s (p + 1)).length = s.size - (p + 1) := rest_length s (p + 1)
/-- what a call of the reader's answers, where it stands then, and what it leaves -/
def Reads (f : FuncId) (w : World) (g h c : Nat) (s : ByteArray) (p : Nat) (v : Value) (n e : Nat) : Prop :=
  Calls Try.prog f #[.pointer (some ⟨g, 0, none⟩)] w fun r w' => r = .returned (.tuple #[v, .int .i64 (e : Int)]) ∧ (∃ q, Rd w' g h c s q ∧ (e = 0 → q = p + n)) ∧ Keep w w' g g
theorem number_end {w : World} {g h c : Nat} {s : ByteArray} {p : Nat} (k : Rd w g h c s p) (hs : s.size ≤ 1000000) (hp : s.size ≤ p) : Reads 73 w g h c s p (.int .u64 0) 0 4 := by
  have HF := first_more k hs 8 hp
  rw [show ((8 : Nat) : Int) = 8 from rfl] at HF
  replace HF := Lib.hid HF
  have HR := Lib.hid k
  unfold Reads
  clear k
  go_enter Try.func73, Try.ntmps73
  go_wp2_with (go_at_call 78; (with_reducible refine HF.out.mono ?_); rintro e w1 ⟨rfl, hb1⟩)
  go_ret2
  exact ⟨rfl, ⟨p, HR.out.below hb1, fun h => by cases h⟩, Keep.of hb1 g g⟩
theorem number_big {w : World} {g h c : Nat} {s : ByteArray} {p : Nat} (k : Rd w g h c s p) (hs : s.size ≤ 1000000) (hp : p < s.size) (hx : 8 < byteAt s p) : Reads 73 w g h c s p (.int .u64 0) 0 3 := by
  have HF := first_some k hs 8 hp (byteAt s p) rfl
  rw [if_pos hx, show ((8 : Nat) : Int) = 8 from rfl] at HF
  replace HF := Lib.hid HF
  unfold Reads
  clear k
  go_enter Try.func73, Try.ntmps73
  go_wp2_with (go_at_call 78; (with_reducible refine HF.out.mono ?_); rintro e w1 ⟨rfl, hr1, hk1⟩)
  go_ret2
  exact ⟨rfl, ⟨p + 1, hr1, fun h => by cases h⟩, hk1⟩
/-- a word's last bytes are filled -/
theorem word_filled (m : List Nat) (n : Nat) (hm : m.length = n) (hn : n ≤ 8) : (List.replicate 8 0).take (offO (8 - n) 8) ++ m ++ (List.replicate 8 0).drop (offO (8 - n) 8 + n) = List.replicate (8 - n) 0 ++ m := by
  unfold offO
  by_cases h : n = 0
  · subst h
    obtain rfl : m = [] := List.eq_nil_of_length_eq_zero hm
    simp
  · rw [if_neg (by omega), show 8 - n + n = 8 by omega, List.take_replicate, List.drop_replicate, show min (8 - n) 8 = 8 - n by omega]
    simp
set_option maxHeartbeats 1000000 in
theorem number_few {w : World} {g h c : Nat} {s : ByteArray} {p : Nat} (k : Rd w g h c s p) (hs : s.size ≤ 1000000) (hp : p < s.size) (n : Nat) (hn : byteAt s p = n) (hx : ¬ 8 < n) (hf : s.size < p + 1 + n) : Reads 73 w g h c s p (.int .u64 0) 0 4 := by
  have HF := first_some k hs 8 hp n hn
  rw [if_neg hx, show ((8 : Nat) : Int) = 8 from rfl] at HF
  replace HF := Lib.hid HF
  have hg := k.lt
  have hr := run_from8
  unfold Reads
  clear k hn
  go_enter Try.func73, Try.ntmps73
  go_upto_region 2 with (go_at_call 78; (with_reducible refine HF.out.mono ?_); rintro e w1 ⟨rfl, hr1, hk1⟩)
  go_upto_region 5 with (fail)
  rw [zeros8]
  have B1 := (Below.refl w1.heap.size w1).alloc (Nat.le_refl _) (.cells (row (List.replicate 8 0)) 82)
  have HK : Hid (Keep w _ g g) := hk1.trans (Keep.of B1 g g)
  have HR := Lib.hid (hr1.below B1)
  have HM := Lib.hid (fill_more HR.out hs w1.heap.size (offO (8 - n) 8) n n hf)
  have hsl := hr w1.heap.size n (by omega)
  clear hr HF hr1 hk1 B1
  generalize w1.alloc _ = W at *
  go_wp2_with (go_at_call 79; (with_reducible refine HM.out.mono ?_); rintro e w2 ⟨rfl, hb2⟩)
  go_ret2
  exact ⟨rfl, ⟨p + 1, HR.out.below hb2, fun h => by cases h⟩, HK.out.trans (Keep.of hb2 g g)⟩
set_option maxHeartbeats 1000000 in
theorem number_some {w : World} {g h c : Nat} {s : ByteArray} {p : Nat} (k : Rd w g h c s p) (hs : s.size ≤ 1000000) (hp : p < s.size) (n : Nat) (hn : byteAt s p = n) (hx : ¬ 8 < n) (hf : p + 1 + n ≤ s.size) (V : Nat) (hV : V = valN ((rest s (p + 1)).take n)) :
    Reads 73 w g h c s p (if nb V < n then .int .u64 0 else .int .u64 (V : Int)) (1 + n) (if nb V < n then 3 else 0) := by
  have HF := first_some k hs 8 hp n hn
  rw [if_neg hx, show ((8 : Nat) : Int) = 8 from rfl] at HF
  replace HF := Lib.hid HF
  have hr := run_from8
  have hml : ((rest s (p + 1)).take n).length = n := by rw [List.length_take, rest_length]; omega
  have hmb : ∀ b ∈ (rest s (p + 1)).take n, b < 256 := fun b hb => rest_lt s (p + 1) b (List.mem_of_mem_take hb)
  have hvl : V < 18446744073709551616 := by
    rw [hV]
    have := valN_lt hmb
    rw [hml] at this
    exact Nat.lt_of_lt_of_le this (Nat.le_trans (Nat.pow_le_pow_right (by omega) (show n ≤ 8 by omega)) (by decide))
  have h8 := nb_le8 hvl
  have hbl : bitLen V ≤ 64 := by unfold nb at h8; omega
  have HL := Lib.hid (fun w => len64_any V w hvl)
  have HE := Lib.hid (fun w => eights_any (bitLen V) w hbl)
  rw [show (bitLen V + 7) / 8 = nb V from rfl] at HE
  have hwl : (List.replicate (8 - n) 0 ++ (rest s (p + 1)).take n).length = 8 := by rw [List.length_append, List.length_replicate, hml]; omega
  have HJ : Hid (∀ w, Calls Try.prog 80 #[.agg (row (List.replicate (8 - n) 0 ++ (rest s (p + 1)).take n))] w fun e w' => e = .returned (.int .u64 (V : Int)) ∧ Below w.heap.size w w') := fun w => by
    have := join_any _ (fun b hb => by
      rcases List.mem_append.1 hb with h | h
      · rw [(List.mem_replicate.1 h).2]; omega
      · exact hmb b h) hwl w
    rwa [valN_front, ← hV] at this
  have hg := k.lt
  unfold Reads
  clear k hn hmb hV hbl
  by_cases hm : nb V < n
  · rw [if_pos hm, if_pos hm]
    have hd : decide (nb V < n) = true := decide_eq_true hm
    clear hm
    go_enter Try.func73, Try.ntmps73
    go_upto_region 2 with (go_at_call 78; (with_reducible refine HF.out.mono ?_); rintro e w1 ⟨rfl, hr1, hk1⟩)
    go_upto_region 5 with (fail)
    rw [zeros8]
    have B1 := (Below.refl w1.heap.size w1).alloc (Nat.le_refl _) (.cells (row (List.replicate 8 0)) 82)
    have A1 := Blk.new w1 (row (List.replicate 8 0)) 82
    have HK : Hid (Keep w _ g g) := hk1.trans (Keep.of B1 g g)
    have hg1 := hr1.lt
    have hne := hr1.ne
    have hw1 := hk1.size
    have HM := fill_yes (hr1.below B1) hs w1.heap.size (offO (8 - n) 8) n n hf (List.replicate 8 0) 82 A1 (by have := offO_le (8 - n) 8 (by omega); simp; omega) (by omega) (by omega)
    rw [word_filled _ n hml (by omega)] at HM
    replace HM := Lib.hid HM
    have hsl := hr w1.heap.size n (by omega)
    clear hr HF hr1 hk1 B1 A1
    generalize w1.heap.size = b at *
    generalize w1.alloc _ = W at *
    go_upto_region 6 with (go_at_call 79; (with_reducible refine HM.out.mono ?_); rintro e w2 ⟨rfl, hr2, hb2, hk2⟩)
    have HK2 : Hid (Keep w w2 g g) := HK.out.new hk2 (by omega)
    have HR2 := Lib.hid hr2
    have HB2 := Lib.hid hb2
    clear HK hk2 hr2 hb2 hsl HM
    go_upto_region 9 with (first | (refine wpList_load_row rfl 82 _ rfl b rfl 82 _ (0, 0) _ HB2.out Try.underlying82 rfl (info_w _ hwl) ?_) | (go_at_call 80; (with_reducible refine (HJ.out _).mono ?_); rintro e w3 ⟨rfl, hb3⟩))
    have HK3 : Hid (Keep w w3 g g) := HK2.out.trans (Keep.of hb3 g g)
    have HR3 := Lib.hid (HR2.out.below hb3)
    clear HK2 HR2 HB2 hb3 HJ
    go_wp2_with (first | (go_at_call 50; (with_reducible refine (HL.out _).mono ?_); rintro e w4 ⟨rfl, rfl⟩) | (go_at_call 49; (with_reducible refine (HE.out _).mono ?_); rintro e w5 ⟨rfl, rfl⟩))
    go_ret2
    refine ⟨rfl, ⟨p + 1 + n, HR3.out, fun _ => by omega⟩, HK3.out⟩
  · rw [if_neg hm, if_neg hm]
    have hd : decide (nb V < n) = false := decide_eq_false hm
    clear hm
    go_enter Try.func73, Try.ntmps73
    go_upto_region 2 with (go_at_call 78; (with_reducible refine HF.out.mono ?_); rintro e w1 ⟨rfl, hr1, hk1⟩)
    go_upto_region 5 with (fail)
    rw [zeros8]
    have B1 := (Below.refl w1.heap.size w1).alloc (Nat.le_refl _) (.cells (row (List.replicate 8 0)) 82)
    have A1 := Blk.new w1 (row (List.replicate 8 0)) 82
    have HK : Hid (Keep w _ g g) := hk1.trans (Keep.of B1 g g)
    have hg1 := hr1.lt
    have hne := hr1.ne
    have hw1 := hk1.size
    have HM := fill_yes (hr1.below B1) hs w1.heap.size (offO (8 - n) 8) n n hf (List.replicate 8 0) 82 A1 (by have := offO_le (8 - n) 8 (by omega); simp; omega) (by omega) (by omega)
    rw [word_filled _ n hml (by omega)] at HM
    replace HM := Lib.hid HM
    have hsl := hr w1.heap.size n (by omega)
    clear hr HF hr1 hk1 B1 A1
    generalize w1.heap.size = b at *
    generalize w1.alloc _ = W at *
    go_upto_region 6 with (go_at_call 79; (with_reducible refine HM.out.mono ?_); rintro e w2 ⟨rfl, hr2, hb2, hk2⟩)
    have HK2 : Hid (Keep w w2 g g) := HK.out.new hk2 (by omega)
    have HR2 := Lib.hid hr2
    have HB2 := Lib.hid hb2
    clear HK hk2 hr2 hb2 hsl HM
    go_upto_region 9 with (first | (refine wpList_load_row rfl 82 _ rfl b rfl 82 _ (0, 0) _ HB2.out Try.underlying82 rfl (info_w _ hwl) ?_) | (go_at_call 80; (with_reducible refine (HJ.out _).mono ?_); rintro e w3 ⟨rfl, hb3⟩))
    have HK3 : Hid (Keep w w3 g g) := HK2.out.trans (Keep.of hb3 g g)
    have HR3 := Lib.hid (HR2.out.below hb3)
    clear HK2 HR2 HB2 hb3 HJ
    go_wp2_with (first | (go_at_call 50; (with_reducible refine (HL.out _).mono ?_); rintro e w4 ⟨rfl, rfl⟩) | (go_at_call 49; (with_reducible refine (HE.out _).mono ?_); rintro e w5 ⟨rfl, rfl⟩))
    go_ret2
    refine ⟨rfl, ⟨p + 1 + n, HR3.out, fun _ => by omega⟩, HK3.out⟩
theorem number_any {w : World} {g h c : Nat} {s : ByteArray} {p : Nat} (k : Rd w g h c s p) (hs : s.size ≤ 1000000) :
    Reads 73 w g h c s p (.int .u64 ((rNum (rest s p)).1 : Int)) (rNum (rest s p)).2.1 (rNum (rest s p)).2.2 := by
  rcases Nat.lt_or_ge p s.size with hp | hp
  · rw [rest_cons s p hp]
    by_cases hx : 8 < byteAt s p
    · rw [show rNum (byteAt s p :: rest s (p + 1)) = (0, 0, 3) by rw [rNum, if_pos hx]]
      exact number_big k hs hp hx
    · by_cases hf : (rest s (p + 1)).length < byteAt s p
      · rw [show rNum (byteAt s p :: rest s (p + 1)) = (0, 0, 4) by rw [rNum, if_neg hx, if_pos hf]]
        exact number_few k hs hp _ rfl hx (by rw [rest_length] at hf; omega)
      · have hN := number_some k hs hp _ rfl hx (by rw [rest_length] at hf; omega) _ rfl
        rw [rNum, if_neg hx, if_neg hf]
        by_cases hm : nb (valN ((rest s (p + 1)).take (byteAt s p))) < byteAt s p
        · rw [if_pos hm, if_pos hm] at hN
          rw [if_pos hm]
          unfold Reads at hN ⊢
          refine hN.mono ?_
          rintro e w' ⟨h1, ⟨q, h2, _⟩, h3⟩
          exact ⟨h1, ⟨q, h2, fun h => by cases h⟩, h3⟩
        · rw [if_neg hm, if_neg hm] at hN
          rw [if_neg hm]
          exact hN
  · rw [rest_nil s p hp]
    exact number_end k hs hp
end Go.Proofs.Ytplcdjmidelboaa
