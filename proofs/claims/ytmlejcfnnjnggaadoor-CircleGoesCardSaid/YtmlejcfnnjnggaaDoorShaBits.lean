/- The small calls of layer 2: a number is turned to the left; f and k of a step; the beginning. -/
import Derived.Test.YtmlejcfnnjnggaaDoorShaNum
import Derived.Test.YtmlejcfnnjnggaaDoorMem
import Derived.Laws.BitsAllLaws
namespace Go.Proofs.YtmlejcfnnjnggaaDoor
open Go.RowKit

/-- a number of 32 bits, as a value -/
def u32v (n : Nat) : Value := .int .u32 (n : Int)
theorem ret_u32 {a : Int} {n : Nat} (h : a = (n : Int)) : Ending.returned (.int .u32 a) = .returned (.int .u32 (n : Int)) := by rw [h]

theorem u32_max : IntKind.u32.max = 4294967295 := by decide
theorem or_left1 (x : Nat) (h : x < 4294967296) : bits .or .u32 ((x : Int) * 2 % 4294967296) ((x : Int) / 2147483648) = ((left1 x : Nat) : Int) := by
  rw [show (x : Int) * 2 % 4294967296 = ((x * 2 % 4294967296 : Nat) : Int) by omega, show (x : Int) / 2147483648 = ((x / 2147483648 : Nat) : Int) by omega, u32_or_nat _ _ (by omega) (by omega), ← rotl_one, ← rotl_or x 1 (by omega) h]
theorem wrap_u32_nat (n : Nat) : IntKind.u32.wrap (n : Int) = ((n % 4294967296 : Nat) : Int) := by rw [IntKind.wrap_u32']; omega

theorem rot1 (v : Nat) (w : World) (hv : v < 4294967296) : Calls Tryd.prog 68 #[.int .u32 (v : Int), .int .i64 1] w fun e w' => e = .returned (.int .u32 ((rotl v 1 : Nat) : Int)) ∧ w = w' := by
  have h1 : bits .and .u64 1 31 = 1 := by decide +kernel
  have h2 : IntKind.u64.wrap 1 = 1 := by decide +kernel
  go_enter Tryd.func68, Tryd.ntmps68
  go_wp2
  go_ret
  refine ⟨ret_u32 ?_, rfl⟩
  rw [show (v : Int) * 2 % 4294967296 = ((v * 2 ^ 1 % 4294967296 : Nat) : Int) by omega, show (v : Int) / 2147483648 = ((v / 2 ^ (32 - 1) : Nat) : Int) by omega, u32_or_nat _ _ (by omega) (by omega), rotl_or v 1 (by omega) hv]
theorem rot5 (v : Nat) (w : World) (hv : v < 4294967296) : Calls Tryd.prog 68 #[.int .u32 (v : Int), .int .i64 5] w fun e w' => e = .returned (.int .u32 ((rotl v 5 : Nat) : Int)) ∧ w = w' := by
  have h1 : bits .and .u64 5 31 = 5 := by decide +kernel
  have h2 : IntKind.u64.wrap 5 = 5 := by decide +kernel
  go_enter Tryd.func68, Tryd.ntmps68
  go_wp2
  go_ret
  refine ⟨ret_u32 ?_, rfl⟩
  rw [show (v : Int) * 32 % 4294967296 = ((v * 2 ^ 5 % 4294967296 : Nat) : Int) by omega, show (v : Int) / 134217728 = ((v / 2 ^ (32 - 5) : Nat) : Int) by omega, u32_or_nat _ _ (by omega) (by omega), rotl_or v 5 (by omega) hv]
theorem rot30 (v : Nat) (w : World) (hv : v < 4294967296) : Calls Tryd.prog 68 #[.int .u32 (v : Int), .int .i64 30] w fun e w' => e = .returned (.int .u32 ((rotl v 30 : Nat) : Int)) ∧ w = w' := by
  have h1 : bits .and .u64 30 31 = 30 := by decide +kernel
  have h2 : IntKind.u64.wrap 30 = 30 := by decide +kernel
  go_enter Tryd.func68, Tryd.ntmps68
  go_wp2
  go_ret
  refine ⟨ret_u32 ?_, rfl⟩
  rw [show (v : Int) * 1073741824 % 4294967296 = ((v * 2 ^ 30 % 4294967296 : Nat) : Int) by omega, show (v : Int) / 4 = ((v / 2 ^ (32 - 30) : Nat) : Int) by omega, u32_or_nat _ _ (by omega) (by omega), rotl_or v 30 (by omega) hv]
theorem left_any (v n : Nat) (w : World) (hv : v < 4294967296) (hn : n ≤ 32) : Calls Tryd.prog 73 #[.int .u32 (v : Int), .int .i64 (n : Int)] w fun e w' => e = .returned (.int .u32 ((rotl v n : Nat) : Int)) ∧ w = w' := by
  go_enter Tryd.func73, Tryd.ntmps73
  go_wp2
  go_loop [0, 5] (fun x i => ∃ k : Nat, k ≤ n ∧ i = .int .i64 k ∧ x = .int .u32 ((rotl v k : Nat) : Int)) (fun _ i => n - (intOf i).toNat)
  case atStart => exact ⟨0, by omega, rfl, by rw [rotl_zero v hv]⟩
  case round =>
    obtain ⟨k, hk, rfl, rfl⟩ := hrel
    have hl := rotl_lt v k (by omega) hv
    by_cases hlt : k < n
    · have hs := Lib.hid (rotl_succ v k (by omega) hv)
      generalize rotl v k = x at *
      go_wp2
      exact ⟨⟨k + 1, by omega, by go_num, by rw [← hs.out, or_left1 x hl]⟩, by simp [intOf]; omega⟩
    · obtain rfl : k = n := by omega
      go_wp2
      go_ret
      exact ⟨rfl, rfl⟩
theorem left1_any (v : Nat) (w : World) (hv : v < 4294967296) : Calls Tryd.prog 73 #[.int .u32 (v : Int), .int .i64 1] w fun e w' => e = .returned (.int .u32 ((rotl v 1 : Nat) : Int)) ∧ w = w' := left_any v 1 w hv (by omega)
theorem left5_any (v : Nat) (w : World) (hv : v < 4294967296) : Calls Tryd.prog 73 #[.int .u32 (v : Int), .int .i64 5] w fun e w' => e = .returned (.int .u32 ((rotl v 5 : Nat) : Int)) ∧ w = w' := left_any v 5 w hv (by omega)
theorem left30_any (v : Nat) (w : World) (hv : v < 4294967296) : Calls Tryd.prog 73 #[.int .u32 (v : Int), .int .i64 30] w fun e w' => e = .returned (.int .u32 ((rotl v 30 : Nat) : Int)) ∧ w = w' := left_any v 30 w hv (by omega)

theorem n_and {a b : Nat} (ha : a < 4294967296) (hb : b < 4294967296) : bits .and .u32 (a : Int) (b : Int) = ((a &&& b : Nat) : Int) := u32_and_nat a b ha hb
theorem n_or {a b : Nat} (ha : a < 4294967296) (hb : b < 4294967296) : bits .or .u32 (a : Int) (b : Int) = ((a ||| b : Nat) : Int) := u32_or_nat a b ha hb
theorem n_xor {a b : Nat} (ha : a < 4294967296) (hb : b < 4294967296) : bits .xor .u32 (a : Int) (b : Int) = ((a ^^^ b : Nat) : Int) := u32_xor_nat a b ha hb
theorem n_not {b : Nat} (hb : b < 4294967296) : bits .xor .u32 4294967295 (b : Int) = ((4294967295 - b : Nat) : Int) := by
  rw [← not_eq b hb]; exact u32_xor_nat 4294967295 b (by omega) hb
theorem n_ch {b c d : Nat} (hb : b < 4294967296) (hc : c < 4294967296) (hd : d < 4294967296) : bits .or .u32 (bits .and .u32 (b : Int) (c : Int)) (bits .and .u32 (bits .xor .u32 4294967295 (b : Int)) (d : Int)) = (((b &&& c) ||| ((4294967295 - b) &&& d) : Nat) : Int) := by
  rw [n_not hb, n_and hb hc, n_and (by omega) hd, n_or (and_lt hb) (and_lt (by omega))]
theorem n_par {b c d : Nat} (hb : b < 4294967296) (hc : c < 4294967296) (hd : d < 4294967296) : bits .xor .u32 (bits .xor .u32 (b : Int) (c : Int)) (d : Int) = (((b ^^^ c) ^^^ d : Nat) : Int) := by
  rw [n_xor hb hc, n_xor (xor_lt hb hc) hd]
theorem n_maj {b c d : Nat} (hb : b < 4294967296) (hc : c < 4294967296) (hd : d < 4294967296) : bits .or .u32 (bits .or .u32 (bits .and .u32 (b : Int) (c : Int)) (bits .and .u32 (b : Int) (d : Int))) (bits .and .u32 (c : Int) (d : Int)) = ((((b &&& c) ||| (b &&& d)) ||| (c &&& d) : Nat) : Int) := by
  rw [n_and hb hc, n_and hb hd, n_and hc hd, n_or (and_lt hb) (and_lt hb), n_or (or_lt (and_lt hb) (and_lt hb)) (and_lt hc)]
theorem fOf1 {t b c d : Nat} (h : t < 20) : fOf t b c d = (b &&& c) ||| ((4294967295 - b) &&& d) := by unfold fOf; rw [if_pos h]
theorem fOf2 {t b c d : Nat} (h : 20 ≤ t ∧ t < 40) : fOf t b c d = (b ^^^ c) ^^^ d := by unfold fOf; rw [if_neg (by omega), if_pos h.2]
theorem fOf3 {t b c d : Nat} (h : 40 ≤ t ∧ t < 60) : fOf t b c d = ((b &&& c) ||| (b &&& d)) ||| (c &&& d) := by unfold fOf; rw [if_neg (by omega), if_neg (by omega), if_pos h.2]
theorem fOf4 {t b c d : Nat} (h : 60 ≤ t) : fOf t b c d = (b ^^^ c) ^^^ d := by unfold fOf; rw [if_neg (by omega), if_neg (by omega), if_neg (by omega)]
theorem kOf1 {t : Nat} (h : t < 20) : ((kOf t : Nat) : Int) = 1518500249 := by unfold kOf; rw [if_pos h]; rfl
theorem kOf2 {t : Nat} (h : 20 ≤ t ∧ t < 40) : ((kOf t : Nat) : Int) = 1859775393 := by unfold kOf; rw [if_neg (by omega), if_pos h.2]; rfl
theorem kOf3 {t : Nat} (h : 40 ≤ t ∧ t < 60) : ((kOf t : Nat) : Int) = 2400959708 := by unfold kOf; rw [if_neg (by omega), if_neg (by omega), if_pos h.2]; rfl
theorem kOf4 {t : Nat} (h : 60 ≤ t) : ((kOf t : Nat) : Int) = 3395469782 := by unfold kOf; rw [if_neg (by omega), if_neg (by omega), if_neg (by omega)]; rfl
theorem ret2_u32 {a b : Int} {n m : Nat} (h : a = (n : Int)) (h' : b = (m : Int)) : Ending.returned (.tuple #[.int .u32 a, .int .u32 b]) = .returned (.tuple #[.int .u32 (n : Int), .int .u32 (m : Int)]) := by rw [h, h']
theorem mix1 (t b c d : Nat) (w : World) (hb : b < 4294967296) (hc : c < 4294967296) (hd : d < 4294967296) (ht : t < 20) : Calls Tryd.prog 74 #[.int .u32 (b : Int), .int .u32 (c : Int), .int .u32 (d : Int)] w
    fun e w' => e = .returned (.tuple #[.int .u32 ((fOf t b c d : Nat) : Int), .int .u32 ((kOf t : Nat) : Int)]) ∧ w = w' := by
  have hs : IntKind.u32.signed = false := rfl
  have hm := u32_max
  go_enter Tryd.func74, Tryd.ntmps74
  go_wp2
  go_ret2
  refine ⟨ret2_u32 ?_ ?_, rfl⟩
  · rw [fOf1 ht]; exact n_ch hb hc hd
  · exact (kOf1 ht).symm
theorem mix2 (t b c d : Nat) (w : World) (hb : b < 4294967296) (hc : c < 4294967296) (hd : d < 4294967296) (ht : 20 ≤ t ∧ t < 40) : Calls Tryd.prog 75 #[.int .u32 (b : Int), .int .u32 (c : Int), .int .u32 (d : Int)] w
    fun e w' => e = .returned (.tuple #[.int .u32 ((fOf t b c d : Nat) : Int), .int .u32 ((kOf t : Nat) : Int)]) ∧ w = w' := by
  have hs : IntKind.u32.signed = false := rfl
  have hm := u32_max
  go_enter Tryd.func75, Tryd.ntmps75
  go_wp2
  go_ret2
  refine ⟨ret2_u32 ?_ ?_, rfl⟩
  · rw [fOf2 ht]; exact n_par hb hc hd
  · exact (kOf2 ht).symm
theorem mix3 (t b c d : Nat) (w : World) (hb : b < 4294967296) (hc : c < 4294967296) (hd : d < 4294967296) (ht : 40 ≤ t ∧ t < 60) : Calls Tryd.prog 76 #[.int .u32 (b : Int), .int .u32 (c : Int), .int .u32 (d : Int)] w
    fun e w' => e = .returned (.tuple #[.int .u32 ((fOf t b c d : Nat) : Int), .int .u32 ((kOf t : Nat) : Int)]) ∧ w = w' := by
  have hs : IntKind.u32.signed = false := rfl
  have hm := u32_max
  go_enter Tryd.func76, Tryd.ntmps76
  go_wp2
  go_ret2
  refine ⟨ret2_u32 ?_ ?_, rfl⟩
  · rw [fOf3 ht]; exact n_maj hb hc hd
  · exact (kOf3 ht).symm
theorem mix4 (t b c d : Nat) (w : World) (hb : b < 4294967296) (hc : c < 4294967296) (hd : d < 4294967296) (ht : 60 ≤ t) : Calls Tryd.prog 77 #[.int .u32 (b : Int), .int .u32 (c : Int), .int .u32 (d : Int)] w
    fun e w' => e = .returned (.tuple #[.int .u32 ((fOf t b c d : Nat) : Int), .int .u32 ((kOf t : Nat) : Int)]) ∧ w = w' := by
  have hs : IntKind.u32.signed = false := rfl
  have hm := u32_max
  go_enter Tryd.func77, Tryd.ntmps77
  go_wp2
  go_ret2
  refine ⟨ret2_u32 ?_ ?_, rfl⟩
  · rw [fOf4 ht]; exact n_par hb hc hd
  · exact (kOf4 ht).symm
theorem mixed_any (t b c d : Nat) (w : World) (hb : b < 4294967296) (hc : c < 4294967296) (hd : d < 4294967296) (ht : t < 80) : Calls Tryd.prog 72 #[.int .i64 (t : Int), .int .u32 (b : Int), .int .u32 (c : Int), .int .u32 (d : Int)] w
    fun e w' => e = .returned (.tuple #[.int .u32 ((fOf t b c d : Nat) : Int), .int .u32 ((kOf t : Nat) : Int)]) ∧ w = w' := by
  rcases (by omega : t < 20 ∨ (20 ≤ t ∧ t < 40) ∨ (40 ≤ t ∧ t < 60) ∨ 60 ≤ t) with h1 | h1 | h1 | h1
  · go_enter Tryd.func72, Tryd.ntmps72
    go_wp2
    go_ret2
    refine ⟨ret2_u32 ?_ ?_, rfl⟩
    · rw [fOf1 h1]; exact n_ch hb hc hd
    · exact (kOf1 h1).symm
  · go_enter Tryd.func72, Tryd.ntmps72
    go_wp2
    go_ret2
    refine ⟨ret2_u32 ?_ ?_, rfl⟩
    · rw [fOf2 h1]; exact n_par hb hc hd
    · exact (kOf2 h1).symm
  · go_enter Tryd.func72, Tryd.ntmps72
    go_wp2
    go_ret2
    refine ⟨ret2_u32 ?_ ?_, rfl⟩
    · rw [fOf3 h1]; exact n_maj hb hc hd
    · exact (kOf3 h1).symm
  · go_enter Tryd.func72, Tryd.ntmps72
    go_wp2
    go_ret2
    refine ⟨ret2_u32 ?_ ?_, rfl⟩
    · rw [fOf4 h1]; exact n_par hb hc hd
    · exact (kOf4 h1).symm
end Go.Proofs.YtmlejcfnnjnggaaDoor
