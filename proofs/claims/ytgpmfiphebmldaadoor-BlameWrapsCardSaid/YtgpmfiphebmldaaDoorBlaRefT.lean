/- The document's Digits and Trail. -/
import Derived.Test.YtgpmfiphebmldaaDoorBlaCodes
import Derived.Test.YtgpmfiphebmldaaDoorBlaBld
namespace Go.Proofs.YtgpmfiphebmldaaDoor
open Go.RowKit Go.Sort

def digitsB : ByteArray := ⟨#[48, 49, 50, 51, 52, 53, 54, 55, 56, 57]⟩
theorem one_digit : ∀ u : Nat, u < 10 → digitsB.extract u (u + 1) = bs (Lib.decDigits u) := by
  intro u hu
  rw [Lib.decDigits_one hu]
  have : ∀ k : Fin 10, (digitsB.extract k.val (k.val + 1)).data.toList = [UInt8.ofNat (48 + k.val)] := by decide +kernel
  have h := this ⟨u, hu⟩
  unfold bs
  apply ByteArray.ext
  rw [← h]
theorem dig_small (u : Nat) (hu : u < 10) (w : World) : Calls Tryd.prog 24 #[.int .i64 (u : Int)] w fun e w' => e = .returned (.string (bs (Lib.decDigits u))) ∧ w' = w := by
  have hcut : ∀ w : World, (Instr.slice 9 (.string ⟨#[48, 49, 50, 51, 52, 53, 54, 55, 56, 57]⟩) (some (.int .i64 (u : Int))) (some (.int .i64 ((u : Int) + 1))) none).run Tryd.prog w = .ok (.string (bs (Lib.decDigits u))) w := fun w => by
    rw [← one_digit u hu]
    exact run_cut Tryd.underlying9 digitsB _ _ u (u + 1) rfl (by omega) (by omega) (by have : digitsB.size = 10 := rfl; omega) w
  have h1 : decide ((u : Int) < 10) = true := by simp; omega
  generalize bs (Lib.decDigits u) = X at *
  go_enter Tryd.func24, Tryd.ntmps24
  go_wp2
  go_ret
  exact ⟨rfl, rfl⟩
theorem dec_len (u : Nat) (h : u ≤ 9223372036854775807) : (bs (Lib.decDigits u)).size ≤ 21 := by
  rw [bs_size, ← Lib.itoa_nonneg]
  exact Lib.itoa_length_le _ (by omega) (by omega)
theorem itoa_len (n : Int) (h0 : -9223372036854775808 ≤ n) (h1 : n ≤ 9223372036854775807) : (bs (Lib.itoa n)).size ≤ 21 := by
  rw [bs_size]
  exact Lib.itoa_length_le _ h0 h1
theorem room (a b : ByteArray) (h : a.size + b.size ≤ 1000000000) : ¬ 9223372036854775807 < a.size + b.size := by omega
theorem dec_step (u : Nat) (hu : 10 ≤ u) : bs (Lib.decDigits (u / 10)) ++ bs (Lib.decDigits (u % 10)) = bs (Lib.decDigits u) := by
  rw [bs_append]
  conv => rhs; rw [Lib.decDigits]
  rw [dif_neg (by omega), Lib.decDigits_one (i := u % 10) (by omega)]
theorem dig_big (u : Nat) : u ≤ 9223372036854775807 → ∀ w : World, Calls Tryd.prog 24 #[.int .i64 (u : Int)] w fun e w' => e = .returned (.string (bs (Lib.decDigits u))) ∧ w' = w := by
  induction u using Nat.strongRecOn with
  | _ u ih =>
    intro hu w
    by_cases h : u < 10
    · exact dig_small u h w
    · have d1 := ih (u / 10) (by omega) (by omega) w
      have d2 := dig_small (u % 10) (by omega) w
      have hs := dec_step u (by omega)
      have h1 : decide ((u : Int) < 10) = false := by simp; omega
      have h2 : decide ((10 : Int) ≤ (u : Int)) = true := by simp; omega
      rw [show ((u / 10 : Nat) : Int) = (u : Int) / 10 from rfl] at d1
      rw [show ((u % 10 : Nat) : Int) = (u : Int) % 10 from rfl] at d2
      have hadd := room (bs (Lib.decDigits (u / 10))) (bs (Lib.decDigits (u % 10))) (by have := dec_len (u / 10) (by omega); have := dec_len (u % 10) (by omega); omega)
      have D1 := Lib.hid d1
      have D2 := Lib.hid d2
      have HS := Lib.hid hs
      clear d1 d2 hs ih
      generalize bs (Lib.decDigits u) = X at *
      generalize bs (Lib.decDigits (u / 10)) = Y at *
      generalize bs (Lib.decDigits (u % 10)) = Z at *
      go_enter Tryd.func24, Tryd.ntmps24
      go_wp2_with (first
        | (go_at_call 24; (with_reducible refine D1.out.mono ?_); rintro e w1 ⟨rfl, rfl⟩)
        | (go_at_call 24; (with_reducible refine D2.out.mono ?_); rintro e w1 ⟨rfl, rfl⟩))
      go_ret
      exact ⟨by rw [← HS.out]; rfl, rfl⟩

theorem itoa_neg' (u : Nat) (h : 1 ≤ u) : bs (Lib.itoa (-(u : Int))) = ⟨#[45]⟩ ++ bs (Lib.decDigits u) := by
  rw [Lib.itoa_neg u h, show (⟨#[45]⟩ : ByteArray) = bs [45] from rfl, bs_append]; rfl
theorem dig_neg (u : Nat) : 1 ≤ u → u ≤ 9223372036854775808 → ∀ w : World, Calls Tryd.prog 24 #[.int .i64 (-(u : Int))] w fun e w' => e = .returned (.string (bs (Lib.itoa (-(u : Int))))) ∧ w' = w := by
  induction u using Nat.strongRecOn with
  | _ u ih =>
    intro h0 hu w
    have h1 : decide ((0 : Int) ≤ -(u : Int)) = false := by simp; omega
    have h2 : decide ((10 : Int) ≤ -(u : Int)) = false := by simp; omega
    by_cases h : u < 10
    · have d1 := dig_small u h w
      have hs := itoa_neg' u h0
      have h3 : decide ((u : Int) < 10) = true := by simp; omega
      have hadd := room ⟨#[45]⟩ (bs (Lib.decDigits u)) (by have := dec_len u (by omega); have e : (⟨#[45]⟩ : ByteArray).size = 1 := rfl; omega)
      have D1 := Lib.hid d1
      have HS := Lib.hid hs
      clear d1 hs ih
      generalize bs (Lib.itoa (-(u : Int))) = X at *
      generalize bs (Lib.decDigits u) = Y at *
      go_enter Tryd.func24, Tryd.ntmps24
      go_wp2_with (go_at_call 24; (with_reducible refine D1.out.mono ?_); rintro e w1 ⟨rfl, rfl⟩)
      go_ret
      exact ⟨by rw [HS.out]; rfl, rfl⟩
    · have h3 : decide ((u : Int) < 10) = false := by simp; omega
      have d1 := ih (u / 10) (by omega) (by omega) (by omega) w
      have d2 := dig_small (u % 10) (by omega) w
      have hs : bs (Lib.itoa (-((u / 10 : Nat) : Int))) ++ bs (Lib.decDigits (u % 10)) = bs (Lib.itoa (-(u : Int))) := by
        rw [itoa_neg' u h0, itoa_neg' (u / 10) (by omega), ← dec_step u (by omega)]
        apply ByteArray.ext
        simp [ByteArray.data_append, Array.append_assoc]
      have hadd := room (bs (Lib.itoa (-((u / 10 : Nat) : Int)))) (bs (Lib.decDigits (u % 10))) (by have := itoa_len (-((u / 10 : Nat) : Int)) (by omega) (by omega); have := dec_len (u % 10) (by omega); omega)
      rw [show ((u / 10 : Nat) : Int) = (u : Int) / 10 from rfl] at d1 hs hadd
      rw [show ((u % 10 : Nat) : Int) = (u : Int) % 10 from rfl] at d2
      have D1 := Lib.hid d1
      have D2 := Lib.hid d2
      have HS := Lib.hid hs
      clear d1 d2 hs ih
      generalize bs (Lib.itoa (-(u : Int))) = X at *
      generalize bs (Lib.itoa (-((u : Int) / 10))) = Y at *
      generalize bs (Lib.decDigits (u % 10)) = Z at *
      go_enter Tryd.func24, Tryd.ntmps24
      go_wp2_with (first
        | (go_at_call 24; (with_reducible refine D1.out.mono ?_); rintro e w1 ⟨rfl, rfl⟩)
        | (go_at_call 24; (with_reducible refine D2.out.mono ?_); rintro e w1 ⟨rfl, rfl⟩))
      go_ret
      exact ⟨by rw [← HS.out]; rfl, rfl⟩

theorem digits_any (n : Int) (h0 : -9223372036854775808 ≤ n) (h1 : n ≤ 9223372036854775807) (w : World) : Calls Tryd.prog 24 #[.int .i64 n] w fun e w' => e = .returned (.string (bs (Lib.itoa n))) ∧ w' = w := by
  rcases Int.eq_nat_or_neg n with ⟨u, rfl | rfl⟩
  · rw [Lib.itoa_nonneg]; exact dig_big u (by omega) w
  · rcases Nat.eq_zero_or_pos u with rfl | hp
    · exact dig_big 0 (by omega) w
    · exact dig_neg u hp (by omega) w
end Go.Proofs.YtgpmfiphebmldaaDoor
