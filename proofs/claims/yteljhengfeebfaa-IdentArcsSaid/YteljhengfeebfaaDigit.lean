/- A digit of sixteen: the program's and the document's answer. -/
import Derived.Test.YteljhengfeebfaaText
namespace Go.Proofs.Yteljhengfeebfaa
open Go.RowKit

/-- what a digit of sixteen is worth -/
def dvV (c : Nat) : Nat := if 65 ≤ c ∧ c ≤ 70 then c - 55 else if 97 ≤ c ∧ c ≤ 102 then c - 87 else if 48 ≤ c ∧ c ≤ 57 then c - 48 else 0
/-- whether a byte is a digit of sixteen -/
def dvB (c : Nat) : Bool := decide (65 ≤ c ∧ c ≤ 70) || decide (97 ≤ c ∧ c ≤ 102) || decide (48 ≤ c ∧ c ≤ 57)
theorem dvV_lt (c : Nat) : dvV c < 16 := by unfold dvV; split <;> (try split) <;> (try split) <;> omega

theorem ret_u8 {a b : Int} {x : Bool} (h : a = b) : Ending.returned (.tuple #[.int .u8 a, .bool x]) = .returned (.tuple #[.int .u8 b, .bool x]) := by rw [h]
theorem digit_all (c : Nat) (w : World) (hc : c < 256) : Calls Try.prog 27 #[.int .u8 (c : Int)] w fun e w' => e = .returned (.tuple #[.int .u8 (dvV c : Nat), .bool (dvB c)]) ∧ w = w' := by
  by_cases h1 : 65 ≤ c ∧ c ≤ 70
  · have H : Hid (dvV c = c - 55 ∧ dvB c = true) := ⟨by unfold dvV; rw [if_pos h1], by unfold dvB; simp [h1]⟩
    obtain ⟨a, b⟩ := h1
    go_enter Try.func27, Try.ntmps27
    go_wp2
    go_ret2
    exact ⟨by rw [H.out.1, H.out.2]; exact ret_u8 (by omega), rfl⟩
  · by_cases h2 : 97 ≤ c ∧ c ≤ 102
    · have H : Hid (dvV c = c - 87 ∧ dvB c = true) := ⟨by unfold dvV; rw [if_neg h1, if_pos h2], by unfold dvB; simp [h2]⟩
      obtain ⟨a, b⟩ := h2
      have h1' : ¬ c ≤ 70 := by omega
      go_enter Try.func27, Try.ntmps27
      go_wp2
      go_ret2
      exact ⟨by rw [H.out.1, H.out.2]; exact ret_u8 (by omega), rfl⟩
    · by_cases h3 : 48 ≤ c ∧ c ≤ 57
      · have H : Hid (dvV c = c - 48 ∧ dvB c = true) := ⟨by unfold dvV; rw [if_neg h1, if_neg h2, if_pos h3], by unfold dvB; simp [h3]⟩
        obtain ⟨a, b⟩ := h3
        have h1' : ¬ 65 ≤ c := by omega
        have h2' : ¬ 97 ≤ c := by omega
        go_enter Try.func27, Try.ntmps27
        go_wp2
        go_ret2
        exact ⟨by rw [H.out.1, H.out.2]; exact ret_u8 (by omega), rfl⟩
      · have H : Hid (dvV c = 0 ∧ dvB c = false) := ⟨by unfold dvV; rw [if_neg h1, if_neg h2, if_neg h3], by unfold dvB; simp [h1, h2, h3]⟩
        by_cases g1 : 65 ≤ c <;> by_cases g2 : 97 ≤ c <;> by_cases g3 : 48 ≤ c
        all_goals (try omega)
        all_goals
          go_enter Try.func27, Try.ntmps27
          go_wp2
          go_ret2
          exact ⟨by rw [H.out.1, H.out.2]; exact ret_u8 (by omega), rfl⟩

theorem ret_i64 {a b : Int} (h : a = b) : Ending.returned (.int .i64 a) = .returned (.int .i64 b) := by rw [h]
/-- the document's digit: below 0: it is none -/
def dvI (c : Nat) : Int := if dvB c = true then dvV c else -1
theorem refDigit_all (c : Nat) (w : World) (hc : c < 256) : Calls Try.prog 28 #[.int .u8 (c : Int)] w fun e w' => e = .returned (.int .i64 (dvI c)) ∧ w = w' := by
  by_cases h1 : 65 ≤ c ∧ c ≤ 70
  · have H : Hid (dvI c = c - 55) := by
      show dvI c = _
      unfold dvI; rw [if_pos (by unfold dvB; simp [h1])]; unfold dvV; rw [if_pos h1]; omega
    obtain ⟨a, b⟩ := h1
    have h2' : ¬ 97 ≤ c := by omega
    have h3' : ¬ c ≤ 57 := by omega
    go_enter Try.func28, Try.ntmps28
    go_wp2
    go_ret
    exact ⟨by rw [H.out]; exact ret_i64 (by omega), rfl⟩
  · by_cases h2 : 97 ≤ c ∧ c ≤ 102
    · have H : Hid (dvI c = c - 87) := by
        show dvI c = _
        unfold dvI; rw [if_pos (by unfold dvB; simp [h2])]; unfold dvV; rw [if_neg h1, if_pos h2]; omega
      obtain ⟨a, b⟩ := h2
      have h3' : ¬ c ≤ 57 := by omega
      go_enter Try.func28, Try.ntmps28
      go_wp2
      go_ret
      exact ⟨by rw [H.out]; exact ret_i64 (by omega), rfl⟩
    · by_cases h3 : 48 ≤ c ∧ c ≤ 57
      · have H : Hid (dvI c = c - 48) := by
          show dvI c = _
          unfold dvI; rw [if_pos (by unfold dvB; simp [h3])]; unfold dvV; rw [if_neg h1, if_neg h2, if_pos h3]; omega
        obtain ⟨a, b⟩ := h3
        go_enter Try.func28, Try.ntmps28
        go_wp2
        go_ret
        exact ⟨by rw [H.out]; exact ret_i64 (by omega), rfl⟩
      · have H : Hid (dvI c = -1) := by
          show dvI c = _
          unfold dvI; rw [if_neg (by unfold dvB; simp [h1, h2, h3])]
        by_cases g1 : 65 ≤ c <;> by_cases g2 : 97 ≤ c <;> by_cases g3 : 48 ≤ c
        all_goals (try omega)
        all_goals
          go_enter Try.func28, Try.ntmps28
          go_wp2
          go_ret
          exact ⟨by rw [H.out]; rfl, rfl⟩

end Go.Proofs.Yteljhengfeebfaa
