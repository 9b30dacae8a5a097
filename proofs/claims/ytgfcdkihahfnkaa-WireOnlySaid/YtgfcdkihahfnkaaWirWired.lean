/- The document's rows: they hold. -/
import Derived.Test.YtgfcdkihahfnkaaWirMeth
namespace Go.Proofs.Ytgfcdkihahfnkaa
open Go.RowKit Go.Sort

theorem row_ab : (⟨#[]⟩ : ByteArray) ++ txt (txtN (bytesN ⟨#[97, 98]⟩)) = ⟨#[1, 2, 97, 98]⟩ := by decide +kernel
theorem row_lab : (⟨#[]⟩ : ByteArray) ++ txt (labN 3 11529215046068469760) = ⟨#[3, 160]⟩ := by decide +kernel
theorem row_n0 : (⟨#[]⟩ : ByteArray) ++ txt (numN 0) = ⟨#[0]⟩ := by decide +kernel
theorem row_n5 : (⟨#[0]⟩ : ByteArray) ++ txt (numN 5) = ⟨#[0, 1, 5]⟩ := by decide +kernel
theorem row_n258 : (⟨#[0, 1, 5]⟩ : ByteArray) ++ txt (numN 258) = ⟨#[0, 1, 5, 2, 1, 2]⟩ := by decide +kernel
theorem row_r5 : rNum (rest ⟨#[1, 5]⟩ 0) = (5, 2, 0) := by decide +kernel
theorem low_3 : lowB 3 11529215046068469760 = true := by decide +kernel
theorem is_m1 : isB (-1) 0 = false := by decide +kernel
theorem beq_self (a : ByteArray) : (a.toList == a.toList) = true := by rw [beq_iff_eq]
set_option maxHeartbeats 1000000 in
theorem wired_any (w : World) : Calls Try.prog 13 #[] w fun e w' => e = .returned (.bool true) ∧ Below w.heap.size w w' := by
  have HT : Gives Try.prog 8 #[.string ⟨#[]⟩, .string ⟨#[97, 98]⟩] (.tuple #[.string ⟨#[1, 2, 97, 98]⟩, .int .i64 0]) := fun w => row_ab ▸ putText_short ⟨#[]⟩ ⟨#[97, 98]⟩ w (by decide) (by decide)
  have HL : Gives Try.prog 9 #[.string ⟨#[]⟩, .agg #[.int .i64 3, .int .u64 11529215046068469760]] (.tuple #[.string ⟨#[3, 160]⟩, .int .i64 0]) := fun w => row_lab ▸ putLabel_yes ⟨#[]⟩ 3 11529215046068469760 w (by decide) (by omega) (by omega) low_3
  have HM : Gives Try.prog 9 #[.string ⟨#[]⟩, .agg #[.int .i64 (-1), .int .u64 0]] (.tuple #[.string ⟨#[]⟩, .int .i64 1]) := fun w => putLabel_no ⟨#[]⟩ (-1) 0 w (by omega) (by omega) (by omega) is_m1
  have H0 : Gives Try.prog 14 #[.string ⟨#[]⟩, .int .u64 0] (.string ⟨#[0]⟩) := fun w => row_n0 ▸ putNumber_any ⟨#[]⟩ 0 w (by decide) (by omega)
  have H5 : Gives Try.prog 14 #[.string ⟨#[0]⟩, .int .u64 5] (.string ⟨#[0, 1, 5]⟩) := fun w => row_n5 ▸ putNumber_any ⟨#[0]⟩ 5 w (by decide) (by omega)
  have H258 : Gives Try.prog 14 #[.string ⟨#[0, 1, 5]⟩, .int .u64 258] (.string ⟨#[0, 1, 5, 2, 1, 2]⟩) := fun w => row_n258 ▸ putNumber_any ⟨#[0, 1, 5]⟩ 258 w (by decide) (by omega)
  have q1 := beq_self ⟨#[0, 1, 5, 2, 1, 2]⟩
  have q2 := beq_self ⟨#[1, 2, 97, 98]⟩
  have q3 := beq_self ⟨#[3, 160]⟩
  go_enter Try.func13, Try.ntmps13
  go_upto_region 2 with (go_at_call 8; (with_reducible refine (HT.calls _).mono ?_); rintro e w1 ⟨rfl, hb1⟩)
  go_upto_region 3 with (go_at_call 9; (with_reducible refine (HL.calls _).mono ?_); rintro e w2 ⟨rfl, hb2⟩)
  go_upto_region 4 with (go_at_call 9; (with_reducible refine (HM.calls _).mono ?_); rintro e w3 ⟨rfl, hb3⟩)
  have B3 := hb1.trans ((hb2.trans (hb3.mono hb2.size)).mono hb1.size)
  clear hb1 hb2 hb3
  have HN := Lib.hid (new_any ⟨#[1, 5]⟩ w3)
  go_upto_region 5 with (go_at_call 18; (with_reducible refine HN.out.mono ?_); rintro e w4 ⟨c, rfl, hr4, hb4⟩)
  have B4 := B3.trans (hb4.mono B3.size)
  have hw3 := B3.size
  have HD := mN_any hr4 (by decide)
  rw [row_r5] at HD
  unfold Does at HD
  replace HD := Lib.hid HD
  have hlt := hr4.lt
  clear hb4 HN B3 hr4
  generalize w3.heap.size = b at *
  go_upto_region 8 with (go_at_call 19; (with_reducible refine HD.out.mono ?_); rintro e w5 ⟨rfl, hr5, hk5⟩)
  have B5 := hk5.below B4 B4.size (by omega) (by omega)
  have HR5 := Lib.hid hr5
  clear HD hr5 hk5 B4
  have HP : Hid (∀ w', Below w5.heap.size w5 w' → Calls Try.prog 27 #[.pointer (some ⟨b + 1, 0, none⟩)] w' fun e w'' => e = .returned (.int .i64 0) ∧ Below w'.heap.size w' w'') := fun w' hb => left_any (HR5.out.below hb) (by decide)
  go_wp2_with (first | (go_at_call 14; first | ((with_reducible refine (H0.calls _).mono ?_); rintro e w6 ⟨rfl, hb6⟩) | ((with_reducible refine (H5.calls _).mono ?_); rintro e w7 ⟨rfl, hb7⟩) | ((with_reducible refine (H258.calls _).mono ?_); rintro e w8 ⟨rfl, hb8⟩; have B8 := hb6.trans ((hb7.trans (hb8.mono hb7.size)).mono hb6.size))) | (go_at_call 27; (with_reducible refine (HP.out _ B8).mono ?_); rintro e w9 ⟨rfl, hb9⟩))
  go_ret
  exact ⟨rfl, B5.trans ((B8.trans (hb9.mono B8.size)).mono B5.size)⟩
theorem wired_all : Gives Try.prog 13 #[] (.bool true) := wired_any
end Go.Proofs.Ytgfcdkihahfnkaa
