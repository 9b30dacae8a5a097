/- The words of a block, of the document's answer. -/
import Derived.Test.YtmlejcfnnjnggaaDoorShaWords
import Derived.Test.YtmlejcfnnjnggaaDoorTail
namespace Go.Proofs.YtmlejcfnnjnggaaDoor
set_option maxRecDepth 100000
open Go.RowKit

theorem be_step (s : ByteArray) (o m : Nat) (h : o + m < s.size) (hm : m < 4) : (256 * (beN s o m : Int) + ((s[o + m]'h).toNat : Int) % 4294967296) % 4294967296 = ((beN s o (m + 1) : Nat) : Int) := by
  have hx : beN s o m < 16777216 := Nat.lt_of_lt_of_le (beN_lt s o m) (Nat.le_trans (Nat.pow_le_pow_right (by omega) (show m ≤ 3 by omega)) (by decide))
  have hb : byteAt s (o + m) = (s[o + m]'h).toNat := by
    unfold byteAt
    simp [Array.getD, h]
    rfl
  have hl := byteAt_lt s (o + m)
  rw [beN, ← hb]
  omega

set_option maxHeartbeats 1000000 in
theorem refWords_yes (s : ByteArray) (w : World) (h : s.size = 64) : Calls Tryd.prog 71 #[.string s] w (TellsWords s w) := by
  have h' : ((s.size : Int) != 64) = false := by rw [bne_eq_false_iff_eq]; omega
  have hs64 : 64 ≤ s.size := by omega
  have H := Lib.hid h
  clear h
  go_enter Tryd.func71, Tryd.ntmps71
  go_wp2
  go_loopw [4, 5] (fun v i wr => ∃ k : Nat, k ≤ 16 ∧ i = .int .i64 k ∧ wr.ownsRow w.heap.size 69 1 v k (cells32 (tab k (wd s))) ∧ Below w.heap.size w wr) (fun _ i _ => 16 - (intOf i).toNat)
  case atStart => exact ⟨0, by omega, rfl, World.ownsRow_nil _ _ _ _, Below.refl _ _⟩
  case round =>
    obtain ⟨k, hk, rfl, hO, B0⟩ := hrel
    have HO := Lib.hid hO
    have HB0 := Lib.hid B0
    clear hO B0
    obtain ⟨wo, rfl⟩ : ∃ wo : World, wo = wr := ⟨_, rfl⟩
    by_cases hlt : k < 16
    · have hd : decide ((k : Int) < 16) = true := by simp; omega
      go_wp2
      clear hd
      go_loop [6, 7] (fun x i => ∃ m : Nat, m ≤ 4 ∧ i = .int .i64 m ∧ x = .int .u32 (beN s (4 * k) m : Nat)) (fun _ i => 4 - (intOf i).toNat)
      case atStart => exact ⟨0, by omega, rfl, rfl⟩
      case round =>
        obtain ⟨m, hm, rfl, rfl⟩ := hrel
        by_cases hl2 : m < 4
        · have hb : 4 * k + m < s.size := by omega
          have hx : beN s (4 * k) m < 16777216 := Nat.lt_of_lt_of_le (beN_lt s (4 * k) m) (Nat.le_trans (Nat.pow_le_pow_right (by omega) (show m ≤ 3 by omega)) (by decide))
          have HS := Lib.hid (be_step s (4 * k) m hb hl2)
          generalize beN s (4 * k) m = x at *
          go_wp2
          refine ⟨⟨m + 1, by omega, by go_num, ?_⟩, by simp [intOf]; omega⟩
          rw [← HS.out]
        · obtain rfl : m = 4 := by omega
          have hx : beN s (4 * k) 4 < 4294967296 := beN_lt s (4 * k) 4
          have HD : Hid (tab k (wd s) ++ [beN s (4 * k) 4] = tab (k + 1) (wd s)) := by
            unfold Hid; rw [← wd_low s k hlt]; exact tab_snoc _ _
          generalize beN s (4 * k) 4 = x at *
          go_wp2_with (refine wpList_append1 rfl _ _ 79 rfl w.heap.size 69 (.int .u32 0) 4 Tryd.underlying79 info32 rfl _ k _ rfl HO.out (.int .u32 (x : Int)) rfl rfl (by omega) (by omega) HB0.out HB0.out.size ?_; intro v' w' hO' B')
          rw [cells32_snoc, HD.out] at hO'
          have HO2 := Lib.hid hO'
          have HB2 := Lib.hid B'
          clear hO' B'
          go_wp2
          exact ⟨⟨k + 1, by omega, by go_num, HO2.out, HB2.out⟩, by simp [intOf]; omega⟩
    · obtain rfl : k = 16 := by omega
      rw [show ((16 : Nat) : Int) = 16 from rfl]
      go_wp2
      go_loopw [4, 8] (fun v i wr => ∃ k : Nat, 16 ≤ k ∧ k ≤ 80 ∧ i = .int .i64 k ∧ wr.ownsRow w.heap.size 69 1 v k (cells32 (tab k (wd s))) ∧ Below w.heap.size w wr) (fun _ i _ => 80 - (intOf i).toNat)
      case atStart => exact ⟨16, by omega, by omega, rfl, HO.out, HB0.out⟩
      case round =>
        clear HO HB0
        obtain ⟨k, hk0, hk, rfl, hO, B0⟩ := hrel
        obtain ⟨g, cap, rfl, hg, hg2, hcap, hcell⟩ := own_open hO (by omega)
        have HO := Lib.hid hO
        have HB0 := Lib.hid B0
        have HCE := Lib.hid hcell
        clear hO B0 hcell
        by_cases hlt : k < 80
        · go_wp2
          have cc : ∀ j, j < k → wr.cell? ⟨g, j, none⟩ = some (.int .u32 (wd s j : Nat)) := fun j hj => by
            rw [HCE.out j hj, cells32, List.getElem?_map, tab_get _ _ _ hj]; rfl
          clear HCE
          have c3 := cc (k - 3) (by omega)
          have c8 := cc (k - 8) (by omega)
          have c14 := cc (k - 14) (by omega)
          have c16 := cc (k - 16) (by omega)
          have HS : Hid (tab k (wd s) ++ [wd s k] = tab (k + 1) (wd s)) := tab_snoc _ _
          have HD := Lib.hid (wd_high s k hk0 hlt)
          have l3 := wd_lt s (k - 3)
          have l8 := wd_lt s (k - 8)
          have l14 := wd_lt s (k - 14)
          have l16 := wd_lt s (k - 16)
          clear cc
          generalize wd s (k - 3) = x3 at *
          generalize wd s (k - 8) = x8 at *
          generalize wd s (k - 14) = x14 at *
          generalize wd s (k - 16) = x16 at *
          have hcall : Calls Tryd.prog 73 #[.int .u32 (bits .xor .u32 (bits .xor .u32 (bits .xor .u32 (x3 : Int) (x8 : Int)) (x14 : Int)) (x16 : Int)), .int .i64 1] wr.drew fun e w' => e = .returned (.int .u32 ((wd s k : Nat) : Int)) ∧ w' = wr.drew := by
            rw [n_xor4 l3 l8 l14 l16, HD.out]
            exact (left1_any _ _ (xor_lt (xor_lt (xor_lt l3 l8) l14) l16)).mono fun _ _ ⟨a, b⟩ => ⟨a, b.symm⟩
          have HC := Lib.hid hcall
          clear hcall
          have g3 : IntKind.i64.wrap ((k : Int) - 3) = (k : Int) - 3 := IntWalk.i64_in _ (by omega)
          have g8 : IntKind.i64.wrap ((k : Int) - 8) = (k : Int) - 8 := IntWalk.i64_in _ (by omega)
          have g14 : IntKind.i64.wrap ((k : Int) - 14) = (k : Int) - 14 := IntWalk.i64_in _ (by omega)
          have g16 : IntKind.i64.wrap ((k : Int) - 16) = (k : Int) - 16 := IntWalk.i64_in _ (by omega)
          have t3 : ((k : Int) - 3).toNat = k - 3 := by omega
          have t8 : ((k : Int) - 8).toNat = k - 8 := by omega
          have t14 : ((k : Int) - 14).toNat = k - 14 := by omega
          have t16 : ((k : Int) - 16).toNat = k - 16 := by omega
          have b3 : (0 : Int) ≤ (k : Int) - 3 ∧ (k : Int) - 3 < k := by omega
          have b8 : (0 : Int) ≤ (k : Int) - 8 ∧ (k : Int) - 8 < k := by omega
          have b14 : (0 : Int) ≤ (k : Int) - 14 ∧ (k : Int) - 14 < k := by omega
          have b16 : (0 : Int) ≤ (k : Int) - 16 ∧ (k : Int) - 16 < k := by omega
          have q3 : (3 : Int) ≤ k ∧ (8 : Int) ≤ k ∧ (14 : Int) ≤ k ∧ (16 : Int) ≤ k := by omega
          refine wp_region_tailP 25 0 _ _ rfl rfl rfl (by kernel_rfl) (by kernel_rfl) (fun _ _ _ _ _ h => h) ?_
          simp only [List.take_succ_cons, List.take_zero, List.drop_succ_cons, List.drop_zero, List.eraseIdx_cons_zero]
          repeat still_step
          still_call HC.out
          repeat still_step
          refine wpStill_nil ?_
          clear g3 g8 g14 g16 t3 t8 t14 t16 HC
          go_wp2_with (refine wpList_append1 rfl _ _ 79 rfl w.heap.size 69 (.int .u32 0) 4 Tryd.underlying79 info32 rfl _ k _ rfl HO.out.drew (.int .u32 (wd s k : Nat)) rfl rfl (by omega) (by omega) HB0.out.drew HB0.out.size ?_; intro v' w' hO' B')
          rw [cells32_snoc, HS.out] at hO'
          have HO2 := Lib.hid hO'
          have HB2 := Lib.hid B'
          clear hO' B'
          go_wp2
          exact ⟨⟨k + 1, by omega, by omega, by go_num, HO2.out, HB2.out⟩, by simp [intOf]; omega⟩
        · obtain rfl : k = 80 := by omega
          go_wp2
          go_ret2
          refine ⟨g, cap, rfl, hg2, fun t ht => ?_, HB0.out⟩
          rw [HCE.out t ht, cells32, List.getElem?_map, tab_get _ _ _ ht]; rfl
end Go.Proofs.YtmlejcfnnjnggaaDoor
