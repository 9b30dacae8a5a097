/- The program's reader: labels, and what reads a value whole or not at all. -/
import Derived.Test.YtgfcdkihahfnkaaWirIn2
namespace Go.Proofs.Ytgfcdkihahfnkaa
open Go.RowKit Go.Sort

theorem lab_filled (m : List Nat) (n : Nat) : (List.replicate 8 0).take 0 ++ m ++ (List.replicate 8 0).drop (0 + n) = m ++ List.replicate (8 - n) 0 := by
  rw [List.drop_replicate]; simp
set_option maxHeartbeats 2000000 in
theorem label_some {w : World} {g h c : Nat} {s : ByteArray} {p : Nat} (k : Rd w g h c s p) (hs : s.size ≤ 1000000) (hp : p < s.size) (x : Nat) (hxe : byteAt s p = x) (hx : ¬ 64 < x) (hf : p + 1 + e8 x ≤ s.size) (B : Nat) (hB : B = labV ((rest s (p + 1)).take (e8 x))) (r : Bool) (hr' : lowB x B = r) (v : Value) (e : Nat) (hve : (r = true → v = .agg (labc x B) ∧ e = 0) ∧ (r = false → v = .agg (labc 0 0) ∧ e = 3)) :
    Reads 45 w g h c s p v (1 + e8 x) e := by
  have HVE := Lib.hid hve
  clear hve
  have hg := k.lt
  have hne := k.ne
  have h8 := e8_le (n := x) (by omega)
  have HE : Hid (∀ w, Calls Try.prog 32 #[.int .i64 (x : Int)] w fun e w' => e = .returned (.int .i64 ((e8 x : Nat) : Int)) ∧ w = w') := fun w => eights_any x w (by omega)
  have hr := run_upto8
  generalize e8 x = n at *
  have hml : ((rest s (p + 1)).take n).length = n := by rw [List.length_take, rest_length]; omega
  have hmb : ∀ b ∈ (rest s (p + 1)).take n, b < 256 := fun b hb => rest_lt s (p + 1) b (List.mem_of_mem_take hb)
  have hBl : B < 18446744073709551616 := by rw [hB]; exact labV_lt hmb (by omega)
  have HI : Gives Try.prog 28 #[.agg (labc x B)] (.bool r) := fun w => hr' ▸ isL_yes x B w (by omega) hBl
  have hwl : ((rest s (p + 1)).take n ++ List.replicate (8 - n) 0).length = 8 := by rw [List.length_append, List.length_replicate, hml]; omega
  have HJ : Hid (∀ w, Calls Try.prog 52 #[.agg (row ((rest s (p + 1)).take n ++ List.replicate (8 - n) 0))] w fun e w' => e = .returned (.int .u64 (B : Int)) ∧ Below w.heap.size w w') := fun w => by
    have := join_any _ (fun b hb => by
      rcases List.mem_append.1 hb with h | h
      · exact hmb b h
      · rw [(List.mem_replicate.1 h).2]; omega) hwl w
    rw [valN_behind] at this
    unfold labV at hB
    rw [hml] at hB
    rwa [← hB] at this
  unfold Reads
  clear hB hr' hBl hmb
  go_enter Try.func45, Try.ntmps45
  go_upto_region 1 with (fail)
  rw [lab00]
  have A0 := Lib.hid (Blk.new w (labc 0 0) 26)
  have B0 := Lib.hid ((Below.refl w.heap.size w).alloc (Nat.le_refl _) (.cells (labc 0 0) 26))
  have HF := first_some (k.below B0.out) hs 64 hp x hxe
  rw [if_neg hx, show ((64 : Nat) : Int) = 64 from rfl] at HF
  replace HF := Lib.hid HF
  clear k hxe
  have hzs : (w.alloc (.cells (labc 0 0) 26)).heap.size = w.heap.size + 1 := World.size_alloc _ _
  generalize w.alloc _ = W at *
  go_upto_region 2 with (go_at_call 50; (with_reducible refine HF.out.mono ?_); rintro e w1 ⟨rfl, hr1, hk1⟩)
  go_upto_region 5 with (fail)
  rw [zeros8]
  have B1 := (Below.refl w1.heap.size w1).alloc (Nat.le_refl _) (.cells (row (List.replicate 8 0)) 59)
  have A1 := Blk.new w1 (row (List.replicate 8 0)) 59
  have HK : Hid (Keep w _ g g) := ((Keep.of B0.out g g).trans hk1).trans (Keep.of B1 g g)
  have hg1 := hr1.lt
  have hw1 := hk1.size
  replace A0 := Lib.hid ((A0.out.keep hk1 (by omega) (by omega)).alloc (.cells (row (List.replicate 8 0)) 59))
  have HM := fill_yes (hr1.below B1) hs w1.heap.size 0 n 8 hf (List.replicate 8 0) 59 A1 (by simp; omega) (by omega) (by omega)
  rw [lab_filled _ n] at HM
  replace HM := Lib.hid HM
  have hsl := hr w1.heap.size n h8
  clear hr HF hr1 hk1 B1 B0 A1
  generalize w1.heap.size = b at *
  generalize w1.alloc _ = W1 at *
  go_upto_region 6 with (first | (go_at_call 32; (with_reducible refine (HE.out _).mono ?_); rintro e w5 ⟨rfl, rfl⟩) | (go_at_call 51; (with_reducible refine HM.out.mono ?_); rintro e w2 ⟨rfl, hr2, hb2, hk2⟩))
  replace A0 := Lib.hid (A0.out.keep hk2 (by omega) (by omega))
  have HK2 : Hid (Keep w w2 g g) := HK.out.new hk2 (by omega)
  have HR2 := Lib.hid hr2
  have HB2 := Lib.hid hb2
  clear HM hr2 hb2 hk2 hsl HK
  go_upto_region 9 with (first | (refine wpList_load_row rfl 59 _ rfl b rfl 59 _ (0, 0) _ HB2.out Try.underlying59 rfl (info_w _ hwl) ?_) | (go_at_call 52; (with_reducible refine (HJ.out _).mono ?_); rintro e w3 ⟨rfl, hb3⟩) | (refine wpList_store_newrow rfl 26 _ _ rfl (labc x B) rfl rfl infoLab (lab_all _ _) rfl ?_))
  have HR3 := Lib.hid ((HR2.out.below hb3).below ((Below.refl _ _).alloc (Nat.le_refl _) (.cells (labc x B) 26)))
  have HK3 : Hid (Keep w (w3.alloc (.cells (labc x B) 26)) g g) := (HK2.out.trans (Keep.of hb3 g g)).trans (Keep.of ((Below.refl _ _).alloc (Nat.le_refl _) _) g g)
  have A3 := Lib.hid ((A0.out.below hb3 A0.out.lt).alloc (.cells (labc x B) 26))
  have O3 := Lib.hid (Blk.new w3 (labc x B) 26)
  clear HR2 HK2 A0 HB2 hb3 HJ
  generalize w3.heap.size = q at *
  generalize w3.alloc _ = W3 at *
  have HP : Hid (∀ w4, Below W3.heap.size W3 w4 → Blk w4 w.heap.size (labc 0 0) 26 ∧ Blk w4 q (labc x B) 26 ∧ Rd w4 g h c s (p + 1 + n) ∧ Keep w w4 g g) := fun w4 hb4 => ⟨A3.out.below hb4 A3.out.lt, O3.out.below hb4 O3.out.lt, HR3.out.below hb4, HK3.out.trans (Keep.of hb4 g g)⟩
  clear HR3 HK3 A3
  cases r
  · go_wp2_with (first | (refine p_loadL rfl _ rfl _ rfl _ _ (by first | with_reducible exact O3.out) ?_) | (go_at_call 28; (with_reducible refine (HI.calls _).mono ?_); rintro e w4 ⟨rfl, hb4⟩; have HQ := Lib.hid (HP.out _ hb4)) | (refine p_storeL rfl _ _ rfl w.heap.size rfl 0 0 rfl 0 0 HQ.out.1 ?_))
    refine bodyPost_ret (results_labv2 Try.results45 _ _ w.heap.size 0 0 (.int .i64 3) rfl rfl (HQ.out.1.setRow _)) rfl ?_
    obtain ⟨rfl, rfl⟩ := HVE.out.2 trivial
    exact ⟨rfl, ⟨p + 1 + n, HQ.out.2.2.1.row _ _ (by omega) (by omega), fun h => by cases h⟩, HQ.out.2.2.2.setNew (Nat.le_refl _) _⟩
  · go_wp2_with (first | (refine p_loadL rfl _ rfl _ rfl _ _ (by first | with_reducible exact O3.out | with_reducible exact HQ.out.2.1) ?_) | (go_at_call 28; (with_reducible refine (HI.calls _).mono ?_); rintro e w4 ⟨rfl, hb4⟩; have HQ := Lib.hid (HP.out _ hb4)) | (refine p_storeL rfl _ _ rfl w.heap.size rfl _ _ rfl 0 0 HQ.out.1 ?_))
    refine bodyPost_ret (results_labv2 Try.results45 _ _ w.heap.size x B (.int .i64 0) rfl rfl (HQ.out.1.setRow _)) rfl ?_
    obtain ⟨rfl, rfl⟩ := HVE.out.1 trivial
    exact ⟨rfl, ⟨p + 1 + n, HQ.out.2.2.1.row _ _ (by omega) (by omega), fun _ => by omega⟩, HQ.out.2.2.2.setNew (Nat.le_refl _) _⟩

/-! what is read, told by the bytes that are left -/
theorem text_any {w : World} {g h c : Nat} {s : ByteArray} {p : Nat} (k : Rd w g h c s p) (hs : s.size ≤ 1000000) :
    ∃ v, Reads 41 w g h c s p (.string v) (rTxt (rest s p)).2.1 (rTxt (rest s p)).2.2 ∧ ((rTxt (rest s p)).2.2 = 0 → v = txt (rTxt (rest s p)).1) := by
  by_cases he : (rNum (rest s p)).2.2 ≠ 0
  · have e : rTxt (rest s p) = ([], 0, (rNum (rest s p)).2.2) := by unfold rTxt; rw [if_pos he]
    rw [e]
    exact ⟨_, text_code k hs he, fun h => absurd h he⟩
  · have he0 : (rNum (rest s p)).2.2 = 0 := by omega
    have hp := rNum_only (rest_lt s p) he0
    obtain ⟨v, n, e, hr⟩ : ∃ v n e, rNum (rest s p) = (v, n, e) := ⟨_, _, _, rfl⟩
    rw [hr] at he0 hp
    obtain rfl : e = 0 := he0
    have hn : n ≤ s.size - p := by rw [← rest_length]; exact hp.1
    have hle := k.le
    by_cases hv : 4096 < v
    · have e : rTxt (rest s p) = ([], 0, 3) := by unfold rTxt; rw [hr, if_neg (by simp), if_pos hv]
      rw [e]
      exact ⟨_, text_form k hs v n hr hv, fun h => by cases h⟩
    · by_cases hf : (rest s p).length < n + v
      · have e : rTxt (rest s p) = ([], 0, 4) := by unfold rTxt; rw [hr, if_neg (by simp), if_neg hv, if_pos hf]
        rw [e]
        obtain ⟨x, hx⟩ := text_few k hs v n hr hv (by rw [rest_length] at hf; omega)
        exact ⟨_, hx, fun h => by cases h⟩
      · have e : rTxt (rest s p) = (((rest s p).drop n).take v, n + v, 0) := by unfold rTxt; rw [hr, if_neg (by simp), if_neg hv, if_neg hf]
        rw [e, rest_rest]
        exact ⟨_, text_some k hs v n hr hv (by rw [rest_length] at hf; omega), fun _ => rfl⟩
theorem place_any {w : World} {g h c : Nat} {s : ByteArray} {p : Nat} (k : Rd w g h c s p) (hs : s.size ≤ 1000000) :
    Reads 43 w g h c s p (idv (rPl (rest s p)).1) (rPl (rest s p)).2.1 (rPl (rest s p)).2.2 := by
  have hle := k.le
  by_cases hf : (rest s p).length < 20
  · rw [show rPl (rest s p) = (0, 0, 4) by unfold rPl; rw [if_pos hf]]
    exact place_few k hs (by rw [rest_length] at hf; omega)
  · rw [show rPl (rest s p) = (valN ((rest s p).take 20), 20, 0) by unfold rPl; rw [if_neg hf]]
    exact place_some k hs (by rw [rest_length] at hf; omega)
theorem label_any {w : World} {g h c : Nat} {s : ByteArray} {p : Nat} (k : Rd w g h c s p) (hs : s.size ≤ 1000000) :
    Reads 45 w g h c s p (.agg (labc ((rLab (rest s p)).1 : Nat) (rLab (rest s p)).2.1)) (rLab (rest s p)).2.2.1 (rLab (rest s p)).2.2.2 := by
  rcases Nat.lt_or_ge p s.size with hp | hp
  · rw [rest_cons s p hp]
    by_cases hx : 64 < byteAt s p
    · rw [show rLab (byteAt s p :: rest s (p + 1)) = (0, 0, 0, 3) by rw [rLab, if_pos hx]]
      exact label_big k hs hp hx
    · by_cases hf : (rest s (p + 1)).length < e8 (byteAt s p)
      · rw [show rLab (byteAt s p :: rest s (p + 1)) = (0, 0, 0, 4) by rw [rLab, if_neg hx, if_pos hf]]
        exact label_few k hs hp _ rfl hx (by rw [rest_length] at hf; omega)
      · have hf' : p + 1 + e8 (byteAt s p) ≤ s.size := by rw [rest_length] at hf; omega
        cases hr : lowB (byteAt s p) (labV ((rest s (p + 1)).take (e8 (byteAt s p))))
        · rw [show rLab (byteAt s p :: rest s (p + 1)) = (0, 0, 0, 3) by rw [rLab, if_neg hx, if_neg hf, if_pos hr]]
          have hN := label_some k hs hp _ rfl hx hf' _ rfl false hr _ 3 ⟨fun h => by (cases h), fun _ => ⟨rfl, rfl⟩⟩
          unfold Reads at hN ⊢
          refine hN.mono ?_
          rintro e w' ⟨h1, ⟨q, h2, _⟩, h3⟩
          exact ⟨h1, ⟨q, h2, fun h => by cases h⟩, h3⟩
        · rw [show rLab (byteAt s p :: rest s (p + 1)) = (byteAt s p, labV ((rest s (p + 1)).take (e8 (byteAt s p))), 1 + e8 (byteAt s p), 0) by rw [rLab, if_neg hx, if_neg hf, if_neg (by rw [hr]; decide)]]
          exact label_some k hs hp _ rfl hx hf' _ rfl true hr _ 0 ⟨fun _ => ⟨rfl, rfl⟩, fun h => by cases h⟩
  · rw [rest_nil s p hp]
    exact label_end k hs hp
end Go.Proofs.Ytgfcdkihahfnkaa
