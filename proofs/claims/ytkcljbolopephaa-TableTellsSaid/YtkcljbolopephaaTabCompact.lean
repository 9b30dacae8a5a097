/- The row without those that follow one of their own address, made in place. -/
import Derived.Test.YtkcljbolopephaaTabClear
namespace Go.Proofs.Ytkcljbolopephaa
set_option maxRecDepth 100000
open Go Go.RowKit Go.Sort

/-- what is left of the row -/
def Compacts (w : World) (b o n c : Nat) (f : Nat → Pe) (r : Ending) (w' : World) : Prop :=
  ∃ k g, r = .returned (.slice (some ⟨b, o, none⟩) k c) ∧ k ≤ n ∧ Dat w' b o g k ∧ w.grownBy w' (some b) ∧ seg g 0 k = cptF f n
set_option maxHeartbeats 8000000 in
theorem compact_any {w : World} {b o c n : Nat} {f : Nat → Pe} (h : Dat w b o f n) (hn : n ≤ 1000) (hc : n ≤ c) :
    Calls Try.prog 65 #[.slice (some ⟨b, o, none⟩) n c, eqF] w (Compacts w b o n c f) := by
  have H := Lib.hid h
  clear h
  by_cases h2 : n < 2
  · have h2i : (n : Int) < 2 := by omega
    go_enter Try.func65, Try.ntmps65
    go_wp2
    go_ret
    refine ⟨n, f, rfl, Nat.le_refl _, H.out, World.grownBy.refl _ _, (cpt_seg f fun i h1 h2 => by omega).symm⟩
  have h2i : ¬ (n : Int) < 2 := by omega
  go_enter Try.func65, Try.ntmps65
  go_upto_region 4 with (fail)
  clear h2i
  go_loopw [5] (fun i wr => ∃ k : Nat, i = .int .i64 (k : Int) ∧ 1 ≤ k ∧ k ≤ n ∧ (∀ i, 1 ≤ i → i < k → (f (i - 1)).1 ≠ (f i).1) ∧ Below w.heap.size w wr) (fun i _ => n - (intOf i).toNat)
  case atStart => exact ⟨1, rfl, Nat.le_refl _, by omega, fun i h1 h2 => by omega, Below.refl _ _⟩
  case round =>
    obtain ⟨k, rfl, hk1, hkn, hall, hB⟩ := hrel
    have HA := Lib.hid hall
    have HB := Lib.hid hB
    clear hall hB
    by_cases hlt : k < n
    · obtain ⟨k0, hk0⟩ : ∃ k0, k = k0 + 1 := ⟨k - 1, by omega⟩
      have hD := H.out.bel HB.out
      have r1 := hD.at (i := k) (by omega)
      have r2 := hD.at (i := k0) (by omega)
      have hC := eq_gives (f k) (f k0)
      have b1 : (k : Int) < (n : Int) := by omega
      have b2 : (0 : Int) ≤ (k : Int) := by omega
      have b3 : (k0 : Int) < (n : Int) := by omega
      have b4 : (0 : Int) ≤ (k0 : Int) := by omega
      have s1 : IntKind.i64.wrap ((k : Int) - 1) = (k0 : Int) := by rw [show (k : Int) - 1 = (k0 : Int) by omega]; exact IntWalk.i64_in _ (by omega)
      have s2 : IntKind.i64.wrap ((k : Int) + 1) = (k : Int) + 1 := IntWalk.i64_in _ (by omega)
      have HK0 := Lib.hid hk0
      clear hk0
      by_cases hx : (f k0).1 = (f k).1
      · have e1 : ((f k).1 == (f k0).1) = true := by rw [beq_addr]; exact decide_eq_true hx.symm
        have c0 : cptF f (k + 1) = seg f 0 k := by
          rw [cpt_no f (by omega) (by rw [show k - 1 = k0 by have := HK0.out; omega]; exact hx)]; exact cpt_seg f HA.out
        have HC0 := Lib.hid c0
        clear c0 hD hx
        rw [e1] at hC
        clear e1
        generalize f k = x at *
        generalize f k0 = y at *
        go_upto_region 6 with (fail)
        refine wp_region_quiet_below (by kernel_rfl) (by kernel_rfl) ?_
        repeat (first
          | go_big_quiet_skip
          | (go_big_quiet_want
             first
             | (first | (refine q_midP _ rfl b (o + k * 21) rfl x (by with_reducible exact r1) ?_) | (refine q_midP _ rfl b (o + k0 * 21) rfl y (by with_reducible exact r2) ?_)
                simp only [Act.put, List.setIfInBounds_toArray, List.set_cons_succ, List.set_cons_zero]
                go_big_quiet_on)
             | (go_big_quiet_op
                first | go_big_quiet_on | go_big_quiet_call (first | with_reducible exact hC.grown _ _))))
        refine wpQuiet_nil ?_
        intro w2 hw'
        have hb2 := quiet_end hw'
        clear hw'
        have HB2 := Lib.hid (step HB.out hb2)
        clear hb2 r1 r2
        have hD2 := H.out.bel HB2.out
        have hG2 := bel_grown HB2.out (some b)
        have HD2 := Lib.hid hD2
        have HG2 := Lib.hid hG2
        clear hD2 hG2 HB HB2 HA H hC b3 b4 s1 s2
        have hkn' : k < n := hlt
        have hnk : ((n - k : Nat) : Int) = (n : Int) - (k : Int) := by omega
        obtain ⟨m, hm⟩ : ∃ m, m = n - k := ⟨_, rfl⟩
        rw [← hm] at hnk
        have hm1 : k + m = n := by omega
        go_upto_region 8 with (refine p_fromS rfl _ _ rfl b o n c k rfl rfl hkn' hc ?_)
        rw [← hm]
        clear hm hnk
        go_upto_region 9 with (fail)
        go_loopw [5, 7] (fun x y wv => ∃ (i j : Nat) (g : Nat → Pe), x = .int .i64 (i : Int) ∧ y = .int .i64 (j : Int) ∧ k ≤ i ∧ i < k + j ∧ j ≤ m ∧ Dat wv b o g n ∧ w.grownBy wv (some b) ∧ seg g 0 i = cptF f (k + j) ∧ ∀ q, i ≤ q → q < n → g q = f q) (fun _ y _ => m - (intOf y).toNat)
        case atStart => exact ⟨k, 1, f, rfl, rfl, Nat.le_refl _, by omega, by omega, HD2.out, HG2.out, HC0.out.symm, fun _ _ _ => rfl⟩
        case round =>
          clear HD2 HG2 HC0
          obtain ⟨i, j, g, rfl, rfl, hi1, hi2, hj, hD, hG, hS, hE⟩ := hrel
          have HD := Lib.hid hD
          have HG := Lib.hid hG
          have HS := Lib.hid hS
          have HE := Lib.hid hE
          clear hD hG hS hE
          by_cases hlt2 : j < m
          · obtain ⟨j0, hj0⟩ : ∃ j0, j = j0 + 1 := ⟨j - 1, by omega⟩
            have r1 := HD.out.at (i := k + j) (by omega)
            have r2 := HD.out.at (i := k + j0) (by omega)
            rw [HE.out _ (by omega) (by omega)] at r1 r2
            rw [show o + (k + j) * 21 = o + k * 21 + j * 21 by omega] at r1
            rw [show o + (k + j0) * 21 = o + k * 21 + j0 * 21 by omega] at r2
            have hC := eq_gives (f (k + j)) (f (k + j0))
            have b1 : (j : Int) < (m : Int) := by omega
            have b2 : (0 : Int) ≤ (j : Int) := by omega
            have b3 : (j0 : Int) < (m : Int) := by omega
            have b4 : (0 : Int) ≤ (j0 : Int) := by omega
            have s1 : IntKind.i64.wrap ((j : Int) - 1) = (j0 : Int) := by rw [show (j : Int) - 1 = (j0 : Int) by omega]; exact IntWalk.i64_in _ (by omega)
            have s2 : IntKind.i64.wrap ((j : Int) + 1) = (j : Int) + 1 := IntWalk.i64_in _ (by omega)
            have HJ0 := Lib.hid hj0
            clear hj0
            by_cases hx : (f (k + j0)).1 = (f (k + j)).1
            · have e1 : ((f (k + j)).1 == (f (k + j0)).1) = true := by rw [beq_addr]; exact decide_eq_true hx.symm
              have c1 : seg g 0 i = cptF f (k + (j + 1)) := by
                rw [show k + (j + 1) = k + j + 1 from rfl, cpt_no f (by omega) (by rw [show k + j - 1 = k + j0 by have := HJ0.out; omega]; exact hx)]; exact HS.out
              have HC1 := Lib.hid c1
              rw [e1] at hC
              clear e1 c1 hx HS
              generalize f (k + j) = x at *
              generalize f (k + j0) = y at *
              go_upto_region 11 with (fail)
              refine wp_region_quiet_below (by kernel_rfl) (by kernel_rfl) ?_
              repeat (first
                | go_big_quiet_skip
                | (go_big_quiet_want
                   first
                   | (first | (refine q_midP _ rfl b (o + k * 21 + j * 21) rfl x (by with_reducible exact r1) ?_) | (refine q_midP _ rfl b (o + k * 21 + j0 * 21) rfl y (by with_reducible exact r2) ?_)
                      simp only [Act.put, List.setIfInBounds_toArray, List.set_cons_succ, List.set_cons_zero]
                      go_big_quiet_on)
                   | (go_big_quiet_op
                      first | go_big_quiet_on | go_big_quiet_call (first | with_reducible exact hC.grown _ _))))
              refine wpQuiet_nil ?_
              intro w2 hw'
              have hb2 := quiet_end hw'
              clear hw'
              clear r1 r2 hC
              go_wp2
              exact ⟨⟨i, j + 1, g, rfl, by go_num, hi1, by omega, by omega, HD.out.bel hb2, grownBy_trans HG.out (bel_grown hb2 (some b)), HC1.out, HE.out⟩, by simp [intOf]; omega⟩
            · have e1 : ((f (k + j)).1 == (f (k + j0)).1) = false := by rw [beq_addr]; exact decide_eq_false (fun h => hx h.symm)
              have c1 : seg (fun q => if q = i then f (k + j) else g q) 0 (i + 1) = cptF f (k + (j + 1)) := by
                rw [seg_more, show k + (j + 1) = k + j + 1 from rfl, cpt_yes f (.inr (by rw [show k + j - 1 = k + j0 by have := HJ0.out; omega]; exact hx)), HS.out]
              have HC1 := Lib.hid c1
              rw [e1] at hC
              clear e1 c1 hx HS
              generalize hfx : f (k + j) = x at *
              generalize f (k + j0) = y at *
              go_upto_region 11 with (fail)
              refine wp_region_quiet_below (by kernel_rfl) (by kernel_rfl) ?_
              repeat (first
                | go_big_quiet_skip
                | (go_big_quiet_want
                   first
                   | (first | (refine q_midP _ rfl b (o + k * 21 + j * 21) rfl x (by with_reducible exact r1) ?_) | (refine q_midP _ rfl b (o + k * 21 + j0 * 21) rfl y (by with_reducible exact r2) ?_)
                      simp only [Act.put, List.setIfInBounds_toArray, List.set_cons_succ, List.set_cons_zero]
                      go_big_quiet_on)
                   | (go_big_quiet_op
                      first | go_big_quiet_on | go_big_quiet_call (first | with_reducible exact hC.grown _ _))))
              refine wpQuiet_nil ?_
              intro w2 hw'
              have hb2 := quiet_end hw'
              clear hw'
              clear r1 r2 hC
              have hD3 := HD.out.bel hb2
              have r1 := hD3.at (i := k + j) (by omega)
              rw [HE.out _ (by omega) (by omega), hfx, show o + (k + j) * 21 = o + k * 21 + j * 21 by omega] at r1
              have t1 := hD3.thereAt (i := i) (by omega)
              have HD4 := Lib.hid (hD3.set (i := i) (by omega) x)
              have HG4 := Lib.hid (grownBy_trans (grownBy_trans HG.out (bel_grown hb2 (some b))) (grown_set w2 b (o + i * 21) (peC x)))
              clear hD3 HD HG hb2
              have b5 : (i : Int) < (n : Int) := by omega
              have b6 : (0 : Int) ≤ (i : Int) := by omega
              have s3 : IntKind.i64.wrap ((i : Int) + 1) = (i : Int) + 1 := IntWalk.i64_in _ (by omega)
              go_upto_region 13 with (first
                | (refine p_midP rfl _ rfl b (o + k * 21 + j * 21) rfl x (by with_reducible exact r1) ?_)
                | (refine wpList_store_mid rfl 25 _ _ rfl b (o + i * 21) (peA x) rfl rfl (by rw [peA_size]; exact t1) (by rw [peA_size]; exact sizeP) (peA_one x) ?_))
              rw [peA_list]
              clear r1 t1
              have HD5 := HD4
              have HG5 := HG4
              clear HD4 HG4
              generalize w2.setCells b (o + i * 21) (peC x) = W4 at *
              go_wp2
              exact ⟨⟨i + 1, j + 1, _, by go_num, by go_num, by omega, by omega, by omega, HD5.out, HG5.out, HC1.out, fun q h1 h2 => (if_neg (by omega)).trans (HE.out q (by omega) h2)⟩, by simp [intOf]; omega⟩
          · obtain rfl : j = m := by omega
            have hS := HS.out
            rw [hm1] at hS
            have HS2 := Lib.hid hS
            clear hS HS HE
            have hin : i < n := by omega
            have ht := HD.out.restThere (k := i) (by omega)
            have HD2 := Lib.hid (HD.out.cleared hin)
            have HG2 := Lib.hid (grownBy_trans HG.out (grown_set wr b (o + i * 21) (zeroC (n - i))))
            clear HD HG
            have hin1 : i ≤ n := by omega
            go_upto_region 15 with (first
              | (refine p_fromS rfl _ _ rfl b o n c i rfl rfl hin hc ?_)
              | (refine p_clearP rfl _ rfl b (o + i * 21) (n - i) (c - i) rfl (by omega) ht ?_))
            clear ht
            generalize wr.setCells b (o + i * 21) (zeroC (n - i)) = W5 at *
            go_wp2_with (refine p_uptoS rfl _ _ rfl b o n c i rfl rfl (by omega) ?_)
            go_ret
            exact ⟨i, g, rfl, by omega, HD2.out, HG2.out, HS2.out⟩
      · have e1 : ((f k).1 == (f k0).1) = false := by rw [beq_addr]; exact decide_eq_false (fun h => hx h.symm)
        have hall : ∀ i, 1 ≤ i → i < k + 1 → (f (i - 1)).1 ≠ (f i).1 := fun i h1 h2 => by
          rcases Nat.lt_or_ge i k with h3 | h3
          · exact HA.out i h1 h3
          · obtain rfl : i = k := by omega
            rw [show i - 1 = k0 by have := HK0.out; omega]; exact hx
        have HA2 := Lib.hid hall
        clear hall HA hD hx
        rw [e1] at hC
        clear e1
        generalize f k = x at *
        generalize f k0 = y at *
        go_upto_region 6 with (fail)
        refine wp_region_quiet_below (by kernel_rfl) (by kernel_rfl) ?_
        repeat (first
          | go_big_quiet_skip
          | (go_big_quiet_want
             first
             | (first | (refine q_midP _ rfl b (o + k * 21) rfl x (by with_reducible exact r1) ?_) | (refine q_midP _ rfl b (o + k0 * 21) rfl y (by with_reducible exact r2) ?_)
                simp only [Act.put, List.setIfInBounds_toArray, List.set_cons_succ, List.set_cons_zero]
                go_big_quiet_on)
             | (go_big_quiet_op
                first | go_big_quiet_on | go_big_quiet_call (first | with_reducible exact hC.grown _ _))))
        refine wpQuiet_nil ?_
        intro w2 hw'
        have hb2 := quiet_end hw'
        clear hw'
        have HB2 := Lib.hid (step HB.out hb2)
        clear hb2 r1 r2
        go_wp2
        exact ⟨⟨k + 1, by go_num, by omega, by omega, HA2.out, HB2.out⟩, by simp [intOf]; omega⟩
    · obtain rfl : k = n := by omega
      go_wp2
      go_ret
      exact ⟨k, f, rfl, Nat.le_refl _, H.out.bel HB.out, bel_grown HB.out _, (cpt_seg f HA.out).symm⟩
end Go.Proofs.Ytkcljbolopephaa
