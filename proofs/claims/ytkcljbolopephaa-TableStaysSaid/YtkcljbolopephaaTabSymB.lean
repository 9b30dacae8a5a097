/- One is merged into those ahead of it, in place. -/
import Derived.Test.YtkcljbolopephaaTabSymA
namespace Go.Proofs.Ytkcljbolopephaa
set_option maxRecDepth 100000
open Go Go.RowKit Go.Sort

theorem merge_right {f : Nat → Pe} {a i m : Nat} (h1 : a ≤ i) (h2 : i ≤ m) (hu : Up (seg f a m)) (hl : ∀ x, a ≤ x → x < i → (f x).1 ≤ (f m).1) (hg : i < m → (f m).1 < (f i).1) : SO (seg f a (m + 1)) (seg (mov f i m) a (m + 1)) := by
  rw [mov_seg f h1 h2, seg_split f (show a ≤ m by omega) (show m ≤ m + 1 by omega), seg_one]
  have hu2 := up_seg.1 hu
  refine (SO.self hu).ins (fun y hy => ?_) (fun y hy => ?_)
  · rw [seg_split f h1 h2, List.drop_append, seg_length, List.drop_eq_nil_of_le (by rw [seg_length]; exact Nat.le_refl _), Nat.sub_self, List.drop_zero, List.nil_append] at hy
    obtain ⟨k, h3, h4, rfl⟩ := seg_mem hy
    have h5 := hg (by omega)
    rcases Nat.lt_or_ge i k with h6 | h6
    · have := hu2 i k h1 h6 h4; omega
    · obtain rfl : i = k := by omega
      exact h5
  · rw [seg_split f h1 h2, List.take_append_of_le_length (by rw [seg_length]; exact Nat.le_refl _)] at hy
    obtain ⟨k, h3, h4, rfl⟩ := seg_mem (List.mem_of_mem_take hy)
    exact hl k h3 h4
set_option maxHeartbeats 4000000 in
theorem symRight_any {w : World} {b o c n : Nat} {f : Nat → Pe} (h : Dat w b o f n) (a m : Nat) (hn : n ≤ 1000) (ha : a + 1 < m) (he : m + 1 ≤ n) (hu : Up (seg f a m)) :
    Calls Try.prog 84 #[.slice (some ⟨b, o, none⟩) n c, .int .i64 (a : Int), .int .i64 (m : Int), .int .i64 ((m + 1 : Nat) : Int), cmpF] w fun r w' =>
      ∃ g, Does w b o n g r w' ∧ (∀ x, x < a ∨ m + 1 ≤ x → g x = f x) ∧ SO (seg f a (m + 1)) (seg g a (m + 1)) := by
  obtain ⟨e, hm⟩ : ∃ e, e = m + 1 := ⟨_, rfl⟩
  have H := Lib.hid h
  have HU := Lib.hid (up_seg.1 hu)
  have HL : Hid (∀ i, a ≤ i → i ≤ m → (∀ x, a ≤ x → x < i → (f x).1 ≤ (f m).1) → (i < m → (f m).1 < (f i).1) → SO (seg f a e) (seg (mov f i m) a e)) := fun k h1 h2 h3 h4 => by rw [hm]; exact merge_right h1 h2 hu h3 h4
  have w1 : IntKind.i64.wrap ((m : Int) - (a : Int)) = ((m - a : Nat) : Int) := by rw [← Int.ofNat_sub (by omega)]; exact IntWalk.i64_in _ (by omega)
  have w2 : IntKind.i64.wrap ((e : Int) - (m : Int)) = 1 := by rw [show (e : Int) - (m : Int) = 1 by omega]; exact IntWalk.i64_in _ (by omega)
  have d1 : (((m - a : Nat) : Int) == 1) = false := by simp; omega
  have hem : m < e := by omega
  have hen : e ≤ n := by omega
  rw [← hm]
  clear h hu
  have HM := Lib.hid hm
  clear hm he
  generalize m - a = ma at *
  go_enter Try.func84, Try.ntmps84
  go_upto_region 15 with (fail)
  clear w1 w2 d1
  go_loopw [14, 15] (fun x y wr => ∃ i j : Nat, x = .int .i64 (i : Int) ∧ y = .int .i64 (j : Int) ∧ a ≤ i ∧ i ≤ j ∧ j ≤ m ∧ (∀ x, a ≤ x → x < i → (f x).1 ≤ (f m).1) ∧ (j < m → (f m).1 < (f j).1) ∧ Below w.heap.size w wr) (fun x y _ => (intOf y).toNat - (intOf x).toNat)
  case atStart => exact ⟨a, m, rfl, rfl, Nat.le_refl _, by omega, Nat.le_refl _, fun x h1 h2 => by omega, fun h => by omega, Below.refl _ _⟩
  case round =>
    obtain ⟨i, j, rfl, rfl, hi, hij, hj, hl, hg, hB⟩ := hrel
    have HLo := Lib.hid hl
    have HHi := Lib.hid hg
    have HB := Lib.hid hB
    clear hl hg hB
    by_cases hlt : i < j
    · obtain ⟨h, hh⟩ : ∃ h, h = (i + j) / 2 := ⟨_, rfl⟩
      have hsh : ((i : Int) + (j : Int)) / 2 = (h : Int) := by omega
      have h1 : i ≤ h := by omega
      have h2 : h < j := by omega
      clear hh
      have hD := H.out.bel HB.out
      have r1 := hD.at (i := m) (by omega)
      have r2 := hD.at (i := h) (by omega)
      have hC := cmp_gives (f m) (f h)
      have hcv := cmpV_lt (f m).1 (f h).1
      have b3 : (h : Int) < (n : Int) := by omega
      have b4 : (m : Int) < (n : Int) := by omega
      have b5 : (0 : Int) ≤ (h : Int) := by omega
      have up : ¬ (f m).1 < (f h).1 → ∀ x, a ≤ x → x < h + 1 → (f x).1 ≤ (f m).1 := fun hx x h3 h4 => by
        rcases Nat.lt_or_ge x h with h5 | h5
        · have := HU.out x h h3 h5 (by omega); omega
        · obtain rfl : x = h := by omega
          omega
      have HUp := Lib.hid up
      clear up hD
      generalize hcc : cmpV (f m).1 (f h).1 = cc at *
      clear hcc
      by_cases hx : (f m).1 < (f h).1
      · rw [decide_eq_true hx] at hcv
        have hz := Lib.hid hx
        clear HUp HHi hx
        generalize hfx : f h = y at *
        generalize f m = x at *
        go_upto_region 17 with (fail)
        clear hsh
        refine wp_region_quiet_below (by kernel_rfl) (by kernel_rfl) ?_
        repeat (first
          | go_big_quiet_skip
          | (go_big_quiet_want
             first
             | (first | (refine q_midP _ rfl b (o + m * 21) rfl x (by with_reducible exact r1) ?_) | (refine q_midP _ rfl b (o + h * 21) rfl y (by with_reducible exact r2) ?_)
                simp only [Act.put, List.setIfInBounds_toArray, List.set_cons_succ, List.set_cons_zero]
                go_big_quiet_on)
             | (go_big_quiet_op
                first | go_big_quiet_on | go_big_quiet_call (first | with_reducible exact hC.grown _ _))))
        refine wpQuiet_nil ?_
        intro w2 hw'
        have hb2 := quiet_end hw'
        clear hw'
        have HB2 := Lib.hid (step HB.out hb2)
        clear hb2 r1 r2
        go_wp2
        exact ⟨⟨i, h, rfl, rfl, hi, h1, by omega, HLo.out, fun _ => by rw [hfx]; exact hz.out, HB2.out⟩, by simp [intOf]; omega⟩
      · rw [decide_eq_false hx] at hcv
        have hz := Lib.hid (HUp.out hx)
        clear HUp HLo hx
        generalize f h = y at *
        generalize f m = x at *
        go_upto_region 17 with (fail)
        clear hsh
        refine wp_region_quiet_below (by kernel_rfl) (by kernel_rfl) ?_
        repeat (first
          | go_big_quiet_skip
          | (go_big_quiet_want
             first
             | (first | (refine q_midP _ rfl b (o + m * 21) rfl x (by with_reducible exact r1) ?_) | (refine q_midP _ rfl b (o + h * 21) rfl y (by with_reducible exact r2) ?_)
                simp only [Act.put, List.setIfInBounds_toArray, List.set_cons_succ, List.set_cons_zero]
                go_big_quiet_on)
             | (go_big_quiet_op
                first | go_big_quiet_on | go_big_quiet_call (first | with_reducible exact hC.grown _ _))))
        refine wpQuiet_nil ?_
        intro w2 hw'
        have hb2 := quiet_end hw'
        clear hw'
        have HB2 := Lib.hid (step HB.out hb2)
        clear hb2 r1 r2
        go_wp2
        exact ⟨⟨h + 1, j, by go_num, rfl, by omega, by omega, hj, hz.out, HHi.out, HB2.out⟩, by simp [intOf]; omega⟩
    · obtain rfl : j = i := by omega
      have hSO := Lib.hid (HL.out j hi hj HLo.out HHi.out)
      have hD0 := Lib.hid (H.out.bel HB.out)
      have hG0 := Lib.hid (bel_grown HB.out (some b))
      clear HLo HHi HL HU H HB
      go_upto_region 21 with (fail)
      go_loopw [17] (fun k wv => ∃ k' : Nat, k = .int .i64 (k' : Int) ∧ j ≤ k' ∧ k' ≤ m ∧ Dat wv b o (mov f k' m) n ∧ w.grownBy wv (some b)) (fun k _ => (intOf k).toNat)
      case atStart => exact ⟨m, rfl, hj, Nat.le_refl _, by rw [mov_self]; exact hD0.out, hG0.out⟩
      case round =>
        obtain ⟨k, rfl, hk1, hk2, hD, hG⟩ := hrel
        by_cases hks : j < k
        · obtain ⟨s, hs⟩ : ∃ s, k = s + 1 := ⟨k - 1, by omega⟩
          have hD1 := hD.bel (drew_bel wr)
          have hD2 := hD1.swp (p := k) (q := s) (by omega) (by omega)
          rw [hs, mov_step f (by omega), mov_at, mov_out f (by omega) (.inl (by omega)), ← hs] at hD2
          have hG2 := grownBy_trans (grownBy_trans hG (bel_grown (drew_bel wr) (some b))) (grown_swp wr.drew b o k s (f s) (f m))
          have r1 := hD1.at (i := k) (by omega)
          have r2 := hD1.at (i := s) (by omega)
          rw [mov_at] at r1
          rw [mov_out f (by omega) (.inl (by omega))] at r2
          have t1 := hD1.thereAt (i := k) (by omega)
          have t2 := World.there_setCells (hD1.thereAt (i := s) (by omega)) b (o + k * 21) (peC (f s))
          have b3 : (j : Int) < (k : Int) := by omega
          have b4 : (k : Int) < (n : Int) := by omega
          have b5 : (s : Int) < (n : Int) := by omega
          have b6 : (0 : Int) ≤ (s : Int) := by omega
          have s4 : IntKind.i64.wrap ((k : Int) - 1) = (s : Int) := by rw [show (k : Int) - 1 = (s : Int) by omega]; exact IntWalk.i64_in _ (by omega)
          have hjs : j ≤ s := by omega
          have hsk : s < k := by omega
          have HD2 := Lib.hid hD2
          have HG2 := Lib.hid hG2
          clear hD hG hD1 hD2 hG2 hSO hD0 hG0 hs
          generalize f m = x at *
          generalize f s = y at *
          go_upto_region 23 with (fail)
          refine wp_region_any (by kernel_rfl) ?_
          change wpAny _ _ _ _ _ _ _ (World.drew _)
          refine wpAny_take (i := 2) (v := ?_) rfl (by kernel_rfl) (by kernel_rfl) (by kernel_rfl) (fun _ _ _ h => h) (Or.inl ⟨by rfl, ?_⟩) ?_
          rotate_left
          · intro w9
            go_simp
            (try with_reducible rfl)
          (try simp only [Act.put]); (try simp only [List.setIfInBounds_toArray]); (try simp only [List.set_cons_succ]); (try simp only [List.set_cons_zero])
          refine wpAny_take (i := 3) (v := ?_) rfl (by kernel_rfl) (by kernel_rfl) (by kernel_rfl) (fun _ _ _ h => h) (Or.inl ⟨by rfl, ?_⟩) ?_
          rotate_left
          · intro w9
            go_simp
            (try with_reducible rfl)
          (try simp only [Act.put]); (try simp only [List.setIfInBounds_toArray]); (try simp only [List.set_cons_succ]); (try simp only [List.set_cons_zero])
          refine wpAny_take (i := 4) (v := ?_) rfl (by kernel_rfl) (by kernel_rfl) (by kernel_rfl) (fun _ _ _ h => h) (Or.inl ⟨by rfl, ?_⟩) ?_
          rotate_left
          · intro w9
            go_simp
            (try with_reducible rfl)
          (try simp only [Act.put]); (try simp only [List.setIfInBounds_toArray]); (try simp only [List.set_cons_succ]); (try simp only [List.set_cons_zero])
          refine any_tailX 14 [0, 1, 5, 6, 7, 8, 9, 10, 11, 12, 13] (by kernel_rfl) (by rfl) (fun _ _ _ _ _ h => h) ?_
          simp only [pickL, List.getElem?_cons_succ, List.getElem?_cons_zero, List.drop_succ_cons, List.drop_zero]
          still_step
          still_step
          still_step
          still_step
          still_step
          still_step
          refine wpStill_mid rfl 25 _ rfl b (o + s * 21) rfl (peC y) _ r2 Try.underlying25 rfl (sizePL y) ?_
          (try simp only [Act.put]); (try simp only [List.setIfInBounds_toArray]); (try simp only [List.set_cons_succ]); (try simp only [List.set_cons_zero])
          still_step
          still_step
          still_step
          refine wpStill_mid rfl 25 _ rfl b (o + k * 21) rfl (peC x) _ r1 Try.underlying25 rfl (sizePL x) ?_
          (try simp only [Act.put]); (try simp only [List.setIfInBounds_toArray]); (try simp only [List.set_cons_succ]); (try simp only [List.set_cons_zero])
          refine wpStill_nil ?_
          (try simp only [Act.put]); (try simp only [List.setIfInBounds_toArray]); (try simp only [List.set_cons_succ]); (try simp only [List.set_cons_zero])
          refine p_idxP rfl _ _ rfl b o n c k rfl rfl (by omega) ?_
          (try simp only [Act.put]); (try simp only [List.setIfInBounds_toArray]); (try simp only [List.set_cons_succ]); (try simp only [List.set_cons_zero])
          refine wpList_store_mid rfl 25 _ _ rfl b (o + k * 21) (peA y) rfl rfl (by rw [peA_size]; exact t1) (by rw [peA_size]; exact sizeP) (peA_one y) ?_
          rw [peA_list]
          (try simp only [Act.put]); (try simp only [List.setIfInBounds_toArray]); (try simp only [List.set_cons_succ]); (try simp only [List.set_cons_zero])
          refine p_idxP rfl _ _ rfl b o n c s rfl rfl (by omega) ?_
          (try simp only [Act.put]); (try simp only [List.setIfInBounds_toArray]); (try simp only [List.set_cons_succ]); (try simp only [List.set_cons_zero])
          refine wpList_store_mid rfl 25 _ _ rfl b (o + s * 21) (peA x) rfl rfl (by rw [peA_size]; exact t2) (by rw [peA_size]; exact sizeP) (peA_one x) ?_
          rw [peA_list]
          (try simp only [Act.put]); (try simp only [List.setIfInBounds_toArray]); (try simp only [List.set_cons_succ]); (try simp only [List.set_cons_zero])
          have hD3 := HD2.out
          have hG3 := HG2.out
          clear HD2 HG2 r1 r2 t1 t2
          generalize (wr.drew.setCells b (o + k * 21) (peC y)).setCells b (o + s * 21) (peC x) = W2 at *
          go_wp2
          exact ⟨⟨s, by go_num, by omega, by omega, hD3, hG3⟩, by simp [intOf]; omega⟩
        · obtain rfl : k = j := by omega
          go_wp2
          refine bodyPost_ret (results_none rfl _ _ _) rfl ⟨mov f k m, ⟨rfl, hD, hG⟩, fun x hx => mov_out f hj (by omega), hSO.out⟩
end Go.Proofs.Ytkcljbolopephaa
