/- One is merged into those behind it, in place. -/
import Derived.Test.YtkcljbolopephaaTabIns
namespace Go.Proofs.Ytkcljbolopephaa
set_option maxRecDepth 100000
open Go Go.RowKit Go.Sort

/-- the one at a is moved up to k -/
def mup (f : Nat → Pe) (k a : Nat) : Nat → Pe := fun x => if x = k then f a else if a ≤ x ∧ x < k then f (x + 1) else f x
theorem mup_self (f : Nat → Pe) (a : Nat) : mup f a a = f := by
  funext x; unfold mup
  by_cases h : x = a
  · rw [if_pos h, h]
  · rw [if_neg h, if_neg (by omega)]
theorem mup_step (f : Nat → Pe) {k a : Nat} (h : a ≤ k) : swp (mup f k a) k (k + 1) = mup f (k + 1) a := by
  funext x
  unfold swp mup
  by_cases h1 : x = k + 1
  · rw [if_pos h1, if_pos rfl, if_pos h1]
  · rw [if_neg h1, if_neg h1]
    by_cases h2 : x = k
    · rw [if_pos h2, if_neg (by omega), if_neg (by omega), if_pos (by omega), h2]
    · rw [if_neg h2, if_neg h2]
      by_cases h3 : a ≤ x ∧ x < k
      · rw [if_pos h3, if_pos (by omega)]
      · rw [if_neg h3, if_neg (by omega)]
theorem mup_out (f : Nat → Pe) {k a x : Nat} (hk : a ≤ k) (h : x < a ∨ k < x) : mup f k a x = f x := by
  unfold mup; rw [if_neg (by omega), if_neg (by omega)]
theorem mup_at (f : Nat → Pe) (k a : Nat) : mup f k a k = f a := by unfold mup; rw [if_pos rfl]
theorem mup_seg (f : Nat → Pe) {a k e : Nat} (h1 : a ≤ k) (h2 : k < e) : seg (mup f k a) a e = seg f (a + 1) (k + 1) ++ ([f a] ++ seg f (k + 1) e) := by
  rw [seg_split (mup f k a) h1 (show k ≤ e by omega), seg_split (mup f k a) (show k ≤ k + 1 by omega) (show k + 1 ≤ e by omega), seg_one, mup_at]
  rw [seg_congr (f := mup f k a) (g := f) (a := k + 1) (b := e) fun i hi _ => mup_out f h1 (.inr hi)]
  rw [seg_shift (f := mup f k a) (g := f) (a := a) (b := k) (c := a + 1) (d := k + 1) (by omega) fun i hi => by
    unfold mup; rw [if_neg (by omega), if_pos (by omega)]; congr 1; omega]
theorem merge_left {f : Nat → Pe} {a k e : Nat} (h1 : a ≤ k) (h2 : k < e) (hu : Up (seg f (a + 1) e)) (hl : ∀ x, a + 1 ≤ x → x < k + 1 → (f x).1 < (f a).1) (hg : k + 1 < e → (f a).1 ≤ (f (k + 1)).1) : SO (seg f a e) (seg (mup f k a) a e) := by
  rw [mup_seg f h1 h2, seg_split f (show a ≤ a + 1 by omega) (show a + 1 ≤ e by omega), seg_one, seg_split f (show a + 1 ≤ k + 1 by omega) (show k + 1 ≤ e by omega)]
  rw [seg_split f (show a + 1 ≤ k + 1 by omega) (show k + 1 ≤ e by omega), up_append] at hu
  have hu2 := up_seg.1 hu.2.1
  have := SO.merge (A1 := []) (A2 := [f a]) (B1 := seg f (a + 1) (k + 1)) (B2 := seg f (k + 1) e) (SO.self (by rw [List.nil_append]; exact hu.1)) (SO.self (up_append.2 ⟨List.pairwise_singleton _ _, hu.2.1, fun x hx y hy => by
    obtain rfl : x = f a := by simpa using hx
    obtain ⟨i, h3, h4, rfl⟩ := seg_mem hy
    have h5 := hg (by omega)
    rcases Nat.lt_or_ge (k + 1) i with h6 | h6
    · have := hu2 (k + 1) i (Nat.le_refl _) h6 h4; omega
    · obtain rfl : i = k + 1 := by omega
      omega⟩)) (fun x hx => by cases hx) hu.2.2 (fun x hx => by cases hx) (fun x hx y hy => by
    obtain rfl : x = f a := by simpa using hx
    obtain ⟨i, h3, h4, rfl⟩ := seg_mem hy
    exact hl i h3 h4)
  simpa using this
set_option maxHeartbeats 4000000 in
theorem symLeft_any {w : World} {b o c n : Nat} {f : Nat → Pe} (h : Dat w b o f n) (a e : Nat) (hn : n ≤ 1000) (ha : a + 1 < e) (he : e ≤ n) (hu : Up (seg f (a + 1) e)) :
    Calls Try.prog 84 #[.slice (some ⟨b, o, none⟩) n c, .int .i64 (a : Int), .int .i64 ((a + 1 : Nat) : Int), .int .i64 (e : Int), cmpF] w fun r w' =>
      ∃ g, Does w b o n g r w' ∧ (∀ x, x < a ∨ e ≤ x → g x = f x) ∧ SO (seg f a e) (seg g a e) := by
  obtain ⟨m, hm⟩ : ∃ m, m = a + 1 := ⟨_, rfl⟩
  rw [← hm] at hu ha ⊢
  have H := Lib.hid h
  have HU := Lib.hid (up_seg.1 hu)
  have HL : Hid (∀ k, a ≤ k → k < e → (∀ x, m ≤ x → x < k + 1 → (f x).1 < (f a).1) → (k + 1 < e → (f a).1 ≤ (f (k + 1)).1) → SO (seg f a e) (seg (mup f k a) a e)) := fun k h1 h2 h3 h4 => merge_left h1 h2 (by rw [← hm]; exact hu) (by rw [← hm]; exact h3) h4
  have w1 : IntKind.i64.wrap ((m : Int) - (a : Int)) = 1 := by rw [show (m : Int) - (a : Int) = 1 by omega]; exact IntWalk.i64_in _ (by omega)
  clear h hu
  have ham : a < m := by omega
  have HM := Lib.hid hm
  clear hm
  go_enter Try.func84, Try.ntmps84
  go_upto_region 3 with (fail)
  clear w1
  go_loopw [10, 11] (fun x y wr => ∃ i j : Nat, x = .int .i64 (i : Int) ∧ y = .int .i64 (j : Int) ∧ m ≤ i ∧ i ≤ j ∧ j ≤ e ∧ (∀ x, m ≤ x → x < i → (f x).1 < (f a).1) ∧ (j < e → (f a).1 ≤ (f j).1) ∧ Below w.heap.size w wr) (fun x y _ => (intOf y).toNat - (intOf x).toNat)
  case atStart => exact ⟨m, e, rfl, rfl, Nat.le_refl _, by omega, Nat.le_refl _, fun x h1 h2 => by omega, fun h => by omega, Below.refl _ _⟩
  case round =>
    obtain ⟨i, j, rfl, rfl, hi, hij, hj, hl, hg, hB⟩ := hrel
    have HLo := Lib.hid hl
    have HHi := Lib.hid hg
    have HB := Lib.hid hB
    clear hl hg hB
    by_cases hlt : i < j
    · obtain ⟨h, hh⟩ : ∃ h, h = (i + j) / 2 := ⟨_, rfl⟩
      have hsh : ((i : Int) + (j : Int)) / 2 = (h : Int) := by omega
      have h1 : i ≤ h := by omega
      have h2 : h < j := by omega
      clear hh
      have hD := H.out.bel HB.out
      have r1 := hD.at (i := h) (by omega)
      have r2 := hD.at (i := a) (by omega)
      have hC := cmp_gives (f h) (f a)
      have hcv := cmpV_lt (f h).1 (f a).1
      have b3 : (h : Int) < (n : Int) := by omega
      have b4 : (a : Int) < (n : Int) := by omega
      have b5 : (0 : Int) ≤ (h : Int) := by omega
      have up : (f h).1 < (f a).1 → ∀ x, m ≤ x → x < h + 1 → (f x).1 < (f a).1 := fun hx x h3 h4 => by
        rcases Nat.lt_or_ge x h with h5 | h5
        · have := HU.out x h h3 h5 (by omega); omega
        · obtain rfl : x = h := by omega
          exact hx
      have HUp := Lib.hid up
      clear up hD
      generalize hcc : cmpV (f h).1 (f a).1 = cc at *
      clear hcc
      by_cases hx : (f h).1 < (f a).1
      · rw [decide_eq_true hx] at hcv
        have hz := Lib.hid (HUp.out hx)
        clear HUp HLo hx
        generalize f h = x at *
        generalize f a = y at *
        go_upto_region 5 with (fail)
        clear hsh
        refine wp_region_quiet_below (by kernel_rfl) (by kernel_rfl) ?_
        repeat (first
          | go_big_quiet_skip
          | (go_big_quiet_want
             first
             | (first | (refine q_midP _ rfl b (o + h * 21) rfl x (by with_reducible exact r1) ?_) | (refine q_midP _ rfl b (o + a * 21) rfl y (by with_reducible exact r2) ?_)
                simp only [Act.put, List.setIfInBounds_toArray, List.set_cons_succ, List.set_cons_zero]
                go_big_quiet_on)
             | (go_big_quiet_op
                first | go_big_quiet_on | go_big_quiet_call (first | with_reducible exact hC.grown _ _))))
        refine wpQuiet_nil ?_
        intro w2 hw'
        have hb2 := quiet_end hw'
        clear hw'
        have HB2 := Lib.hid (step HB.out hb2)
        clear hb2 r1 r2
        go_wp2
        exact ⟨⟨h + 1, j, by go_num, rfl, by omega, by omega, hj, hz.out, HHi.out, HB2.out⟩, by simp [intOf]; omega⟩
      · rw [decide_eq_false hx] at hcv
        have hz : Hid ((f a).1 ≤ (f h).1) := (by omega : (f a).1 ≤ (f h).1)
        clear HUp HHi hx
        generalize hfx : f h = x at *
        generalize f a = y at *
        go_upto_region 5 with (fail)
        clear hsh
        refine wp_region_quiet_below (by kernel_rfl) (by kernel_rfl) ?_
        repeat (first
          | go_big_quiet_skip
          | (go_big_quiet_want
             first
             | (first | (refine q_midP _ rfl b (o + h * 21) rfl x (by with_reducible exact r1) ?_) | (refine q_midP _ rfl b (o + a * 21) rfl y (by with_reducible exact r2) ?_)
                simp only [Act.put, List.setIfInBounds_toArray, List.set_cons_succ, List.set_cons_zero]
                go_big_quiet_on)
             | (go_big_quiet_op
                first | go_big_quiet_on | go_big_quiet_call (first | with_reducible exact hC.grown _ _))))
        refine wpQuiet_nil ?_
        intro w2 hw'
        have hb2 := quiet_end hw'
        clear hw'
        have HB2 := Lib.hid (step HB.out hb2)
        clear hb2 r1 r2
        go_wp2
        exact ⟨⟨i, h, rfl, rfl, hi, h1, by omega, HLo.out, fun _ => by rw [hfx]; exact hz.out, HB2.out⟩, by simp [intOf]; omega⟩
    · obtain rfl : j = i := by omega
      obtain ⟨s, hs⟩ : ∃ s, j = s + 1 := ⟨j - 1, by omega⟩
      have hSO := Lib.hid (HL.out s (by have := HM.out; omega) (by omega) (by rw [← hs]; exact HLo.out) (by rw [← hs]; exact HHi.out))
      have has : a ≤ s := by have := HM.out; omega
      have hse : s < e := by omega
      have s3 : IntKind.i64.wrap ((j : Int) - 1) = (s : Int) := by rw [show (j : Int) - 1 = (s : Int) by omega]; exact IntWalk.i64_in _ (by omega)
      clear hs
      have hD0 := Lib.hid (H.out.bel HB.out)
      have hG0 := Lib.hid (bel_grown HB.out (some b))
      clear HLo HHi HL HU HM H HB
      go_upto_region 9 with (fail)
      go_loopw [13] (fun k wv => ∃ k' : Nat, k = .int .i64 (k' : Int) ∧ a ≤ k' ∧ k' ≤ s ∧ Dat wv b o (mup f k' a) n ∧ w.grownBy wv (some b)) (fun k _ => s - (intOf k).toNat)
      case atStart => exact ⟨a, rfl, Nat.le_refl _, has, by rw [mup_self]; exact hD0.out, hG0.out⟩
      case round =>
        obtain ⟨k, rfl, hk1, hk2, hD, hG⟩ := hrel
        by_cases hks : k < s
        · have hD1 := hD.bel (drew_bel wr)
          have hD2 := hD1.swp (p := k) (q := k + 1) (by omega) (by omega)
          rw [mup_step f hk1, mup_at, mup_out f hk1 (.inr (by omega))] at hD2
          have hG2 := grownBy_trans (grownBy_trans hG (bel_grown (drew_bel wr) (some b))) (grown_swp wr.drew b o k (k + 1) (f (k + 1)) (f a))
          have r1 := hD1.at (i := k) (by omega)
          have r2 := hD1.at (i := k + 1) (by omega)
          rw [mup_at] at r1
          rw [mup_out f hk1 (.inr (by omega))] at r2
          have t1 := hD1.thereAt (i := k) (by omega)
          have t2 := World.there_setCells (hD1.thereAt (i := k + 1) (by omega)) b (o + k * 21) (peC (f (k + 1)))
          have b3 : (k : Int) < (s : Int) := by omega
          have b4 : (k : Int) < (n : Int) := by omega
          have b5 : (k : Int) + 1 < (n : Int) := by omega
          have b6 : (0 : Int) ≤ (k : Int) + 1 := by omega
          have s4 : IntKind.i64.wrap ((k : Int) + 1) = (k : Int) + 1 := IntWalk.i64_in _ (by omega)
          have HD2 := Lib.hid hD2
          have HG2 := Lib.hid hG2
          clear hD hG hD1 hD2 hG2 hSO hD0 hG0
          generalize f a = x at *
          generalize f (k + 1) = y at *
          go_upto_region 11 with (fail)
          refine wp_region_any (by kernel_rfl) ?_
          change wpAny _ _ _ _ _ _ _ (World.drew _)
          refine wpAny_take (i := 2) (v := ?_) rfl (by kernel_rfl) (by kernel_rfl) (by kernel_rfl) (fun _ _ _ h => h) (Or.inl ⟨by rfl, ?_⟩) ?_
          rotate_left
          · intro w9
            go_simp
            (try with_reducible rfl)
          (try simp only [Act.put]); (try simp only [List.setIfInBounds_toArray]); (try simp only [List.set_cons_succ]); (try simp only [List.set_cons_zero])
          refine wpAny_take (i := 3) (v := ?_) rfl (by kernel_rfl) (by kernel_rfl) (by kernel_rfl) (fun _ _ _ h => h) (Or.inl ⟨by rfl, ?_⟩) ?_
          rotate_left
          · intro w9
            go_simp
            (try with_reducible rfl)
          (try simp only [Act.put]); (try simp only [List.setIfInBounds_toArray]); (try simp only [List.set_cons_succ]); (try simp only [List.set_cons_zero])
          refine wpAny_take (i := 4) (v := ?_) rfl (by kernel_rfl) (by kernel_rfl) (by kernel_rfl) (fun _ _ _ h => h) (Or.inl ⟨by rfl, ?_⟩) ?_
          rotate_left
          · intro w9
            go_simp
            (try with_reducible rfl)
          (try simp only [Act.put]); (try simp only [List.setIfInBounds_toArray]); (try simp only [List.set_cons_succ]); (try simp only [List.set_cons_zero])
          refine any_tailX 14 [0, 1, 5, 6, 7, 8, 9, 10, 11, 12, 13] (by kernel_rfl) (by rfl) (fun _ _ _ _ _ h => h) ?_
          simp only [pickL, List.getElem?_cons_succ, List.getElem?_cons_zero, List.drop_succ_cons, List.drop_zero]
          still_step
          still_step
          still_step
          still_step
          still_step
          still_step
          refine wpStill_mid rfl 25 _ rfl b (o + (k + 1) * 21) rfl (peC y) _ r2 Try.underlying25 rfl (sizePL y) ?_
          (try simp only [Act.put]); (try simp only [List.setIfInBounds_toArray]); (try simp only [List.set_cons_succ]); (try simp only [List.set_cons_zero])
          still_step
          still_step
          still_step
          refine wpStill_mid rfl 25 _ rfl b (o + k * 21) rfl (peC x) _ r1 Try.underlying25 rfl (sizePL x) ?_
          (try simp only [Act.put]); (try simp only [List.setIfInBounds_toArray]); (try simp only [List.set_cons_succ]); (try simp only [List.set_cons_zero])
          refine wpStill_nil ?_
          (try simp only [Act.put]); (try simp only [List.setIfInBounds_toArray]); (try simp only [List.set_cons_succ]); (try simp only [List.set_cons_zero])
          refine p_idxP rfl _ _ rfl b o n c k rfl rfl (by omega) ?_
          (try simp only [Act.put]); (try simp only [List.setIfInBounds_toArray]); (try simp only [List.set_cons_succ]); (try simp only [List.set_cons_zero])
          refine wpList_store_mid rfl 25 _ _ rfl b (o + k * 21) (peA y) rfl rfl (by rw [peA_size]; exact t1) (by rw [peA_size]; exact sizeP) (peA_one y) ?_
          rw [peA_list]
          (try simp only [Act.put]); (try simp only [List.setIfInBounds_toArray]); (try simp only [List.set_cons_succ]); (try simp only [List.set_cons_zero])
          refine p_idxP rfl _ _ rfl b o n c (k + 1) rfl rfl (by omega) ?_
          (try simp only [Act.put]); (try simp only [List.setIfInBounds_toArray]); (try simp only [List.set_cons_succ]); (try simp only [List.set_cons_zero])
          refine wpList_store_mid rfl 25 _ _ rfl b (o + (k + 1) * 21) (peA x) rfl rfl (by rw [peA_size]; exact t2) (by rw [peA_size]; exact sizeP) (peA_one x) ?_
          rw [peA_list]
          (try simp only [Act.put]); (try simp only [List.setIfInBounds_toArray]); (try simp only [List.set_cons_succ]); (try simp only [List.set_cons_zero])
          have hD3 := HD2.out
          have hG3 := HG2.out
          clear HD2 HG2 r1 r2 t1 t2
          generalize (wr.drew.setCells b (o + k * 21) (peC y)).setCells b (o + (k + 1) * 21) (peC x) = W2 at *
          go_wp2
          exact ⟨⟨k + 1, by go_num, by omega, by omega, hD3, hG3⟩, by simp [intOf]; omega⟩
        · obtain rfl : k = s := by omega
          go_wp2
          refine bodyPost_ret (results_none rfl _ _ _) rfl ⟨mup f k a, ⟨rfl, hD, hG⟩, fun x hx => mup_out f has (by omega), hSO.out⟩
end Go.Proofs.Ytkcljbolopephaa
