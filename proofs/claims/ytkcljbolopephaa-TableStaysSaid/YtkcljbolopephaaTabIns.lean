/- Sorting by insertion, in place. -/
import Derived.Test.YtkcljbolopephaaTabCmp
namespace Go.Proofs.Ytkcljbolopephaa
set_option maxRecDepth 100000
open Go Go.RowKit Go.Sort

/-- the one at p is moved down to q -/
def mov (f : Nat → Pe) (q p : Nat) : Nat → Pe := fun x => if x = q then f p else if q < x ∧ x ≤ p then f (x - 1) else f x
theorem mov_self (f : Nat → Pe) (p : Nat) : mov f p p = f := by
  funext x; unfold mov
  by_cases h : x = p
  · rw [if_pos h, h]
  · rw [if_neg h, if_neg (by omega)]
theorem mov_step (f : Nat → Pe) {q p : Nat} (h : q + 1 ≤ p) : swp (mov f (q + 1) p) (q + 1) q = mov f q p := by
  funext x
  unfold swp mov
  by_cases h1 : x = q
  · rw [if_pos h1, if_pos rfl, if_pos h1]
  · rw [if_neg h1]
    by_cases h2 : x = q + 1
    · rw [if_pos h2, if_neg (by omega), if_neg (by omega), if_neg h1, if_pos (by omega)]
      congr 1; omega
    · rw [if_neg h2, if_neg h2, if_neg h1]
      by_cases h3 : q + 1 < x ∧ x ≤ p
      · rw [if_pos h3, if_pos (by omega)]
      · rw [if_neg h3, if_neg (by omega)]
theorem mov_out (f : Nat → Pe) {q p x : Nat} (hq : q ≤ p) (h : x < q ∨ p < x) : mov f q p x = f x := by
  unfold mov; rw [if_neg (by omega), if_neg (by omega)]
theorem mov_at (f : Nat → Pe) (q p : Nat) : mov f q p q = f p := by unfold mov; rw [if_pos rfl]
theorem mov_seg (f : Nat → Pe) {a q p : Nat} (h1 : a ≤ q) (h2 : q ≤ p) : seg (mov f q p) a (p + 1) = (seg f a p).take (q - a) ++ f p :: (seg f a p).drop (q - a) := by
  have e1 : (seg f a p).take (q - a) = seg f a q := by rw [seg_split f h1 h2, List.take_append_of_le_length (by rw [seg_length]; exact Nat.le_refl _), List.take_of_length_le (by rw [seg_length]; exact Nat.le_refl _)]
  have e2 : (seg f a p).drop (q - a) = seg f q p := by rw [seg_split f h1 h2, List.drop_append, seg_length, List.drop_eq_nil_of_le (by rw [seg_length]; exact Nat.le_refl _), Nat.sub_self, List.drop_zero, List.nil_append]
  rw [e1, e2, seg_split (mov f q p) h1 (show q ≤ p + 1 by omega), seg_split (mov f q p) (show q ≤ q + 1 by omega) (show q + 1 ≤ p + 1 by omega), seg_one, mov_at]
  rw [seg_congr (f := mov f q p) (g := f) (a := a) (b := q) fun i _ hi => mov_out f h2 (.inl hi)]
  rw [seg_shift (f := mov f q p) (g := f) (a := q + 1) (b := p + 1) (c := q) (d := p) (by omega) fun i hi => by
    unfold mov; rw [if_neg (by omega), if_pos (by omega)]; congr 1; omega]
  rfl
theorem sub_in (q : Nat) (h : q ≤ 1000000) : IntKind.i64.wrap (((q + 1 : Nat) : Int) - 1) = (q : Int) := by
  rw [show ((q + 1 : Nat) : Int) - 1 = (q : Int) by omega]; exact IntWalk.i64_in _ (by omega)
theorem sub_in' (q : Nat) (h : q ≤ 1000000) : IntKind.i64.wrap ((q : Int) + 1 - 1) = (q : Int) := by
  rw [show (q : Int) + 1 - 1 = (q : Int) by omega]; exact IntWalk.i64_in _ (by omega)
set_option maxHeartbeats 4000000 in
theorem insertion_any {w : World} {b o c n : Nat} {f : Nat → Pe} (h : Dat w b o f n) (a e : Nat) (hn : n ≤ 1000) (ha : a ≤ e) (he : e ≤ n) :
    Calls Try.prog 83 #[.slice (some ⟨b, o, none⟩) n c, .int .i64 (a : Int), .int .i64 (e : Int), cmpF] w fun r w' =>
      ∃ g, Does w b o n g r w' ∧ (∀ x, x < a ∨ e ≤ x → g x = f x) ∧ SO (seg f a e) (seg g a e) := by
  have H := Lib.hid h
  clear h
  rcases Nat.lt_or_ge a e with hae | hae
  rotate_left
  · obtain rfl : e = a := by omega
    have d1 : decide ((e : Int) + 1 < (e : Int)) = false := decide_eq_false (by omega)
    go_enter Try.func83, Try.ntmps83
    go_wp2
    refine wp_loop_rounds 1 ?_
    rw [rounds_succ]
    go_wp2
    refine bodyPost_end (results_none rfl _ _ _) rfl ⟨f, ⟨rfl, H.out, World.grownBy.refl _ _⟩, fun _ _ => rfl, ?_⟩
    rw [seg_none f (Nat.le_refl _)]
    exact SO.self List.Pairwise.nil
  go_enter Try.func83, Try.ntmps83
  go_wp2
  go_loopw [8] (fun i wr => ∃ (p : Nat) (g : Nat → Pe), i = .int .i64 (p : Int) ∧ a + 1 ≤ p ∧ p ≤ e ∧ Dat wr b o g n ∧ w.grownBy wr (some b) ∧ (∀ x, x < a ∨ p ≤ x → g x = f x) ∧ SO (seg f a p) (seg g a p)) (fun i _ => e + 1 - (intOf i).toNat)
  case atStart => exact ⟨a + 1, f, by go_num, Nat.le_refl _, hae, H.out, World.grownBy.refl _ _, fun _ _ => rfl, SO.self (by rw [seg_one]; exact List.pairwise_singleton _ _)⟩
  case round =>
    obtain ⟨p, g, rfl, hp1, hp2, hD, hG, ho, hS⟩ := hrel
    have HO := Lib.hid ho
    have HS := Lib.hid hS
    have HG := Lib.hid hG
    have HD := Lib.hid hD
    have HP2 := Lib.hid hp2
    clear ho hS hG hD hp2
    by_cases hlt : p < e
    · go_upto_region 4 with (fail)
      go_loopw [9] (fun j wv => ∃ q : Nat, j = .int .i64 (q : Int) ∧ a ≤ q ∧ q ≤ p ∧ Dat wv b o (mov g q p) n ∧ w.grownBy wv (some b) ∧ ∀ x, q ≤ x → x < p → (g p).1 < (g x).1) (fun j _ => (intOf j).toNat)
      case atStart => exact ⟨p, rfl, by omega, Nat.le_refl _, by rw [mov_self]; exact HD.out, HG.out, fun x h1 h2 => by omega⟩
      case round =>
        obtain ⟨q, rfl, hq1, hq2, hDq, hGq, hM⟩ := hrel
        have HM := Lib.hid hM
        have HGq := Lib.hid hGq
        have HDq := Lib.hid hDq
        clear hM hGq hDq
        have fin : (q = a ∨ (g (q - 1)).1 ≤ (g p).1) → SO (seg f a (p + 1)) (seg (mov g q p) a (p + 1)) := fun hh => by
          rw [mov_seg g hq1 hq2, seg_split f (show a ≤ p by omega) (show p ≤ p + 1 by omega), seg_one, ← HO.out p (.inr (Nat.le_refl _))]
          have hu := up_seg.1 HS.out.up
          refine HS.out.ins (fun y hy => ?_) (fun y hy => ?_)
          · obtain ⟨i, h1, h2, rfl⟩ := seg_mem (f := g) (a := q) (b := p) (x := y) (by
              rw [seg_split g hq1 hq2, List.drop_append, seg_length, List.drop_eq_nil_of_le (by rw [seg_length]; exact Nat.le_refl _), Nat.sub_self, List.drop_zero, List.nil_append] at hy
              exact hy)
            exact HM.out i h1 h2
          · obtain ⟨i, h1, h2, rfl⟩ := seg_mem (f := g) (a := a) (b := q) (x := y) (by
              rw [seg_split g hq1 hq2, List.take_append_of_le_length (by rw [seg_length]; exact Nat.le_refl _)] at hy
              exact List.mem_of_mem_take hy)
            rcases hh with rfl | hh
            · omega
            · rcases Nat.lt_or_ge i (q - 1) with h3 | h3
              · exact Int.le_trans (hu i (q - 1) h1 h3 (by omega)) hh
              · obtain rfl : i = q - 1 := by omega
                exact hh
        have HF := Lib.hid fin
        clear fin
        have out : ∀ x, x < a ∨ p + 1 ≤ x → mov g q p x = f x := fun x hx => by
          rw [mov_out g hq2 (by omega)]
          exact HO.out x (by omega)
        have HOut := Lib.hid out
        clear out
        rcases Nat.lt_or_ge a q with h3 | h3
        rotate_left
        · obtain rfl : q = a := by omega
          have d1 : decide ((q : Int) < (q : Int)) = false := by simp
          have hSO := Lib.hid (HF.out (.inl rfl))
          clear HF HM
          go_upto_region 4 with (fail)
          refine wp_region_quiet_below (by kernel_rfl) (by kernel_rfl) ?_
          repeat (first
            | go_big_quiet_skip
            | (go_big_quiet_want
               first
               | (first | fail
                  simp only [Act.put, List.setIfInBounds_toArray, List.set_cons_succ, List.set_cons_zero]
                  go_big_quiet_on)
               | (go_big_quiet_op
                  first | go_big_quiet_on | go_big_quiet_call (first | fail))))
          refine wpQuiet_nil ?_
          intro w2 hw'
          have hb2 := quiet_end hw'
          clear hw'
          have hD2 := HDq.out.bel hb2
          have hG2 := grownBy_trans HGq.out (bel_grown hb2 (some b))
          clear hb2 d1
          go_wp2
          exact ⟨⟨p + 1, _, by go_num, by omega, by omega, hD2, hG2, HOut.out, hSO.out⟩, by simp [intOf]; omega⟩
        · obtain ⟨s, rfl⟩ : ∃ s, q = s + 1 := ⟨q - 1, by omega⟩
          have r1 : wr.rangeAt b (o + (s + 1) * 21) (peC (g p)) := by have := HDq.out.at (i := s + 1) (by omega); rwa [mov_at] at this
          have r2 : wr.rangeAt b (o + s * 21) (peC (g s)) := by have := HDq.out.at (i := s) (by omega); rwa [mov_out g hq2 (by omega)] at this
          have hC := cmp_gives (g p) (g s)
          have hcv := cmpV_lt (g p).1 (g s).1
          have hM2 : (g p).1 < (g s).1 → ∀ x, s ≤ x → x < p → (g p).1 < (g x).1 := fun hh x h1 h2 => by
            rcases Nat.lt_or_ge s x with h | h
            · exact HM.out x (by omega) h2
            · obtain rfl : x = s := by omega
              exact hh
          have HM2 := Lib.hid hM2
          clear hM2 HM HO HS HG HD
          rw [Nat.add_sub_cancel] at HF
          have b1 : (a : Int) < (s : Int) + 1 := by omega
          have b2 : decide ((a : Int) < (s : Int) + 1) = true := decide_eq_true b1
          have b3 : (s : Int) + 1 < (n : Int) := by omega
          have b4 : (s : Int) < (n : Int) := by omega
          have b5 : (0 : Int) ≤ (s : Int) := by omega
          have b6 : (0 : Int) ≤ (s : Int) + 1 := by omega
          have s1 := sub_in' s (by omega)
          have s2 := sub_in s (by omega)
          have s3 : IntKind.i64.wrap (s : Int) = (s : Int) := IntWalk.i64_in _ (by omega)
          generalize hcc : cmpV (g p).1 (g s).1 = cc at *
          clear hcc
          by_cases hh : (g p).1 < (g s).1
          · rw [decide_eq_true hh] at hcv
            have hMM := Lib.hid (HM2.out hh)
            clear HF HM2 hh
            generalize hgp : g p = x at *
            generalize hgs : g s = y at *
            go_upto_region 4 with (fail)
            refine wp_region_quiet_below (by kernel_rfl) (by kernel_rfl) ?_
            repeat (first
              | go_big_quiet_skip
              | (go_big_quiet_want
                 first
                 | (first | (refine q_midP _ rfl b (o + (s + 1) * 21) rfl x (by with_reducible exact r1) ?_) | (refine q_midP _ rfl b (o + s * 21) rfl y (by with_reducible exact r2) ?_)
                    simp only [Act.put, List.setIfInBounds_toArray, List.set_cons_succ, List.set_cons_zero]
                    go_big_quiet_on)
                 | (go_big_quiet_op
                    first | go_big_quiet_on | go_big_quiet_call (first | with_reducible exact hC.grown _ _))))
            refine wpQuiet_nil ?_
            intro w2 hw'
            have hb2 := quiet_end hw'
            clear hw'
            have hDb := (HDq.out.bel hb2).bel (drew_bel w2)
            have hD2 := hDb.swp (p := s + 1) (q := s) (by omega) (by omega)
            rw [mov_step g hq2, mov_at, mov_out g hq2 (by omega), hgp, hgs] at hD2
            have hG2 := grownBy_trans (grownBy_trans (grownBy_trans HGq.out (bel_grown hb2 (some b))) (bel_grown (drew_bel w2) (some b))) (grown_swp w2.drew b o (s + 1) s y x)
            have r1 := hDb.at (i := s + 1) (by omega)
            have r2 := hDb.at (i := s) (by omega)
            rw [mov_at, hgp] at r1
            rw [mov_out g hq2 (by omega), hgs] at r2
            have t1 := hDb.thereAt (i := s + 1) (by omega)
            have t2 := World.there_setCells (hDb.thereAt (i := s) (by omega)) b (o + (s + 1) * 21) (peC y)
            have HD2 := Lib.hid hD2
            have HG2 := Lib.hid hG2
            clear hDb hD2 hG2
            go_upto_region 6 with (fail)
            clear hb2
            refine wp_region_any (by kernel_rfl) ?_
            change wpAny _ _ _ _ _ _ _ (World.drew _)
            refine wpAny_take (i := 2) (v := ?_) rfl (by kernel_rfl) (by kernel_rfl) (by kernel_rfl) (fun _ _ _ h => h) (Or.inl ⟨by rfl, ?_⟩) ?_
            rotate_left
            · intro w9
              go_simp
              (try with_reducible rfl)
            (try simp only [Act.put]); (try simp only [List.setIfInBounds_toArray]); (try simp only [List.set_cons_succ]); (try simp only [List.set_cons_zero])
            refine wpAny_take (i := 3) (v := ?_) rfl (by kernel_rfl) (by kernel_rfl) (by kernel_rfl) (fun _ _ _ h => h) (Or.inl ⟨by rfl, ?_⟩) ?_
            rotate_left
            · intro w9
              go_simp
              (try with_reducible rfl)
            (try simp only [Act.put]); (try simp only [List.setIfInBounds_toArray]); (try simp only [List.set_cons_succ]); (try simp only [List.set_cons_zero])
            refine wpAny_take (i := 4) (v := ?_) rfl (by kernel_rfl) (by kernel_rfl) (by kernel_rfl) (fun _ _ _ h => h) (Or.inl ⟨by rfl, ?_⟩) ?_
            rotate_left
            · intro w9
              go_simp
              (try with_reducible rfl)
            (try simp only [Act.put]); (try simp only [List.setIfInBounds_toArray]); (try simp only [List.set_cons_succ]); (try simp only [List.set_cons_zero])
            refine any_tailX 14 [0, 1, 5, 6, 7, 8, 9, 10, 11, 12, 13] (by kernel_rfl) (by rfl) (fun _ _ _ _ _ h => h) ?_
            simp only [pickL, List.getElem?_cons_succ, List.getElem?_cons_zero, List.drop_succ_cons, List.drop_zero]
            still_step
            still_step
            still_step
            still_step
            still_step
            still_step
            refine wpStill_mid rfl 25 _ rfl b (o + s * 21) rfl (peC y) _ r2 Try.underlying25 rfl (sizePL y) ?_
            (try simp only [Act.put]); (try simp only [List.setIfInBounds_toArray]); (try simp only [List.set_cons_succ]); (try simp only [List.set_cons_zero])
            still_step
            still_step
            still_step
            refine wpStill_mid rfl 25 _ rfl b (o + (s + 1) * 21) rfl (peC x) _ r1 Try.underlying25 rfl (sizePL x) ?_
            (try simp only [Act.put]); (try simp only [List.setIfInBounds_toArray]); (try simp only [List.set_cons_succ]); (try simp only [List.set_cons_zero])
            refine wpStill_nil ?_
            (try simp only [Act.put]); (try simp only [List.setIfInBounds_toArray]); (try simp only [List.set_cons_succ]); (try simp only [List.set_cons_zero])
            refine p_idxP rfl _ _ rfl b o n c (s + 1) rfl rfl (by omega) ?_
            (try simp only [Act.put]); (try simp only [List.setIfInBounds_toArray]); (try simp only [List.set_cons_succ]); (try simp only [List.set_cons_zero])
            refine wpList_store_mid rfl 25 _ _ rfl b (o + (s + 1) * 21) (peA y) rfl rfl (by rw [peA_size]; exact t1) (by rw [peA_size]; exact sizeP) (peA_one y) ?_
            rw [peA_list]
            (try simp only [Act.put]); (try simp only [List.setIfInBounds_toArray]); (try simp only [List.set_cons_succ]); (try simp only [List.set_cons_zero])
            refine p_idxP rfl _ _ rfl b o n c s rfl rfl (by omega) ?_
            (try simp only [Act.put]); (try simp only [List.setIfInBounds_toArray]); (try simp only [List.set_cons_succ]); (try simp only [List.set_cons_zero])
            refine wpList_store_mid rfl 25 _ _ rfl b (o + s * 21) (peA x) rfl rfl (by rw [peA_size]; exact t2) (by rw [peA_size]; exact sizeP) (peA_one x) ?_
            rw [peA_list]
            (try simp only [Act.put]); (try simp only [List.setIfInBounds_toArray]); (try simp only [List.set_cons_succ]); (try simp only [List.set_cons_zero])
            have hD3 := HD2.out
            have hG3 := HG2.out
            clear HD2 HG2 r1 r2 t1 t2
            generalize (w2.drew.setCells b (o + (s + 1) * 21) (peC y)).setCells b (o + s * 21) (peC x) = W2 at *
            go_wp2
            exact ⟨⟨s, by go_num, by omega, by omega, hD3, hG3, hMM.out⟩, by simp [intOf]⟩
          · rw [decide_eq_false hh] at hcv
            have hSO := Lib.hid (HF.out (.inr (by omega)))
            clear HF HM2 hh
            generalize g p = x at *
            generalize g s = y at *
            go_upto_region 4 with (fail)
            refine wp_region_quiet_below (by kernel_rfl) (by kernel_rfl) ?_
            repeat (first
              | go_big_quiet_skip
              | (go_big_quiet_want
                 first
                 | (first | (refine q_midP _ rfl b (o + (s + 1) * 21) rfl x (by with_reducible exact r1) ?_) | (refine q_midP _ rfl b (o + s * 21) rfl y (by with_reducible exact r2) ?_)
                    simp only [Act.put, List.setIfInBounds_toArray, List.set_cons_succ, List.set_cons_zero]
                    go_big_quiet_on)
                 | (go_big_quiet_op
                    first | go_big_quiet_on | go_big_quiet_call (first | with_reducible exact hC.grown _ _))))
            refine wpQuiet_nil ?_
            intro w2 hw'
            have hb2 := quiet_end hw'
            clear hw'
            have hD2 := HDq.out.bel hb2
            have hG2 := grownBy_trans HGq.out (bel_grown hb2 (some b))
            clear hb2 r1 r2
            go_wp2
            exact ⟨⟨p + 1, _, by go_num, by omega, by omega, hD2, hG2, HOut.out, hSO.out⟩, by simp [intOf]; omega⟩
    · go_wp2
      obtain rfl : p = e := by have := HP2.out; omega
      refine bodyPost_end (results_none rfl _ _ _) rfl ⟨g, ⟨rfl, HD.out, HG.out⟩, HO.out, HS.out⟩
end Go.Proofs.Ytkcljbolopephaa
