/- The document's reader: labels. -/
import Derived.Test.YtgfcdkihahfnkaaWirGetP
namespace Go.Proofs.Ytgfcdkihahfnkaa
open Go.RowKit Go.Sort

theorem labV_nil : labV [] = 0 := by simp [labV, valN]
theorem run_atP (c : Nat) (t : List Nat) (hl : ∀ b ∈ c :: t, b < 256) (k : Nat) (h : k < t.length) (w : World) : (Instr.index 9 (.string (txt (c :: t))) (.int .i64 (1 + (k : Int)))).run Try.prog w = .ok (.int .u8 ((t[k] : Nat) : Int)) w := by
  have := run_at (c :: t) hl (k + 1) (by simp; omega) w
  rwa [show ((k + 1 : Nat) : Int) = 1 + (k : Int) by omega] at this
theorem refLabM_nil (g : Nat) : Gets 26 g [] (.tuple #[.agg (labc 0 0), .int .i64 4]) [] := by
  intro w hS
  have HS := Lib.hid hS
  have hg := hS.lt
  have hsz := txt_size []
  clear hS
  go_enter Try.func26, Try.ntmps26
  go_upto_region 1 with (fail)
  rw [lab00]
  have A0 := Lib.hid (Blk.new w (labc 0 0) 26)
  have B0 := Lib.hid ((Below.refl w.heap.size w).alloc (Nat.le_refl _) (.cells (labc 0 0) 26))
  generalize w.alloc _ = W at *
  have c0 := (HS.out.own B0.out).cell
  go_wp2_with (refine p_storeL rfl _ _ rfl w.heap.size rfl 0 0 rfl 0 0 A0.out ?_)
  refine bodyPost_ret (results_labv2 Try.results26 _ _ w.heap.size 0 0 (.int .i64 4) rfl rfl (A0.out.setRow _)) rfl ?_
  exact ⟨rfl, HS.out.own (bel_setRow B0.out (Nat.le_refl _) _), Keep.of (bel_setRow B0.out (Nat.le_refl _) _) _ _⟩
theorem refLabM_big (g c : Nat) (t : List Nat) (hl : ∀ b ∈ c :: t, b < 256) (hz : t.length ≤ 1000000) (h : 64 < c) : Gets 26 g (c :: t) (.tuple #[.agg (labc 0 0), .int .i64 3]) (c :: t) := by
  intro w hS
  have HS := Lib.hid hS
  have hg := hS.lt
  have hsz : (txt (c :: t)).size = t.length + 1 := txt_size _
  have hc := hl c (List.mem_cons_self ..)
  have h0 := run_at0 c t hl
  clear hS
  go_enter Try.func26, Try.ntmps26
  go_upto_region 1 with (fail)
  rw [lab00]
  have A0 := Lib.hid (Blk.new w (labc 0 0) 26)
  have B0 := Lib.hid ((Below.refl w.heap.size w).alloc (Nat.le_refl _) (.cells (labc 0 0) 26))
  generalize w.alloc _ = W at *
  have c0 := (HS.out.own B0.out).cell
  go_upto_region 4 with (refine wpList_store_newrow rfl 26 _ _ rfl (labc c 0) rfl rfl infoLab (lab_all _ _) rfl ?_)
  replace A0 := Lib.hid (A0.out.alloc (.cells (labc c 0) 26))
  have A1 := Lib.hid (Blk.new W (labc c 0) 26)
  replace B0 := Lib.hid (B0.out.alloc B0.out.size (.cells (labc c 0) 26))
  clear c0 h0
  generalize W.heap.size = q at *
  generalize W.alloc _ = W1 at *
  have c0 := lab0 A1.out
  go_wp2_with (refine p_storeL rfl _ _ rfl w.heap.size rfl 0 0 rfl 0 0 A0.out ?_)
  refine bodyPost_ret (results_labv2 Try.results26 _ _ w.heap.size 0 0 (.int .i64 3) rfl rfl (A0.out.setRow _)) rfl ?_
  exact ⟨rfl, HS.out.own (bel_setRow B0.out (Nat.le_refl _) _), Keep.of (bel_setRow B0.out (Nat.le_refl _) _) _ _⟩
theorem refLabM_few (g c : Nat) (t : List Nat) (hl : ∀ b ∈ c :: t, b < 256) (hz : t.length ≤ 1000000) (h : ¬ 64 < c) (h2 : t.length < e8 c) : Gets 26 g (c :: t) (.tuple #[.agg (labc 0 0), .int .i64 4]) (c :: t) := by
  intro w hS
  have HS := Lib.hid hS
  have hg := hS.lt
  have hsz : (txt (c :: t)).size = t.length + 1 := txt_size _
  have h0 := run_at0 c t hl
  clear hS
  go_enter Try.func26, Try.ntmps26
  go_upto_region 1 with (fail)
  rw [lab00]
  have A0 := Lib.hid (Blk.new w (labc 0 0) 26)
  have B0 := Lib.hid ((Below.refl w.heap.size w).alloc (Nat.le_refl _) (.cells (labc 0 0) 26))
  generalize w.alloc _ = W at *
  have c0 := (HS.out.own B0.out).cell
  go_upto_region 4 with (refine wpList_store_newrow rfl 26 _ _ rfl (labc c 0) rfl rfl infoLab (lab_all _ _) rfl ?_)
  replace A0 := Lib.hid (A0.out.alloc (.cells (labc c 0) 26))
  have A1 := Lib.hid (Blk.new W (labc c 0) 26)
  replace B0 := Lib.hid (B0.out.alloc B0.out.size (.cells (labc c 0) 26))
  clear c0 h0
  generalize W.heap.size = q at *
  generalize W.alloc _ = W1 at *
  have c0 := lab0 A1.out
  have c1 := (HS.out.own B0.out).cell
  have hd : decide ((t.length : Int) + 1 < 1 + ((c : Int) + 7) / 8) = true := by simp; unfold e8 at h2; omega
  go_wp2_with (refine p_storeL rfl _ _ rfl w.heap.size rfl 0 0 rfl 0 0 A0.out ?_)
  refine bodyPost_ret (results_labv2 Try.results26 _ _ w.heap.size 0 0 (.int .i64 4) rfl rfl (A0.out.setRow _)) rfl ?_
  exact ⟨rfl, HS.out.own (bel_setRow B0.out (Nat.le_refl _) _), Keep.of (bel_setRow B0.out (Nat.le_refl _) _) _ _⟩
set_option maxRecDepth 100000 in
set_option maxHeartbeats 2000000 in
theorem refLabM_some (g c : Nat) (t : List Nat) (hl : ∀ b ∈ c :: t, b < 256) (hz : t.length ≤ 1000000) (h : ¬ 64 < c) (n : Nat) (hn : e8 c = n) (h2 : ¬ t.length < n) (r : Bool) (hr : lowB c (labV (t.take n)) = r) :
    Gets 26 g (c :: t) (if r then .tuple #[.agg (labc c (labV (t.take (n)))), .int .i64 0] else .tuple #[.agg (labc 0 0), .int .i64 3]) (if r then (c :: t).drop (1 + n) else c :: t) := by
  intro w hS
  have HS := Lib.hid hS
  have hg := hS.lt
  have hsz : (txt (c :: t)).size = t.length + 1 := txt_size _
  have h0 := run_at0 c t hl
  have h8 := e8_le (n := c) (by omega)
  rw [hn] at h8
  have HN := Lib.hid hn
  clear hn
  have ht : ∀ b ∈ t, b < 256 := fun b hb => hl b (List.mem_cons_of_mem _ hb)
  have HI := Lib.hid (fun (k : Nat) (hk : k < t.length) w => run_atP c t hl k hk w)
  have HO := Lib.hid (fun (k : Nat) (hk : k < t.length) (h8 : k < 8) => labV_or t ht k hk h8)
  have hV : labV (t.take (n)) < 18446744073709551616 := labV_lt (fun b hb => ht b (List.mem_of_mem_take hb)) (by rw [List.length_take]; omega)
  have HL : Gives Try.prog 11 #[.agg (labc c (labV (t.take (n))))] (.bool r) := fun w => hr ▸ refIs_yes c _ w (by omega) hV
  have HC := Lib.hid (fun w => cut_from (c :: t) (1 + n) (by simp; omega) w)
  rw [show ((1 + n : Nat) : Int) = 1 + ((n : Nat) : Int) by omega] at HC
  have HT := Lib.hid ht
  clear hS ht hl hr hV
  go_enter Try.func26, Try.ntmps26
  go_upto_region 1 with (fail)
  rw [lab00]
  have A0 := Lib.hid (Blk.new w (labc 0 0) 26)
  have B0 := Lib.hid ((Below.refl w.heap.size w).alloc (Nat.le_refl _) (.cells (labc 0 0) 26))
  generalize hW : w.alloc _ = W at *
  have c0 := (HS.out.own B0.out).cell
  go_upto_region 4 with (refine wpList_store_newrow rfl 26 _ _ rfl (labc c 0) rfl rfl infoLab (lab_all _ _) rfl ?_)
  subst hW
  have K := Lib.hid (MemO.made w (labc 0 0) (labc c 0) 26)
  rw [World.size_alloc]
  clear c0 h0 A0 B0
  generalize (w.alloc _).alloc _ = W1 at *
  have c0 := lab0 K.out.o
  have c1 := (HS.out.own K.out.below).cell
  have hd : decide ((t.length : Int) + 1 < 1 + ((c : Int) + 7) / 8) = false := by simp; have := HN.out; unfold e8 at this; omega
  go_upto_region 9 with (fail)
  rw [show ((c : Int) + 7) / 8 = ((n : Nat) : Int) by rw [← HN.out]; unfold e8; omega]
  clear c0 c1 hd
  have h2' : n ≤ t.length := by omega
  clear h2
  go_wp2
  go_loopw [6] (fun i wr => ∃ k : Nat, k ≤ n ∧ i = .int .i64 (k : Int) ∧ MemO w wr (labc 0 0) (labc c (labV (t.take k))) 26) (fun i _ => n - (intOf i).toNat)
  case atStart => exact ⟨0, by omega, rfl, by rw [List.take_zero, labV_nil]; exact K.out⟩
  case round =>
    clear K
    obtain ⟨k, hk, rfl, K⟩ := hrel
    by_cases hlt : k < n
    · have hi := HI.out k (by omega)
      have ho := HO.out k (by omega) (by omega)
      have hx := HT.out (t[k]'(by omega)) (List.getElem_mem _)
      have c0 := (HS.out.own K.below).cell
      have c1 := lab1 K.o
      have f1 := K.o.free 1
      have HK := Lib.hid K
      clear K HI HO HT HC HL
      generalize hX : t[k]'(by omega) = x at *
      generalize hv' : labV (t.take (k + 1)) = v' at *
      have HV := Lib.hid hv'
      clear hv'
      generalize labV (t.take k) = v at *
      clear hX
      go_upto_region 12 with (fail)
      have g1 : IntKind.i64.wrap (1 + (k : Int)) = 1 + (k : Int) := IntWalk.i64_in _ (by omega)
      have g2 : IntKind.i64.wrap (8 * (k : Int)) = 8 * (k : Int) := IntWalk.i64_in _ (by omega)
      have g3 : IntKind.i64.wrap (56 - 8 * (k : Int)) = 56 - 8 * (k : Int) := IntWalk.i64_in _ (by omega)
      have t1 : (56 - 8 * (k : Int)).toNat = 56 - 8 * k := by omega
      have b1 : (0 : Int) ≤ 56 - 8 * (k : Int) := by omega
      refine wp_region_tail0 16 (by kernel_rfl) (by kernel_rfl) (fun _ _ _ _ _ h => h) ?_
      simp only [List.take_succ_cons, List.take_zero, List.drop_succ_cons, List.drop_zero]
      repeat still_step
      refine wpStill_nil ?_
      clear g1 g2 g3 t1 b1 hi
      go_wp2
      refine ⟨⟨k + 1, by omega, by go_num, ?_⟩, by simp [intOf]; omega⟩
      rw [HV.out]
      exact (HK.out.put 1 (.int .u64 (v' : Int))).drew
    · obtain rfl : k = n := by omega
      have HK := Lib.hid K
      clear K HI HO HT
      have hc := HC.out
      clear HC
      cases r
      · go_wp2_with (first | (refine p_loadL rfl _ rfl _ rfl _ _ (by first | with_reducible exact HK.out.o) ?_) | (refine p_storeL rfl _ _ rfl w.heap.size rfl 0 0 rfl 0 0 HK2.out.z ?_) | (go_at_call 11; (with_reducible refine (HL.calls _).mono ?_); rintro e w2 ⟨rfl, hb2⟩; have HK2 := Lib.hid (HK.out.grown hb2)))
        refine bodyPost_ret (results_labv2 Try.results26 _ _ w.heap.size 0 0 (.int .i64 3) rfl rfl (HK2.out.z.setRow _)) rfl ?_
        exact ⟨rfl, HS.out.own (bel_setRow HK2.out.below (Nat.le_refl _) _), Keep.of (bel_setRow HK2.out.below (Nat.le_refl _) _) _ _⟩
      · go_upto_region 15 with (first | (refine p_loadL rfl _ rfl _ rfl _ _ (by first | with_reducible exact HK.out.o) ?_) | (go_at_call 11; (with_reducible refine (HL.calls _).mono ?_); rintro e w2 ⟨rfl, hb2⟩; have HK2 := Lib.hid (HK.out.grown hb2)))
        have c0 := (HS.out.own HK2.out.below).cell
        have f0 := (HS.out.own HK2.out.below).free
        have HZ : Hid (Blk (w2.setCell ⟨g, 0, none⟩ (.string (txt ((c :: t).drop (1 + k))))) w.heap.size (labc 0 0) 26) := HK2.out.z.other _ _ _ (by omega)
        have HO : Hid (Blk (w2.setCell ⟨g, 0, none⟩ (.string (txt ((c :: t).drop (1 + k))))) (w.heap.size + 1) (labc c (labV (t.take k))) 26) := HK2.out.o.other _ _ _ (by omega)
        go_wp2_with (first | (refine p_loadL rfl _ rfl _ rfl _ _ (by first | with_reducible exact HO.out) ?_) | (refine p_storeL rfl _ _ rfl w.heap.size rfl _ _ rfl 0 0 HZ.out ?_))
        refine bodyPost_ret (results_labv2 Try.results26 _ _ w.heap.size c (labV (t.take k)) (.int .i64 0) rfl rfl (HZ.out.setRow _)) rfl ?_
        have KK : Keep w (w2.setCell ⟨g, 0, none⟩ (.string (txt ((c :: t).drop (1 + k))))) g g := (Keep.of HK2.out.below g g).setCell 0 _
        refine ⟨rfl, Blk.setRow_other ((HS.out.own HK2.out.below).put _) _ _ (by omega), ?_⟩
        exact ⟨KK.os, KK.tape, KK.output, by simpa [World.setRow] using KK.size, fun j hj h1 h2 => (Go.setRow_other _ _ j _ (by omega)).trans (KK.block j hj h1 h2)⟩
theorem refLabM_any (g : Nat) (l : List Nat) (hl : ∀ b ∈ l, b < 256) (hz : l.length ≤ 1000000) :
    Gets 26 g l (.tuple #[.agg (labc ((rLab l).1 : Nat) (rLab l).2.1), .int .i64 ((rLab l).2.2.2 : Int)]) (l.drop (rLab l).2.2.1) := by
  cases l with
  | nil => exact refLabM_nil g
  | cons c t =>
    have hz' : t.length ≤ 1000000 := by simp at hz; omega
    by_cases h : 64 < c
    · rw [show rLab (c :: t) = (0, 0, 0, 3) by rw [rLab, if_pos h]]
      exact refLabM_big g c t hl hz' h
    · by_cases h2 : t.length < e8 c
      · rw [show rLab (c :: t) = (0, 0, 0, 4) by rw [rLab, if_neg h, if_pos h2]]
        exact refLabM_few g c t hl hz' h h2
      · cases hr : lowB c (labV (t.take (e8 c)))
        · rw [show rLab (c :: t) = (0, 0, 0, 3) by rw [rLab, if_neg h, if_neg h2, if_pos hr]]
          exact refLabM_some g c t hl hz' h (e8 c) rfl h2 false hr
        · rw [show rLab (c :: t) = (c, labV (t.take (e8 c)), 1 + e8 c, 0) by rw [rLab, if_neg h, if_neg h2, if_neg (by rw [hr]; decide)]]
          exact refLabM_some g c t hl hz' h (e8 c) rfl h2 true hr
end Go.Proofs.Ytgfcdkihahfnkaa
