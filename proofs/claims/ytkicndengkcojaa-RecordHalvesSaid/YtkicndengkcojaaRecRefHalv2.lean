/- The document's Halves. -/
import Derived.Test.YtkicndengkcojaaRecHalv2
import Derived.Test.YtkicndengkcojaaRecRes3
import Derived.Test.YtkicndengkcojaaRecRefHalv
import Derived.Test.YtkicndengkcojaaRecRefUnion
import Derived.Deep.CutRange
namespace Go.Proofs.Ytkicndengkcojaa
set_option maxRecDepth 100000
open Go Go.RowKit Go.Sort

set_option maxHeartbeats 8000000 in
theorem refhal_a {r : Rc} {u : Value} {n : Int} {b : Nat} {w : World} (hT : Told w u r.items) (hW : r.Wf) (_hl : r.items.length ≤ 1000000) (_hb : b < 18446744073709551616) (hr : isR r = false) :
    Calls Try.prog 26 #[.agg (recC r u), .agg (labc n b)] w fun e w' => e = .returned (.tuple #[.agg (recC zeroR (.slice none 0 0)), .agg (recC zeroR (.slice none 0 0)), .int .i64 1]) ∧ Below w.heap.size w w' := by
  obtain ⟨w1, h1⟩ : ∃ w1, w1 = w.alloc (.cells (recC r u) 27) := ⟨_, rfl⟩
  obtain ⟨w2, h2⟩ : ∃ w2, w2 = w1.alloc (.cells (labc n b) 25) := ⟨_, rfl⟩
  obtain ⟨w3, h3⟩ : ∃ w3, w3 = w2.alloc (.cells (recC zeroR (.slice none 0 0)) 27) := ⟨_, rfl⟩
  obtain ⟨V, h4⟩ : ∃ w4, w4 = w3.alloc (.cells (recC zeroR (.slice none 0 0)) 27) := ⟨_, rfl⟩
  have s1 : w1.heap.size = w.heap.size + 1 := by rw [h1]; simp
  have s2 : w2.heap.size = w.heap.size + 2 := by rw [h2]; simp [s1]
  have s3 : w3.heap.size = w.heap.size + 3 := by rw [h3]; simp [s2]
  have b1 : Below w.heap.size w w1 := h1 ▸ (Below.refl _ _).alloc (Nat.le_refl _) _
  have b2 : Below w.heap.size w w2 := h2 ▸ b1.alloc b1.size _
  have b3 : Below w.heap.size w w3 := h3 ▸ b2.alloc b2.size _
  have B0 : Below w.heap.size w V := h4 ▸ b3.alloc b3.size _
  have A0 : Blk V w.heap.size (recC r u) 27 := by
    rw [h4, h3, h2]; exact (((h1 ▸ Blk.new w _ _ : Blk w1 w.heap.size (recC r u) 27).alloc _).alloc _).alloc _
  have J0 : Blk V (w.heap.size + 1) (labc n b) 25 := by
    rw [h4, h3]; exact ((s1 ▸ (h2 ▸ Blk.new w1 _ _ : Blk w2 w1.heap.size (labc n b) 25) : Blk w2 (w.heap.size + 1) (labc n b) 25).alloc _).alloc _
  have Y0 : Blk V (w.heap.size + 2) (recC zeroR (.slice none 0 0)) 27 := by
    rw [h4]; exact (s2 ▸ (h3 ▸ Blk.new w2 _ _ : Blk w3 w2.heap.size (recC zeroR (.slice none 0 0)) 27) : Blk w3 (w.heap.size + 2) (recC zeroR (.slice none 0 0)) 27).alloc _
  have Z0 : Blk V (w.heap.size + 3) (recC zeroR (.slice none 0 0)) 27 := s3 ▸ (h4 ▸ Blk.new w3 _ _ : Blk V w3.heap.size (recC zeroR (.slice none 0 0)) 27)
  have hV : (((w.alloc (.cells (recC r u) 27)).alloc (.cells (labc n b) 25)).alloc (.cells (recC zeroR (.slice none 0 0)) 27)).alloc (.cells (recC zeroR (.slice none 0 0)) 27) = V := by rw [h4, h3, h2, h1]
  have T0 := hT.bel B0
  clear hT h1 h2 h3 h4 s1 s2 s3 b1 b2 b3
  have HI : ∀ (d : Nat) (os : Array Obj), Calls Try.prog 16 #[.agg (recC r u)] (grow (redrawn V d) os) fun e w'' => e = .returned (.bool false) ∧ ∃ p : Regrown, w'' = grow (redrawn V p.d) p.os := fun d os => by
    have h := refis_any (told_grown T0 d os) hW
    rw [hr] at h
    exact Calls.regrown_of h
  clear hW hr
  go_enter Try.func26, Try.ntmps26
  go_upto_region 1 with (fail)
  rw [zero_rec]
  first
    | rw [hV]
    | (simp only [recC] at hV; simp only [recC]; rw [hV])
  clear hV
  refine wp_region_quiet_below (by kernel_rfl) (by kernel_rfl) ?_
  repeat (first
    | go_big_quiet_skip
    | (go_big_quiet_want
       first
       | (first
          | refine q_loadR _ rfl w.heap.size rfl r u A0 ?_
          | refine q_loadL _ rfl (w.heap.size + 1) rfl n b J0 ?_
          simp only [Act.put, List.setIfInBounds_toArray, List.set_cons_succ, List.set_cons_zero]
          go_big_quiet_on)
       | (go_big_quiet_op
          first | go_big_quiet_on | go_big_quiet_call (first | with_reducible exact HI _ _))))
  refine wpQuiet_nil ?_
  intro w5 hw'
  have hb5 := quiet_fin hw'
  clear hw'
  have Y1 := Y0.below hb5 Y0.lt
  have Z1 := Z0.below hb5 Z0.lt
  have B1 := rstep B0 hb5
  clear Y0 Z0 B0 A0 J0 T0 hb5
  go_wp2_with (first
    | (refine p_storeR rfl _ _ rfl (w.heap.size + 2) rfl zeroR (.slice none 0 0) rfl rfl zeroR (.slice none 0 0) Y1 ?_)
    | (refine p_storeR rfl _ _ rfl (w.heap.size + 3) rfl zeroR (.slice none 0 0) rfl rfl zeroR (.slice none 0 0) (Z1.setRow_other _ _ (by omega)) ?_))
  exact bodyPost_ret (results_rec3 Try.results26 _ _ (w.heap.size + 2) (w.heap.size + 3) _ _ _ _ _ rfl rfl rfl ((Y1.setRow _).setRow_other _ _ (by omega)) ((Z1.setRow_other _ _ (by omega)).setRow _)) rfl ⟨rfl, bel_setRow (bel_setRow B1 (by omega) _) (by omega) _⟩
set_option maxHeartbeats 8000000 in
theorem refhal_b {r : Rc} {u : Value} {n : Int} {b : Nat} {w : World} (hT : Told w u r.items) (hW : r.Wf) (_hl : r.items.length ≤ 1000000) (hb : b < 18446744073709551616) (hr : isR r = true) (hq : isB n b = false) :
    Calls Try.prog 26 #[.agg (recC r u), .agg (labc n b)] w fun e w' => e = .returned (.tuple #[.agg (recC zeroR (.slice none 0 0)), .agg (recC zeroR (.slice none 0 0)), .int .i64 1]) ∧ Below w.heap.size w w' := by
  obtain ⟨w1, h1⟩ : ∃ w1, w1 = w.alloc (.cells (recC r u) 27) := ⟨_, rfl⟩
  obtain ⟨w2, h2⟩ : ∃ w2, w2 = w1.alloc (.cells (labc n b) 25) := ⟨_, rfl⟩
  obtain ⟨w3, h3⟩ : ∃ w3, w3 = w2.alloc (.cells (recC zeroR (.slice none 0 0)) 27) := ⟨_, rfl⟩
  obtain ⟨V, h4⟩ : ∃ w4, w4 = w3.alloc (.cells (recC zeroR (.slice none 0 0)) 27) := ⟨_, rfl⟩
  have s1 : w1.heap.size = w.heap.size + 1 := by rw [h1]; simp
  have s2 : w2.heap.size = w.heap.size + 2 := by rw [h2]; simp [s1]
  have s3 : w3.heap.size = w.heap.size + 3 := by rw [h3]; simp [s2]
  have b1 : Below w.heap.size w w1 := h1 ▸ (Below.refl _ _).alloc (Nat.le_refl _) _
  have b2 : Below w.heap.size w w2 := h2 ▸ b1.alloc b1.size _
  have b3 : Below w.heap.size w w3 := h3 ▸ b2.alloc b2.size _
  have B0 : Below w.heap.size w V := h4 ▸ b3.alloc b3.size _
  have A0 : Blk V w.heap.size (recC r u) 27 := by
    rw [h4, h3, h2]; exact (((h1 ▸ Blk.new w _ _ : Blk w1 w.heap.size (recC r u) 27).alloc _).alloc _).alloc _
  have J0 : Blk V (w.heap.size + 1) (labc n b) 25 := by
    rw [h4, h3]; exact ((s1 ▸ (h2 ▸ Blk.new w1 _ _ : Blk w2 w1.heap.size (labc n b) 25) : Blk w2 (w.heap.size + 1) (labc n b) 25).alloc _).alloc _
  have Y0 : Blk V (w.heap.size + 2) (recC zeroR (.slice none 0 0)) 27 := by
    rw [h4]; exact (s2 ▸ (h3 ▸ Blk.new w2 _ _ : Blk w3 w2.heap.size (recC zeroR (.slice none 0 0)) 27) : Blk w3 (w.heap.size + 2) (recC zeroR (.slice none 0 0)) 27).alloc _
  have Z0 : Blk V (w.heap.size + 3) (recC zeroR (.slice none 0 0)) 27 := s3 ▸ (h4 ▸ Blk.new w3 _ _ : Blk V w3.heap.size (recC zeroR (.slice none 0 0)) 27)
  have hV : (((w.alloc (.cells (recC r u) 27)).alloc (.cells (labc n b) 25)).alloc (.cells (recC zeroR (.slice none 0 0)) 27)).alloc (.cells (recC zeroR (.slice none 0 0)) 27) = V := by rw [h4, h3, h2, h1]
  have T0 := hT.bel B0
  clear hT h1 h2 h3 h4 s1 s2 s3 b1 b2 b3
  have HI : ∀ (d : Nat) (os : Array Obj), Calls Try.prog 16 #[.agg (recC r u)] (grow (redrawn V d) os) fun e w'' => e = .returned (.bool true) ∧ ∃ p : Regrown, w'' = grow (redrawn V p.d) p.os := fun d os => by
    have h := refis_any (told_grown T0 d os) hW
    rw [hr] at h
    exact Calls.regrown_of h
  have HJ : Gives Try.prog 52 #[.agg (labc n b)] (.bool false) := fun w => hq ▸ refIs_any n b w hb
  clear hW hr hq hb
  go_enter Try.func26, Try.ntmps26
  go_upto_region 1 with (fail)
  rw [zero_rec]
  first
    | rw [hV]
    | (simp only [recC] at hV; simp only [recC]; rw [hV])
  clear hV
  refine wp_region_quiet_below (by kernel_rfl) (by kernel_rfl) ?_
  repeat (first
    | go_big_quiet_skip
    | (go_big_quiet_want
       first
       | (first
          | refine q_loadR _ rfl w.heap.size rfl r u A0 ?_
          | refine q_loadL _ rfl (w.heap.size + 1) rfl n b J0 ?_
          simp only [Act.put, List.setIfInBounds_toArray, List.set_cons_succ, List.set_cons_zero]
          go_big_quiet_on)
       | (go_big_quiet_op
          first | go_big_quiet_on | go_big_quiet_call (first | with_reducible exact HI _ _ | with_reducible exact HJ.grown _ _))))
  refine wpQuiet_nil ?_
  intro w5 hw'
  have hb5 := quiet_fin hw'
  clear hw'
  have Y1 := Y0.below hb5 Y0.lt
  have Z1 := Z0.below hb5 Z0.lt
  have B1 := rstep B0 hb5
  clear Y0 Z0 B0 A0 J0 T0 hb5
  go_wp2_with (first
    | (refine p_storeR rfl _ _ rfl (w.heap.size + 2) rfl zeroR (.slice none 0 0) rfl rfl zeroR (.slice none 0 0) Y1 ?_)
    | (refine p_storeR rfl _ _ rfl (w.heap.size + 3) rfl zeroR (.slice none 0 0) rfl rfl zeroR (.slice none 0 0) (Z1.setRow_other _ _ (by omega)) ?_))
  exact bodyPost_ret (results_rec3 Try.results26 _ _ (w.heap.size + 2) (w.heap.size + 3) _ _ _ _ _ rfl rfl rfl ((Y1.setRow _).setRow_other _ _ (by omega)) ((Z1.setRow_other _ _ (by omega)).setRow _)) rfl ⟨rfl, bel_setRow (bel_setRow B1 (by omega) _) (by omega) _⟩
set_option maxHeartbeats 8000000 in
theorem refhal_cov {r : Rc} {u : Value} {n : Int} {b : Nat} {w : World} (hT : Told w u r.items) (hW : r.Wf) (hl : r.items.length ≤ 1000000) (hb : b < 18446744073709551616) (hr : isR r = true) (hq : isB n b = true) (hs : (covL r.items n b).length < r.items.length) :
    Calls Try.prog 26 #[.agg (recC r u), .agg (labc n b)] w fun e w' => e = .returned (.tuple #[.agg (recC zeroR (.slice none 0 0)), .agg (recC zeroR (.slice none 0 0)), .int .i64 1]) ∧ Below w.heap.size w w' := by
  obtain ⟨a, c, rfl⟩ := told_shape hT
  obtain ⟨w1, h1⟩ : ∃ w1, w1 = w.alloc (.cells (recC r (.slice a r.items.length c)) 27) := ⟨_, rfl⟩
  obtain ⟨w2, h2⟩ : ∃ w2, w2 = w1.alloc (.cells (labc n b) 25) := ⟨_, rfl⟩
  obtain ⟨w3, h3⟩ : ∃ w3, w3 = w2.alloc (.cells (recC zeroR (.slice none 0 0)) 27) := ⟨_, rfl⟩
  obtain ⟨V, h4⟩ : ∃ w4, w4 = w3.alloc (.cells (recC zeroR (.slice none 0 0)) 27) := ⟨_, rfl⟩
  have s1 : w1.heap.size = w.heap.size + 1 := by rw [h1]; simp
  have s2 : w2.heap.size = w.heap.size + 2 := by rw [h2]; simp [s1]
  have s3 : w3.heap.size = w.heap.size + 3 := by rw [h3]; simp [s2]
  have b1 : Below w.heap.size w w1 := h1 ▸ (Below.refl _ _).alloc (Nat.le_refl _) _
  have b2 : Below w.heap.size w w2 := h2 ▸ b1.alloc b1.size _
  have b3 : Below w.heap.size w w3 := h3 ▸ b2.alloc b2.size _
  have B0 : Below w.heap.size w V := h4 ▸ b3.alloc b3.size _
  have A0 : Blk V w.heap.size (recC r (.slice a r.items.length c)) 27 := by
    rw [h4, h3, h2]; exact (((h1 ▸ Blk.new w _ _ : Blk w1 w.heap.size (recC r (.slice a r.items.length c)) 27).alloc _).alloc _).alloc _
  have J0 : Blk V (w.heap.size + 1) (labc n b) 25 := by
    rw [h4, h3]; exact ((s1 ▸ (h2 ▸ Blk.new w1 _ _ : Blk w2 w1.heap.size (labc n b) 25) : Blk w2 (w.heap.size + 1) (labc n b) 25).alloc _).alloc _
  have Y0 : Blk V (w.heap.size + 2) (recC zeroR (.slice none 0 0)) 27 := by
    rw [h4]; exact (s2 ▸ (h3 ▸ Blk.new w2 _ _ : Blk w3 w2.heap.size (recC zeroR (.slice none 0 0)) 27) : Blk w3 (w.heap.size + 2) (recC zeroR (.slice none 0 0)) 27).alloc _
  have Z0 : Blk V (w.heap.size + 3) (recC zeroR (.slice none 0 0)) 27 := s3 ▸ (h4 ▸ Blk.new w3 _ _ : Blk V w3.heap.size (recC zeroR (.slice none 0 0)) 27)
  have hV : (((w.alloc (.cells (recC r (.slice a r.items.length c)) 27)).alloc (.cells (labc n b) 25)).alloc (.cells (recC zeroR (.slice none 0 0)) 27)).alloc (.cells (recC zeroR (.slice none 0 0)) 27) = V := by rw [h4, h3, h2, h1]
  have T0 := hT.bel B0
  clear hT h1 h2 h3 h4 s1 s2 s3 b1 b2 b3
  have HI : Hid (∀ W, Below V.heap.size V W → Calls Try.prog 16 #[.agg #[.int .i64 r.kind, .slice a r.items.length c, .int .i64 r.nl, .int .u64 (r.nb : Int), .int .u64 (r.mark : Int)]] W fun e w' => e = .returned (.bool true) ∧ Below W.heap.size W w') := by
    intro W hb1
    have h := refis_any (T0.bel hb1) hW
    rw [hr] at h
    exact h
  have HJ : Gives Try.prog 52 #[.agg #[.int .i64 n, .int .u64 (b : Int)]] (.bool true) := fun w => hq ▸ refIs_any n b w hb
  obtain ⟨m, hm⟩ : ∃ m, m = (covL r.items n b).length := ⟨_, rfl⟩
  have HC : Hid (∀ W, Below V.heap.size V W → Calls Try.prog 68 #[.agg #[.int .i64 r.kind, .slice a r.items.length c, .int .i64 r.nl, .int .u64 (r.nb : Int), .int .u64 (r.mark : Int)], .agg #[.int .i64 n, .int .u64 (b : Int)]] W fun e w' => (∃ q1 q2, e = .returned (.slice q1 m q2)) ∧ Below W.heap.size W w') := by
    intro W hb1
    refine (refcov_any (T0.bel hb1) hW hl n b hb).mono ?_
    rintro e w' ⟨v, he, hT, hbb⟩
    obtain ⟨q1, q2, rfl⟩ := told_shape hT
    exact ⟨⟨q1, q2, by rw [hm]; exact he⟩, hbb⟩
  rw [← hm] at hs
  have hd : ((m : Int) != (r.items.length : Int)) = true := by simp; omega
  have hdn : (m != r.items.length) = true := by simp; omega
  have HKW := Lib.hid hW
  have HKB := Lib.hid hb
  have HKL := Lib.hid hl
  clear hr hq hm hs hW hb hl
  go_enter Try.func26, Try.ntmps26
  go_upto_region 1 with (fail)
  rw [zero_rec]
  first
    | rw [hV]
    | (simp only [recC] at hV; simp only [recC]; rw [hV])
  clear hV
  refine wp_region_held_drew (S := (fun w9 => w9.cell? ⟨w.heap.size, 0, none⟩ = some (.int .i64 r.kind) ∧ w9.cell? ⟨w.heap.size, 1, none⟩ = some (.slice a r.items.length c) ∧ w9.cell? ⟨w.heap.size, 2, none⟩ = some (.int .i64 r.nl) ∧ w9.cell? ⟨w.heap.size, 3, none⟩ = some (.int .u64 (r.nb : Int)) ∧ w9.cell? ⟨w.heap.size, 4, none⟩ = some (.int .u64 (r.mark : Int)) ∧ w9.cell? ⟨w.heap.size + 1, 0, none⟩ = some (.int .i64 n) ∧ w9.cell? ⟨w.heap.size + 1, 1, none⟩ = some (.int .u64 (b : Int)))) (by kernel_rfl) ?_ (fun hHeld => ?_)
  · exact ⟨(A0.below (rdrew _) A0.lt).cell 0, (A0.below (rdrew _) A0.lt).cell 1, (A0.below (rdrew _) A0.lt).cell 2, (A0.below (rdrew _) A0.lt).cell 3, (A0.below (rdrew _) A0.lt).cell 4, lab0 (J0.below (rdrew _) J0.lt), lab1 (J0.below (rdrew _) J0.lt)⟩
  have hB := rdrew V
  replace A0 := A0.below hB A0.lt
  replace J0 := J0.below hB J0.lt
  generalize hy0 : V.drew = y0 at *
  clear hy0
  refine wpAnyH_take (i := 0) (v := ?_) rfl (by kernel_rfl) (by kernel_rfl) (by kernel_rfl) (fun _ _ _ h => h) (Or.inl ⟨by rfl, ?_⟩) (by assumption) ?_
  rotate_left
  · intro w9 hSw
    (try dsimp only at hSw)
    go_simp
    (try with_reducible rfl)
  (try simp only [Act.put]); (try simp only [List.setIfInBounds_toArray]); (try simp only [List.set_cons_succ]); (try simp only [List.set_cons_zero])
  refine wpAnyH_ready (rs := [1]) (by kernel_rfl) (by simp) ?_
  refine AllReadyH.cons rfl (fun K hK => ?_) ?_
  rotate_left
  · exact AllReadyH.nil
  go_simp
  go_wp2_with (go_at_call 16; (with_reducible refine (HI.out _ hB).mono ?_); rintro e y1 ⟨rfl, hbk⟩)
  refine hK.out _ _ ?_ (fun hHeld => ?_)
  · exact ⟨(A0.below hbk A0.lt).cell 0, (A0.below hbk A0.lt).cell 1, (A0.below hbk A0.lt).cell 2, (A0.below hbk A0.lt).cell 3, (A0.below hbk A0.lt).cell 4, lab0 (J0.below hbk J0.lt), lab1 (J0.below hbk J0.lt)⟩
  clear hK K
  (try simp only [Act.put]); (try simp only [List.setIfInBounds_toArray]); (try simp only [List.set_cons_succ]); (try simp only [List.set_cons_zero])
  replace A0 := A0.below hbk A0.lt
  replace J0 := J0.below hbk J0.lt
  replace hB := rstep hB hbk
  clear hbk
  refine wpAnyH_take (i := 2) (v := ?_) rfl (by kernel_rfl) (by kernel_rfl) (by kernel_rfl) (fun _ _ _ h => h) (Or.inl ⟨by rfl, ?_⟩) (by assumption) ?_
  rotate_left
  · intro w9 hSw
    (try dsimp only at hSw)
    go_simp
    (try with_reducible rfl)
  (try simp only [Act.put]); (try simp only [List.setIfInBounds_toArray]); (try simp only [List.set_cons_succ]); (try simp only [List.set_cons_zero])
  refine wpAnyH_take (i := 3) (v := ?_) rfl (by kernel_rfl) (by kernel_rfl) (by kernel_rfl) (fun _ _ _ h => h) (Or.inl ⟨by rfl, ?_⟩) (by assumption) ?_
  rotate_left
  · intro w9 hSw
    (try dsimp only at hSw)
    go_simp
    (try with_reducible rfl)
  (try simp only [Act.put]); (try simp only [List.setIfInBounds_toArray]); (try simp only [List.set_cons_succ]); (try simp only [List.set_cons_zero])
  refine wpAnyH_take (i := 4) (v := ?_) rfl (by kernel_rfl) (by kernel_rfl) (by kernel_rfl) (fun _ _ _ h => h) (Or.inl ⟨by rfl, ?_⟩) (by assumption) ?_
  rotate_left
  · intro w9 hSw
    (try dsimp only at hSw)
    go_simp
    (try with_reducible rfl)
  (try simp only [Act.put]); (try simp only [List.setIfInBounds_toArray]); (try simp only [List.set_cons_succ]); (try simp only [List.set_cons_zero])
  refine wpAnyH_ready (rs := [5]) (by kernel_rfl) (by simp) ?_
  refine AllReadyH.cons rfl (fun K hK => ?_) ?_
  rotate_left
  · exact AllReadyH.nil
  go_simp
  go_wp2_with (go_at_call 52; (with_reducible refine (HJ.calls _).mono ?_); rintro e y2 ⟨rfl, hbk⟩)
  refine hK.out _ _ ?_ (fun hHeld => ?_)
  · exact ⟨(A0.below hbk A0.lt).cell 0, (A0.below hbk A0.lt).cell 1, (A0.below hbk A0.lt).cell 2, (A0.below hbk A0.lt).cell 3, (A0.below hbk A0.lt).cell 4, lab0 (J0.below hbk J0.lt), lab1 (J0.below hbk J0.lt)⟩
  clear hK K
  (try simp only [Act.put]); (try simp only [List.setIfInBounds_toArray]); (try simp only [List.set_cons_succ]); (try simp only [List.set_cons_zero])
  replace A0 := A0.below hbk A0.lt
  replace J0 := J0.below hbk J0.lt
  replace hB := rstep hB hbk
  clear hbk
  refine wpAnyH_take (i := 6) (v := ?_) rfl (by kernel_rfl) (by kernel_rfl) (by kernel_rfl) (fun _ _ _ h => h) (Or.inl ⟨by rfl, ?_⟩) (by assumption) ?_
  rotate_left
  · intro w9 hSw
    (try dsimp only at hSw)
    go_simp
    (try with_reducible rfl)
  (try simp only [Act.put]); (try simp only [List.setIfInBounds_toArray]); (try simp only [List.set_cons_succ]); (try simp only [List.set_cons_zero])
  refine wpAnyH_take (i := 7) (v := ?_) rfl (by kernel_rfl) (by kernel_rfl) (by kernel_rfl) (fun _ _ _ h => h) (Or.inl ⟨by rfl, ?_⟩) (by assumption) ?_
  rotate_left
  · intro w9 hSw
    (try dsimp only at hSw)
    go_simp
    (try with_reducible rfl)
  (try simp only [Act.put]); (try simp only [List.setIfInBounds_toArray]); (try simp only [List.set_cons_succ]); (try simp only [List.set_cons_zero])
  refine wpAnyH_take (i := 8) (v := ?_) rfl (by kernel_rfl) (by kernel_rfl) (by kernel_rfl) (fun _ _ _ h => h) (Or.inl ⟨by rfl, ?_⟩) (by assumption) ?_
  rotate_left
  · intro w9 hSw
    (try dsimp only at hSw)
    go_simp
    (try with_reducible rfl)
  (try simp only [Act.put]); (try simp only [List.setIfInBounds_toArray]); (try simp only [List.set_cons_succ]); (try simp only [List.set_cons_zero])
  refine wpAnyH_take (i := 9) (v := ?_) rfl (by kernel_rfl) (by kernel_rfl) (by kernel_rfl) (fun _ _ _ h => h) (Or.inl ⟨by rfl, ?_⟩) (by assumption) ?_
  rotate_left
  · intro w9 hSw
    (try dsimp only at hSw)
    go_simp
    (try with_reducible rfl)
  (try simp only [Act.put]); (try simp only [List.setIfInBounds_toArray]); (try simp only [List.set_cons_succ]); (try simp only [List.set_cons_zero])
  refine wpAnyH_take (i := 10) (v := ?_) rfl (by kernel_rfl) (by kernel_rfl) (by kernel_rfl) (fun _ _ _ h => h) (Or.inl ⟨by rfl, ?_⟩) (by assumption) ?_
  rotate_left
  · intro w9 hSw
    (try dsimp only at hSw)
    go_simp
    (try with_reducible rfl)
  (try simp only [Act.put]); (try simp only [List.setIfInBounds_toArray]); (try simp only [List.set_cons_succ]); (try simp only [List.set_cons_zero])
  refine wpAnyH_take (i := 13) (v := ?_) rfl (by kernel_rfl) (by kernel_rfl) (by kernel_rfl) (fun _ _ _ h => h) (Or.inl ⟨by rfl, ?_⟩) (by assumption) ?_
  rotate_left
  · intro w9 hSw
    (try dsimp only at hSw)
    go_simp
    (try with_reducible rfl)
  (try simp only [Act.put]); (try simp only [List.setIfInBounds_toArray]); (try simp only [List.set_cons_succ]); (try simp only [List.set_cons_zero])
  refine wpAnyH_take (i := 14) (v := ?_) rfl (by kernel_rfl) (by kernel_rfl) (by kernel_rfl) (fun _ _ _ h => h) (Or.inl ⟨by rfl, ?_⟩) (by assumption) ?_
  rotate_left
  · intro w9 hSw
    (try dsimp only at hSw)
    go_simp
    (try with_reducible rfl)
  (try simp only [Act.put]); (try simp only [List.setIfInBounds_toArray]); (try simp only [List.set_cons_succ]); (try simp only [List.set_cons_zero])
  refine wpAnyH_take (i := 15) (v := ?_) rfl (by kernel_rfl) (by kernel_rfl) (by kernel_rfl) (fun _ _ _ h => h) (Or.inl ⟨by rfl, ?_⟩) (by assumption) ?_
  rotate_left
  · intro w9 hSw
    (try dsimp only at hSw)
    go_simp
    (try with_reducible rfl)
  (try simp only [Act.put]); (try simp only [List.setIfInBounds_toArray]); (try simp only [List.set_cons_succ]); (try simp only [List.set_cons_zero])
  refine wpAnyH_ready (rs := [11]) (by kernel_rfl) (by simp) ?_
  refine AllReadyH.cons rfl (fun K hK => ?_) ?_
  rotate_left
  · exact AllReadyH.nil
  go_simp
  go_wp2_with (go_at_call 68; (with_reducible refine (HC.out _ hB).mono ?_); rintro e y3 ⟨⟨q1, q2, rfl⟩, hbk⟩)
  refine hK.out _ _ ?_ (fun hHeld => ?_)
  · exact ⟨(A0.below hbk A0.lt).cell 0, (A0.below hbk A0.lt).cell 1, (A0.below hbk A0.lt).cell 2, (A0.below hbk A0.lt).cell 3, (A0.below hbk A0.lt).cell 4, lab0 (J0.below hbk J0.lt), lab1 (J0.below hbk J0.lt)⟩
  clear hK K
  (try simp only [Act.put]); (try simp only [List.setIfInBounds_toArray]); (try simp only [List.set_cons_succ]); (try simp only [List.set_cons_zero])
  replace A0 := A0.below hbk A0.lt
  replace J0 := J0.below hbk J0.lt
  replace hB := rstep hB hbk
  clear hbk
  refine wpAnyH_take (i := 12) (v := ?_) rfl (by kernel_rfl) (by kernel_rfl) (by kernel_rfl) (fun _ _ _ h => h) (Or.inl ⟨by rfl, ?_⟩) (by assumption) ?_
  rotate_left
  · intro w9 hSw
    (try dsimp only at hSw)
    go_simp
    (try with_reducible rfl)
  (try simp only [Act.put]); (try simp only [List.setIfInBounds_toArray]); (try simp only [List.set_cons_succ]); (try simp only [List.set_cons_zero])
  refine wpAnyH_take (i := 16) (v := ?_) rfl (by kernel_rfl) (by kernel_rfl) (by kernel_rfl) (fun _ _ _ h => h) (Or.inl ⟨by rfl, ?_⟩) (by assumption) ?_
  rotate_left
  · intro w9 hSw
    (try dsimp only at hSw)
    go_simp
    (try with_reducible rfl)
  (try simp only [Act.put]); (try simp only [List.setIfInBounds_toArray]); (try simp only [List.set_cons_succ]); (try simp only [List.set_cons_zero])
  refine wpAnyH_take (i := 17) (v := ?_) rfl (by kernel_rfl) (by kernel_rfl) (by kernel_rfl) (fun _ _ _ h => h) (Or.inl ⟨by rfl, ?_⟩) (by assumption) ?_
  rotate_left
  · intro w9 hSw
    (try dsimp only at hSw)
    go_simp
    (try with_reducible rfl)
  (try simp only [Act.put]); (try simp only [List.setIfInBounds_toArray]); (try simp only [List.set_cons_succ]); (try simp only [List.set_cons_zero])
  refine wpAnyH_done (by kernel_rfl) ?_ _
  have Y1 := Y0.below hB Y0.lt
  have Z1 := Z0.below hB Z0.lt
  have B1 := rstep B0 hB
  have T1 := T0.bel hB
  clear hHeld hB Y0 Z0 B0 T0 HI HJ HC hd hdn
  clear A0 J0 T1
  go_wp2_with (first
    | (refine p_storeR rfl _ _ rfl (w.heap.size + 2) rfl zeroR (.slice none 0 0) rfl rfl zeroR (.slice none 0 0) Y1 ?_)
    | (refine p_storeR rfl _ _ rfl (w.heap.size + 3) rfl zeroR (.slice none 0 0) rfl rfl zeroR (.slice none 0 0) (Z1.setRow_other _ _ (by omega)) ?_))
  exact bodyPost_ret (results_rec3 Try.results26 _ _ (w.heap.size + 2) (w.heap.size + 3) _ _ _ _ _ rfl rfl rfl ((Y1.setRow _).setRow_other _ _ (by omega)) ((Z1.setRow_other _ _ (by omega)).setRow _)) rfl ⟨rfl, bel_setRow (bel_setRow B1 (by omega) _) (by omega) _⟩
set_option maxHeartbeats 8000000 in
theorem refhal_kind {r : Rc} {u : Value} {n : Int} {b : Nat} {w : World} (hT : Told w u r.items) (hW : r.Wf) (hl : r.items.length ≤ 1000000) (hb : b < 18446744073709551616) (hr : isR r = true) (hq : isB n b = true) (hs : (covL r.items n b).length = r.items.length) (hk : r.kind ≠ 1 ∧ r.kind ≠ 3) :
    Calls Try.prog 26 #[.agg (recC r u), .agg (labc n b)] w fun e w' => e = .returned (.tuple #[.agg (recC zeroR (.slice none 0 0)), .agg (recC zeroR (.slice none 0 0)), .int .i64 13]) ∧ Below w.heap.size w w' := by
  obtain ⟨a, c, rfl⟩ := told_shape hT
  obtain ⟨w1, h1⟩ : ∃ w1, w1 = w.alloc (.cells (recC r (.slice a r.items.length c)) 27) := ⟨_, rfl⟩
  obtain ⟨w2, h2⟩ : ∃ w2, w2 = w1.alloc (.cells (labc n b) 25) := ⟨_, rfl⟩
  obtain ⟨w3, h3⟩ : ∃ w3, w3 = w2.alloc (.cells (recC zeroR (.slice none 0 0)) 27) := ⟨_, rfl⟩
  obtain ⟨V, h4⟩ : ∃ w4, w4 = w3.alloc (.cells (recC zeroR (.slice none 0 0)) 27) := ⟨_, rfl⟩
  have s1 : w1.heap.size = w.heap.size + 1 := by rw [h1]; simp
  have s2 : w2.heap.size = w.heap.size + 2 := by rw [h2]; simp [s1]
  have s3 : w3.heap.size = w.heap.size + 3 := by rw [h3]; simp [s2]
  have b1 : Below w.heap.size w w1 := h1 ▸ (Below.refl _ _).alloc (Nat.le_refl _) _
  have b2 : Below w.heap.size w w2 := h2 ▸ b1.alloc b1.size _
  have b3 : Below w.heap.size w w3 := h3 ▸ b2.alloc b2.size _
  have B0 : Below w.heap.size w V := h4 ▸ b3.alloc b3.size _
  have A0 : Blk V w.heap.size (recC r (.slice a r.items.length c)) 27 := by
    rw [h4, h3, h2]; exact (((h1 ▸ Blk.new w _ _ : Blk w1 w.heap.size (recC r (.slice a r.items.length c)) 27).alloc _).alloc _).alloc _
  have J0 : Blk V (w.heap.size + 1) (labc n b) 25 := by
    rw [h4, h3]; exact ((s1 ▸ (h2 ▸ Blk.new w1 _ _ : Blk w2 w1.heap.size (labc n b) 25) : Blk w2 (w.heap.size + 1) (labc n b) 25).alloc _).alloc _
  have Y0 : Blk V (w.heap.size + 2) (recC zeroR (.slice none 0 0)) 27 := by
    rw [h4]; exact (s2 ▸ (h3 ▸ Blk.new w2 _ _ : Blk w3 w2.heap.size (recC zeroR (.slice none 0 0)) 27) : Blk w3 (w.heap.size + 2) (recC zeroR (.slice none 0 0)) 27).alloc _
  have Z0 : Blk V (w.heap.size + 3) (recC zeroR (.slice none 0 0)) 27 := s3 ▸ (h4 ▸ Blk.new w3 _ _ : Blk V w3.heap.size (recC zeroR (.slice none 0 0)) 27)
  have hV : (((w.alloc (.cells (recC r (.slice a r.items.length c)) 27)).alloc (.cells (labc n b) 25)).alloc (.cells (recC zeroR (.slice none 0 0)) 27)).alloc (.cells (recC zeroR (.slice none 0 0)) 27) = V := by rw [h4, h3, h2, h1]
  have T0 := hT.bel B0
  clear hT h1 h2 h3 h4 s1 s2 s3 b1 b2 b3
  have HI : Hid (∀ W, Below V.heap.size V W → Calls Try.prog 16 #[.agg #[.int .i64 r.kind, .slice a r.items.length c, .int .i64 r.nl, .int .u64 (r.nb : Int), .int .u64 (r.mark : Int)]] W fun e w' => e = .returned (.bool true) ∧ Below W.heap.size W w') := by
    intro W hb1
    have h := refis_any (T0.bel hb1) hW
    rw [hr] at h
    exact h
  have HJ : Gives Try.prog 52 #[.agg #[.int .i64 n, .int .u64 (b : Int)]] (.bool true) := fun w => hq ▸ refIs_any n b w hb
  obtain ⟨m, hm⟩ : ∃ m, m = (covL r.items n b).length := ⟨_, rfl⟩
  have HC : Hid (∀ W, Below V.heap.size V W → Calls Try.prog 68 #[.agg #[.int .i64 r.kind, .slice a r.items.length c, .int .i64 r.nl, .int .u64 (r.nb : Int), .int .u64 (r.mark : Int)], .agg #[.int .i64 n, .int .u64 (b : Int)]] W fun e w' => (∃ q1 q2, e = .returned (.slice q1 m q2)) ∧ Below W.heap.size W w') := by
    intro W hb1
    refine (refcov_any (T0.bel hb1) hW hl n b hb).mono ?_
    rintro e w' ⟨v, he, hT, hbb⟩
    obtain ⟨q1, q2, rfl⟩ := told_shape hT
    exact ⟨⟨q1, q2, by rw [hm]; exact he⟩, hbb⟩
  rw [← hm] at hs
  have hd : ((m : Int) != (r.items.length : Int)) = false := by simp; omega
  have hdn : (m != r.items.length) = false := by simp; omega
  have HKW := Lib.hid hW
  have HKB := Lib.hid hb
  have HKL := Lib.hid hl
  clear hr hq hm hs hW hb hl
  go_enter Try.func26, Try.ntmps26
  go_upto_region 1 with (fail)
  rw [zero_rec]
  first
    | rw [hV]
    | (simp only [recC] at hV; simp only [recC]; rw [hV])
  clear hV
  refine wp_region_held_drew (S := (fun w9 => w9.cell? ⟨w.heap.size, 0, none⟩ = some (.int .i64 r.kind) ∧ w9.cell? ⟨w.heap.size, 1, none⟩ = some (.slice a r.items.length c) ∧ w9.cell? ⟨w.heap.size, 2, none⟩ = some (.int .i64 r.nl) ∧ w9.cell? ⟨w.heap.size, 3, none⟩ = some (.int .u64 (r.nb : Int)) ∧ w9.cell? ⟨w.heap.size, 4, none⟩ = some (.int .u64 (r.mark : Int)) ∧ w9.cell? ⟨w.heap.size + 1, 0, none⟩ = some (.int .i64 n) ∧ w9.cell? ⟨w.heap.size + 1, 1, none⟩ = some (.int .u64 (b : Int)))) (by kernel_rfl) ?_ (fun hHeld => ?_)
  · exact ⟨(A0.below (rdrew _) A0.lt).cell 0, (A0.below (rdrew _) A0.lt).cell 1, (A0.below (rdrew _) A0.lt).cell 2, (A0.below (rdrew _) A0.lt).cell 3, (A0.below (rdrew _) A0.lt).cell 4, lab0 (J0.below (rdrew _) J0.lt), lab1 (J0.below (rdrew _) J0.lt)⟩
  have hB := rdrew V
  replace A0 := A0.below hB A0.lt
  replace J0 := J0.below hB J0.lt
  generalize hy0 : V.drew = y0 at *
  clear hy0
  refine wpAnyH_take (i := 0) (v := ?_) rfl (by kernel_rfl) (by kernel_rfl) (by kernel_rfl) (fun _ _ _ h => h) (Or.inl ⟨by rfl, ?_⟩) (by assumption) ?_
  rotate_left
  · intro w9 hSw
    (try dsimp only at hSw)
    go_simp
    (try with_reducible rfl)
  (try simp only [Act.put]); (try simp only [List.setIfInBounds_toArray]); (try simp only [List.set_cons_succ]); (try simp only [List.set_cons_zero])
  refine wpAnyH_ready (rs := [1]) (by kernel_rfl) (by simp) ?_
  refine AllReadyH.cons rfl (fun K hK => ?_) ?_
  rotate_left
  · exact AllReadyH.nil
  go_simp
  go_wp2_with (go_at_call 16; (with_reducible refine (HI.out _ hB).mono ?_); rintro e y1 ⟨rfl, hbk⟩)
  refine hK.out _ _ ?_ (fun hHeld => ?_)
  · exact ⟨(A0.below hbk A0.lt).cell 0, (A0.below hbk A0.lt).cell 1, (A0.below hbk A0.lt).cell 2, (A0.below hbk A0.lt).cell 3, (A0.below hbk A0.lt).cell 4, lab0 (J0.below hbk J0.lt), lab1 (J0.below hbk J0.lt)⟩
  clear hK K
  (try simp only [Act.put]); (try simp only [List.setIfInBounds_toArray]); (try simp only [List.set_cons_succ]); (try simp only [List.set_cons_zero])
  replace A0 := A0.below hbk A0.lt
  replace J0 := J0.below hbk J0.lt
  replace hB := rstep hB hbk
  clear hbk
  refine wpAnyH_take (i := 2) (v := ?_) rfl (by kernel_rfl) (by kernel_rfl) (by kernel_rfl) (fun _ _ _ h => h) (Or.inl ⟨by rfl, ?_⟩) (by assumption) ?_
  rotate_left
  · intro w9 hSw
    (try dsimp only at hSw)
    go_simp
    (try with_reducible rfl)
  (try simp only [Act.put]); (try simp only [List.setIfInBounds_toArray]); (try simp only [List.set_cons_succ]); (try simp only [List.set_cons_zero])
  refine wpAnyH_take (i := 3) (v := ?_) rfl (by kernel_rfl) (by kernel_rfl) (by kernel_rfl) (fun _ _ _ h => h) (Or.inl ⟨by rfl, ?_⟩) (by assumption) ?_
  rotate_left
  · intro w9 hSw
    (try dsimp only at hSw)
    go_simp
    (try with_reducible rfl)
  (try simp only [Act.put]); (try simp only [List.setIfInBounds_toArray]); (try simp only [List.set_cons_succ]); (try simp only [List.set_cons_zero])
  refine wpAnyH_take (i := 4) (v := ?_) rfl (by kernel_rfl) (by kernel_rfl) (by kernel_rfl) (fun _ _ _ h => h) (Or.inl ⟨by rfl, ?_⟩) (by assumption) ?_
  rotate_left
  · intro w9 hSw
    (try dsimp only at hSw)
    go_simp
    (try with_reducible rfl)
  (try simp only [Act.put]); (try simp only [List.setIfInBounds_toArray]); (try simp only [List.set_cons_succ]); (try simp only [List.set_cons_zero])
  refine wpAnyH_ready (rs := [5]) (by kernel_rfl) (by simp) ?_
  refine AllReadyH.cons rfl (fun K hK => ?_) ?_
  rotate_left
  · exact AllReadyH.nil
  go_simp
  go_wp2_with (go_at_call 52; (with_reducible refine (HJ.calls _).mono ?_); rintro e y2 ⟨rfl, hbk⟩)
  refine hK.out _ _ ?_ (fun hHeld => ?_)
  · exact ⟨(A0.below hbk A0.lt).cell 0, (A0.below hbk A0.lt).cell 1, (A0.below hbk A0.lt).cell 2, (A0.below hbk A0.lt).cell 3, (A0.below hbk A0.lt).cell 4, lab0 (J0.below hbk J0.lt), lab1 (J0.below hbk J0.lt)⟩
  clear hK K
  (try simp only [Act.put]); (try simp only [List.setIfInBounds_toArray]); (try simp only [List.set_cons_succ]); (try simp only [List.set_cons_zero])
  replace A0 := A0.below hbk A0.lt
  replace J0 := J0.below hbk J0.lt
  replace hB := rstep hB hbk
  clear hbk
  refine wpAnyH_take (i := 6) (v := ?_) rfl (by kernel_rfl) (by kernel_rfl) (by kernel_rfl) (fun _ _ _ h => h) (Or.inl ⟨by rfl, ?_⟩) (by assumption) ?_
  rotate_left
  · intro w9 hSw
    (try dsimp only at hSw)
    go_simp
    (try with_reducible rfl)
  (try simp only [Act.put]); (try simp only [List.setIfInBounds_toArray]); (try simp only [List.set_cons_succ]); (try simp only [List.set_cons_zero])
  refine wpAnyH_take (i := 7) (v := ?_) rfl (by kernel_rfl) (by kernel_rfl) (by kernel_rfl) (fun _ _ _ h => h) (Or.inl ⟨by rfl, ?_⟩) (by assumption) ?_
  rotate_left
  · intro w9 hSw
    (try dsimp only at hSw)
    go_simp
    (try with_reducible rfl)
  (try simp only [Act.put]); (try simp only [List.setIfInBounds_toArray]); (try simp only [List.set_cons_succ]); (try simp only [List.set_cons_zero])
  refine wpAnyH_take (i := 8) (v := ?_) rfl (by kernel_rfl) (by kernel_rfl) (by kernel_rfl) (fun _ _ _ h => h) (Or.inl ⟨by rfl, ?_⟩) (by assumption) ?_
  rotate_left
  · intro w9 hSw
    (try dsimp only at hSw)
    go_simp
    (try with_reducible rfl)
  (try simp only [Act.put]); (try simp only [List.setIfInBounds_toArray]); (try simp only [List.set_cons_succ]); (try simp only [List.set_cons_zero])
  refine wpAnyH_take (i := 9) (v := ?_) rfl (by kernel_rfl) (by kernel_rfl) (by kernel_rfl) (fun _ _ _ h => h) (Or.inl ⟨by rfl, ?_⟩) (by assumption) ?_
  rotate_left
  · intro w9 hSw
    (try dsimp only at hSw)
    go_simp
    (try with_reducible rfl)
  (try simp only [Act.put]); (try simp only [List.setIfInBounds_toArray]); (try simp only [List.set_cons_succ]); (try simp only [List.set_cons_zero])
  refine wpAnyH_take (i := 10) (v := ?_) rfl (by kernel_rfl) (by kernel_rfl) (by kernel_rfl) (fun _ _ _ h => h) (Or.inl ⟨by rfl, ?_⟩) (by assumption) ?_
  rotate_left
  · intro w9 hSw
    (try dsimp only at hSw)
    go_simp
    (try with_reducible rfl)
  (try simp only [Act.put]); (try simp only [List.setIfInBounds_toArray]); (try simp only [List.set_cons_succ]); (try simp only [List.set_cons_zero])
  refine wpAnyH_take (i := 13) (v := ?_) rfl (by kernel_rfl) (by kernel_rfl) (by kernel_rfl) (fun _ _ _ h => h) (Or.inl ⟨by rfl, ?_⟩) (by assumption) ?_
  rotate_left
  · intro w9 hSw
    (try dsimp only at hSw)
    go_simp
    (try with_reducible rfl)
  (try simp only [Act.put]); (try simp only [List.setIfInBounds_toArray]); (try simp only [List.set_cons_succ]); (try simp only [List.set_cons_zero])
  refine wpAnyH_take (i := 14) (v := ?_) rfl (by kernel_rfl) (by kernel_rfl) (by kernel_rfl) (fun _ _ _ h => h) (Or.inl ⟨by rfl, ?_⟩) (by assumption) ?_
  rotate_left
  · intro w9 hSw
    (try dsimp only at hSw)
    go_simp
    (try with_reducible rfl)
  (try simp only [Act.put]); (try simp only [List.setIfInBounds_toArray]); (try simp only [List.set_cons_succ]); (try simp only [List.set_cons_zero])
  refine wpAnyH_take (i := 15) (v := ?_) rfl (by kernel_rfl) (by kernel_rfl) (by kernel_rfl) (fun _ _ _ h => h) (Or.inl ⟨by rfl, ?_⟩) (by assumption) ?_
  rotate_left
  · intro w9 hSw
    (try dsimp only at hSw)
    go_simp
    (try with_reducible rfl)
  (try simp only [Act.put]); (try simp only [List.setIfInBounds_toArray]); (try simp only [List.set_cons_succ]); (try simp only [List.set_cons_zero])
  refine wpAnyH_ready (rs := [11]) (by kernel_rfl) (by simp) ?_
  refine AllReadyH.cons rfl (fun K hK => ?_) ?_
  rotate_left
  · exact AllReadyH.nil
  go_simp
  go_wp2_with (go_at_call 68; (with_reducible refine (HC.out _ hB).mono ?_); rintro e y3 ⟨⟨q1, q2, rfl⟩, hbk⟩)
  refine hK.out _ _ ?_ (fun hHeld => ?_)
  · exact ⟨(A0.below hbk A0.lt).cell 0, (A0.below hbk A0.lt).cell 1, (A0.below hbk A0.lt).cell 2, (A0.below hbk A0.lt).cell 3, (A0.below hbk A0.lt).cell 4, lab0 (J0.below hbk J0.lt), lab1 (J0.below hbk J0.lt)⟩
  clear hK K
  (try simp only [Act.put]); (try simp only [List.setIfInBounds_toArray]); (try simp only [List.set_cons_succ]); (try simp only [List.set_cons_zero])
  replace A0 := A0.below hbk A0.lt
  replace J0 := J0.below hbk J0.lt
  replace hB := rstep hB hbk
  clear hbk
  refine wpAnyH_take (i := 12) (v := ?_) rfl (by kernel_rfl) (by kernel_rfl) (by kernel_rfl) (fun _ _ _ h => h) (Or.inl ⟨by rfl, ?_⟩) (by assumption) ?_
  rotate_left
  · intro w9 hSw
    (try dsimp only at hSw)
    go_simp
    (try with_reducible rfl)
  (try simp only [Act.put]); (try simp only [List.setIfInBounds_toArray]); (try simp only [List.set_cons_succ]); (try simp only [List.set_cons_zero])
  refine wpAnyH_take (i := 16) (v := ?_) rfl (by kernel_rfl) (by kernel_rfl) (by kernel_rfl) (fun _ _ _ h => h) (Or.inl ⟨by rfl, ?_⟩) (by assumption) ?_
  rotate_left
  · intro w9 hSw
    (try dsimp only at hSw)
    go_simp
    (try with_reducible rfl)
  (try simp only [Act.put]); (try simp only [List.setIfInBounds_toArray]); (try simp only [List.set_cons_succ]); (try simp only [List.set_cons_zero])
  refine wpAnyH_take (i := 17) (v := ?_) rfl (by kernel_rfl) (by kernel_rfl) (by kernel_rfl) (fun _ _ _ h => h) (Or.inl ⟨by rfl, ?_⟩) (by assumption) ?_
  rotate_left
  · intro w9 hSw
    (try dsimp only at hSw)
    go_simp
    (try with_reducible rfl)
  (try simp only [Act.put]); (try simp only [List.setIfInBounds_toArray]); (try simp only [List.set_cons_succ]); (try simp only [List.set_cons_zero])
  refine wpAnyH_done (by kernel_rfl) ?_ _
  have Y1 := Y0.below hB Y0.lt
  have Z1 := Z0.below hB Z0.lt
  have B1 := rstep B0 hB
  have T1 := T0.bel hB
  clear hHeld hB Y0 Z0 B0 T0 HI HJ HC hd hdn
  have k0 : y3.cell? ⟨w.heap.size, 0, none⟩ = some (.int .i64 r.kind) := A0.cell 0
  have k1 : (r.kind != 1) = true := by simp; omega
  have k3 : (r.kind != 3) = true := by simp; omega
  clear hk A0 J0 T1
  go_upto_region 4 with (fail)
  go_wp2_with (first
    | (refine p_storeR rfl _ _ rfl (w.heap.size + 2) rfl zeroR (.slice none 0 0) rfl rfl zeroR (.slice none 0 0) Y1 ?_)
    | (refine p_storeR rfl _ _ rfl (w.heap.size + 3) rfl zeroR (.slice none 0 0) rfl rfl zeroR (.slice none 0 0) (Z1.setRow_other _ _ (by omega)) ?_))
  exact bodyPost_ret (results_rec3 Try.results26 _ _ (w.heap.size + 2) (w.heap.size + 3) _ _ _ _ _ rfl rfl rfl ((Y1.setRow _).setRow_other _ _ (by omega)) ((Z1.setRow_other _ _ (by omega)).setRow _)) rfl ⟨rfl, bel_setRow (bel_setRow B1 (by omega) _) (by omega) _⟩
set_option maxHeartbeats 8000000 in
theorem refhal_full {r : Rc} {u : Value} {n : Int} {b : Nat} {w : World} (hT : Told w u r.items) (hW : r.Wf) (hl : r.items.length ≤ 1000000) (hb : b < 18446744073709551616) (hr : isR r = true) (hq : isB n b = true) (hs : (covL r.items n b).length = r.items.length) (hk : r.kind = 1 ∨ r.kind = 3) (hf : n = 64) :
    Calls Try.prog 26 #[.agg (recC r u), .agg (labc n b)] w fun e w' => e = .returned (.tuple #[.agg (recC zeroR (.slice none 0 0)), .agg (recC zeroR (.slice none 0 0)), .int .i64 5]) ∧ Below w.heap.size w w' := by
  obtain ⟨a, c, rfl⟩ := told_shape hT
  obtain ⟨w1, h1⟩ : ∃ w1, w1 = w.alloc (.cells (recC r (.slice a r.items.length c)) 27) := ⟨_, rfl⟩
  obtain ⟨w2, h2⟩ : ∃ w2, w2 = w1.alloc (.cells (labc n b) 25) := ⟨_, rfl⟩
  obtain ⟨w3, h3⟩ : ∃ w3, w3 = w2.alloc (.cells (recC zeroR (.slice none 0 0)) 27) := ⟨_, rfl⟩
  obtain ⟨V, h4⟩ : ∃ w4, w4 = w3.alloc (.cells (recC zeroR (.slice none 0 0)) 27) := ⟨_, rfl⟩
  have s1 : w1.heap.size = w.heap.size + 1 := by rw [h1]; simp
  have s2 : w2.heap.size = w.heap.size + 2 := by rw [h2]; simp [s1]
  have s3 : w3.heap.size = w.heap.size + 3 := by rw [h3]; simp [s2]
  have b1 : Below w.heap.size w w1 := h1 ▸ (Below.refl _ _).alloc (Nat.le_refl _) _
  have b2 : Below w.heap.size w w2 := h2 ▸ b1.alloc b1.size _
  have b3 : Below w.heap.size w w3 := h3 ▸ b2.alloc b2.size _
  have B0 : Below w.heap.size w V := h4 ▸ b3.alloc b3.size _
  have A0 : Blk V w.heap.size (recC r (.slice a r.items.length c)) 27 := by
    rw [h4, h3, h2]; exact (((h1 ▸ Blk.new w _ _ : Blk w1 w.heap.size (recC r (.slice a r.items.length c)) 27).alloc _).alloc _).alloc _
  have J0 : Blk V (w.heap.size + 1) (labc n b) 25 := by
    rw [h4, h3]; exact ((s1 ▸ (h2 ▸ Blk.new w1 _ _ : Blk w2 w1.heap.size (labc n b) 25) : Blk w2 (w.heap.size + 1) (labc n b) 25).alloc _).alloc _
  have Y0 : Blk V (w.heap.size + 2) (recC zeroR (.slice none 0 0)) 27 := by
    rw [h4]; exact (s2 ▸ (h3 ▸ Blk.new w2 _ _ : Blk w3 w2.heap.size (recC zeroR (.slice none 0 0)) 27) : Blk w3 (w.heap.size + 2) (recC zeroR (.slice none 0 0)) 27).alloc _
  have Z0 : Blk V (w.heap.size + 3) (recC zeroR (.slice none 0 0)) 27 := s3 ▸ (h4 ▸ Blk.new w3 _ _ : Blk V w3.heap.size (recC zeroR (.slice none 0 0)) 27)
  have hV : (((w.alloc (.cells (recC r (.slice a r.items.length c)) 27)).alloc (.cells (labc n b) 25)).alloc (.cells (recC zeroR (.slice none 0 0)) 27)).alloc (.cells (recC zeroR (.slice none 0 0)) 27) = V := by rw [h4, h3, h2, h1]
  have T0 := hT.bel B0
  clear hT h1 h2 h3 h4 s1 s2 s3 b1 b2 b3
  have HI : Hid (∀ W, Below V.heap.size V W → Calls Try.prog 16 #[.agg #[.int .i64 r.kind, .slice a r.items.length c, .int .i64 r.nl, .int .u64 (r.nb : Int), .int .u64 (r.mark : Int)]] W fun e w' => e = .returned (.bool true) ∧ Below W.heap.size W w') := by
    intro W hb1
    have h := refis_any (T0.bel hb1) hW
    rw [hr] at h
    exact h
  have HJ : Gives Try.prog 52 #[.agg #[.int .i64 n, .int .u64 (b : Int)]] (.bool true) := fun w => hq ▸ refIs_any n b w hb
  obtain ⟨m, hm⟩ : ∃ m, m = (covL r.items n b).length := ⟨_, rfl⟩
  have HC : Hid (∀ W, Below V.heap.size V W → Calls Try.prog 68 #[.agg #[.int .i64 r.kind, .slice a r.items.length c, .int .i64 r.nl, .int .u64 (r.nb : Int), .int .u64 (r.mark : Int)], .agg #[.int .i64 n, .int .u64 (b : Int)]] W fun e w' => (∃ q1 q2, e = .returned (.slice q1 m q2)) ∧ Below W.heap.size W w') := by
    intro W hb1
    refine (refcov_any (T0.bel hb1) hW hl n b hb).mono ?_
    rintro e w' ⟨v, he, hT, hbb⟩
    obtain ⟨q1, q2, rfl⟩ := told_shape hT
    exact ⟨⟨q1, q2, by rw [hm]; exact he⟩, hbb⟩
  rw [← hm] at hs
  have hd : ((m : Int) != (r.items.length : Int)) = false := by simp; omega
  have hdn : (m != r.items.length) = false := by simp; omega
  have HKW := Lib.hid hW
  have HKB := Lib.hid hb
  have HKL := Lib.hid hl
  have HF := Lib.hid hf
  clear hf
  clear hr hq hm hs hW hb hl
  go_enter Try.func26, Try.ntmps26
  go_upto_region 1 with (fail)
  rw [zero_rec]
  first
    | rw [hV]
    | (simp only [recC] at hV; simp only [recC]; rw [hV])
  clear hV
  refine wp_region_held_drew (S := (fun w9 => w9.cell? ⟨w.heap.size, 0, none⟩ = some (.int .i64 r.kind) ∧ w9.cell? ⟨w.heap.size, 1, none⟩ = some (.slice a r.items.length c) ∧ w9.cell? ⟨w.heap.size, 2, none⟩ = some (.int .i64 r.nl) ∧ w9.cell? ⟨w.heap.size, 3, none⟩ = some (.int .u64 (r.nb : Int)) ∧ w9.cell? ⟨w.heap.size, 4, none⟩ = some (.int .u64 (r.mark : Int)) ∧ w9.cell? ⟨w.heap.size + 1, 0, none⟩ = some (.int .i64 n) ∧ w9.cell? ⟨w.heap.size + 1, 1, none⟩ = some (.int .u64 (b : Int)))) (by kernel_rfl) ?_ (fun hHeld => ?_)
  · exact ⟨(A0.below (rdrew _) A0.lt).cell 0, (A0.below (rdrew _) A0.lt).cell 1, (A0.below (rdrew _) A0.lt).cell 2, (A0.below (rdrew _) A0.lt).cell 3, (A0.below (rdrew _) A0.lt).cell 4, lab0 (J0.below (rdrew _) J0.lt), lab1 (J0.below (rdrew _) J0.lt)⟩
  have hB := rdrew V
  replace A0 := A0.below hB A0.lt
  replace J0 := J0.below hB J0.lt
  generalize hy0 : V.drew = y0 at *
  clear hy0
  refine wpAnyH_take (i := 0) (v := ?_) rfl (by kernel_rfl) (by kernel_rfl) (by kernel_rfl) (fun _ _ _ h => h) (Or.inl ⟨by rfl, ?_⟩) (by assumption) ?_
  rotate_left
  · intro w9 hSw
    (try dsimp only at hSw)
    go_simp
    (try with_reducible rfl)
  (try simp only [Act.put]); (try simp only [List.setIfInBounds_toArray]); (try simp only [List.set_cons_succ]); (try simp only [List.set_cons_zero])
  refine wpAnyH_ready (rs := [1]) (by kernel_rfl) (by simp) ?_
  refine AllReadyH.cons rfl (fun K hK => ?_) ?_
  rotate_left
  · exact AllReadyH.nil
  go_simp
  go_wp2_with (go_at_call 16; (with_reducible refine (HI.out _ hB).mono ?_); rintro e y1 ⟨rfl, hbk⟩)
  refine hK.out _ _ ?_ (fun hHeld => ?_)
  · exact ⟨(A0.below hbk A0.lt).cell 0, (A0.below hbk A0.lt).cell 1, (A0.below hbk A0.lt).cell 2, (A0.below hbk A0.lt).cell 3, (A0.below hbk A0.lt).cell 4, lab0 (J0.below hbk J0.lt), lab1 (J0.below hbk J0.lt)⟩
  clear hK K
  (try simp only [Act.put]); (try simp only [List.setIfInBounds_toArray]); (try simp only [List.set_cons_succ]); (try simp only [List.set_cons_zero])
  replace A0 := A0.below hbk A0.lt
  replace J0 := J0.below hbk J0.lt
  replace hB := rstep hB hbk
  clear hbk
  refine wpAnyH_take (i := 2) (v := ?_) rfl (by kernel_rfl) (by kernel_rfl) (by kernel_rfl) (fun _ _ _ h => h) (Or.inl ⟨by rfl, ?_⟩) (by assumption) ?_
  rotate_left
  · intro w9 hSw
    (try dsimp only at hSw)
    go_simp
    (try with_reducible rfl)
  (try simp only [Act.put]); (try simp only [List.setIfInBounds_toArray]); (try simp only [List.set_cons_succ]); (try simp only [List.set_cons_zero])
  refine wpAnyH_take (i := 3) (v := ?_) rfl (by kernel_rfl) (by kernel_rfl) (by kernel_rfl) (fun _ _ _ h => h) (Or.inl ⟨by rfl, ?_⟩) (by assumption) ?_
  rotate_left
  · intro w9 hSw
    (try dsimp only at hSw)
    go_simp
    (try with_reducible rfl)
  (try simp only [Act.put]); (try simp only [List.setIfInBounds_toArray]); (try simp only [List.set_cons_succ]); (try simp only [List.set_cons_zero])
  refine wpAnyH_take (i := 4) (v := ?_) rfl (by kernel_rfl) (by kernel_rfl) (by kernel_rfl) (fun _ _ _ h => h) (Or.inl ⟨by rfl, ?_⟩) (by assumption) ?_
  rotate_left
  · intro w9 hSw
    (try dsimp only at hSw)
    go_simp
    (try with_reducible rfl)
  (try simp only [Act.put]); (try simp only [List.setIfInBounds_toArray]); (try simp only [List.set_cons_succ]); (try simp only [List.set_cons_zero])
  refine wpAnyH_ready (rs := [5]) (by kernel_rfl) (by simp) ?_
  refine AllReadyH.cons rfl (fun K hK => ?_) ?_
  rotate_left
  · exact AllReadyH.nil
  go_simp
  go_wp2_with (go_at_call 52; (with_reducible refine (HJ.calls _).mono ?_); rintro e y2 ⟨rfl, hbk⟩)
  refine hK.out _ _ ?_ (fun hHeld => ?_)
  · exact ⟨(A0.below hbk A0.lt).cell 0, (A0.below hbk A0.lt).cell 1, (A0.below hbk A0.lt).cell 2, (A0.below hbk A0.lt).cell 3, (A0.below hbk A0.lt).cell 4, lab0 (J0.below hbk J0.lt), lab1 (J0.below hbk J0.lt)⟩
  clear hK K
  (try simp only [Act.put]); (try simp only [List.setIfInBounds_toArray]); (try simp only [List.set_cons_succ]); (try simp only [List.set_cons_zero])
  replace A0 := A0.below hbk A0.lt
  replace J0 := J0.below hbk J0.lt
  replace hB := rstep hB hbk
  clear hbk
  refine wpAnyH_take (i := 6) (v := ?_) rfl (by kernel_rfl) (by kernel_rfl) (by kernel_rfl) (fun _ _ _ h => h) (Or.inl ⟨by rfl, ?_⟩) (by assumption) ?_
  rotate_left
  · intro w9 hSw
    (try dsimp only at hSw)
    go_simp
    (try with_reducible rfl)
  (try simp only [Act.put]); (try simp only [List.setIfInBounds_toArray]); (try simp only [List.set_cons_succ]); (try simp only [List.set_cons_zero])
  refine wpAnyH_take (i := 7) (v := ?_) rfl (by kernel_rfl) (by kernel_rfl) (by kernel_rfl) (fun _ _ _ h => h) (Or.inl ⟨by rfl, ?_⟩) (by assumption) ?_
  rotate_left
  · intro w9 hSw
    (try dsimp only at hSw)
    go_simp
    (try with_reducible rfl)
  (try simp only [Act.put]); (try simp only [List.setIfInBounds_toArray]); (try simp only [List.set_cons_succ]); (try simp only [List.set_cons_zero])
  refine wpAnyH_take (i := 8) (v := ?_) rfl (by kernel_rfl) (by kernel_rfl) (by kernel_rfl) (fun _ _ _ h => h) (Or.inl ⟨by rfl, ?_⟩) (by assumption) ?_
  rotate_left
  · intro w9 hSw
    (try dsimp only at hSw)
    go_simp
    (try with_reducible rfl)
  (try simp only [Act.put]); (try simp only [List.setIfInBounds_toArray]); (try simp only [List.set_cons_succ]); (try simp only [List.set_cons_zero])
  refine wpAnyH_take (i := 9) (v := ?_) rfl (by kernel_rfl) (by kernel_rfl) (by kernel_rfl) (fun _ _ _ h => h) (Or.inl ⟨by rfl, ?_⟩) (by assumption) ?_
  rotate_left
  · intro w9 hSw
    (try dsimp only at hSw)
    go_simp
    (try with_reducible rfl)
  (try simp only [Act.put]); (try simp only [List.setIfInBounds_toArray]); (try simp only [List.set_cons_succ]); (try simp only [List.set_cons_zero])
  refine wpAnyH_take (i := 10) (v := ?_) rfl (by kernel_rfl) (by kernel_rfl) (by kernel_rfl) (fun _ _ _ h => h) (Or.inl ⟨by rfl, ?_⟩) (by assumption) ?_
  rotate_left
  · intro w9 hSw
    (try dsimp only at hSw)
    go_simp
    (try with_reducible rfl)
  (try simp only [Act.put]); (try simp only [List.setIfInBounds_toArray]); (try simp only [List.set_cons_succ]); (try simp only [List.set_cons_zero])
  refine wpAnyH_take (i := 13) (v := ?_) rfl (by kernel_rfl) (by kernel_rfl) (by kernel_rfl) (fun _ _ _ h => h) (Or.inl ⟨by rfl, ?_⟩) (by assumption) ?_
  rotate_left
  · intro w9 hSw
    (try dsimp only at hSw)
    go_simp
    (try with_reducible rfl)
  (try simp only [Act.put]); (try simp only [List.setIfInBounds_toArray]); (try simp only [List.set_cons_succ]); (try simp only [List.set_cons_zero])
  refine wpAnyH_take (i := 14) (v := ?_) rfl (by kernel_rfl) (by kernel_rfl) (by kernel_rfl) (fun _ _ _ h => h) (Or.inl ⟨by rfl, ?_⟩) (by assumption) ?_
  rotate_left
  · intro w9 hSw
    (try dsimp only at hSw)
    go_simp
    (try with_reducible rfl)
  (try simp only [Act.put]); (try simp only [List.setIfInBounds_toArray]); (try simp only [List.set_cons_succ]); (try simp only [List.set_cons_zero])
  refine wpAnyH_take (i := 15) (v := ?_) rfl (by kernel_rfl) (by kernel_rfl) (by kernel_rfl) (fun _ _ _ h => h) (Or.inl ⟨by rfl, ?_⟩) (by assumption) ?_
  rotate_left
  · intro w9 hSw
    (try dsimp only at hSw)
    go_simp
    (try with_reducible rfl)
  (try simp only [Act.put]); (try simp only [List.setIfInBounds_toArray]); (try simp only [List.set_cons_succ]); (try simp only [List.set_cons_zero])
  refine wpAnyH_ready (rs := [11]) (by kernel_rfl) (by simp) ?_
  refine AllReadyH.cons rfl (fun K hK => ?_) ?_
  rotate_left
  · exact AllReadyH.nil
  go_simp
  go_wp2_with (go_at_call 68; (with_reducible refine (HC.out _ hB).mono ?_); rintro e y3 ⟨⟨q1, q2, rfl⟩, hbk⟩)
  refine hK.out _ _ ?_ (fun hHeld => ?_)
  · exact ⟨(A0.below hbk A0.lt).cell 0, (A0.below hbk A0.lt).cell 1, (A0.below hbk A0.lt).cell 2, (A0.below hbk A0.lt).cell 3, (A0.below hbk A0.lt).cell 4, lab0 (J0.below hbk J0.lt), lab1 (J0.below hbk J0.lt)⟩
  clear hK K
  (try simp only [Act.put]); (try simp only [List.setIfInBounds_toArray]); (try simp only [List.set_cons_succ]); (try simp only [List.set_cons_zero])
  replace A0 := A0.below hbk A0.lt
  replace J0 := J0.below hbk J0.lt
  replace hB := rstep hB hbk
  clear hbk
  refine wpAnyH_take (i := 12) (v := ?_) rfl (by kernel_rfl) (by kernel_rfl) (by kernel_rfl) (fun _ _ _ h => h) (Or.inl ⟨by rfl, ?_⟩) (by assumption) ?_
  rotate_left
  · intro w9 hSw
    (try dsimp only at hSw)
    go_simp
    (try with_reducible rfl)
  (try simp only [Act.put]); (try simp only [List.setIfInBounds_toArray]); (try simp only [List.set_cons_succ]); (try simp only [List.set_cons_zero])
  refine wpAnyH_take (i := 16) (v := ?_) rfl (by kernel_rfl) (by kernel_rfl) (by kernel_rfl) (fun _ _ _ h => h) (Or.inl ⟨by rfl, ?_⟩) (by assumption) ?_
  rotate_left
  · intro w9 hSw
    (try dsimp only at hSw)
    go_simp
    (try with_reducible rfl)
  (try simp only [Act.put]); (try simp only [List.setIfInBounds_toArray]); (try simp only [List.set_cons_succ]); (try simp only [List.set_cons_zero])
  refine wpAnyH_take (i := 17) (v := ?_) rfl (by kernel_rfl) (by kernel_rfl) (by kernel_rfl) (fun _ _ _ h => h) (Or.inl ⟨by rfl, ?_⟩) (by assumption) ?_
  rotate_left
  · intro w9 hSw
    (try dsimp only at hSw)
    go_simp
    (try with_reducible rfl)
  (try simp only [Act.put]); (try simp only [List.setIfInBounds_toArray]); (try simp only [List.set_cons_succ]); (try simp only [List.set_cons_zero])
  refine wpAnyH_done (by kernel_rfl) ?_ _
  have Y1 := Y0.below hB Y0.lt
  have Z1 := Z0.below hB Z0.lt
  have B1 := rstep B0 hB
  have T1 := T0.bel hB
  clear hHeld hB Y0 Z0 B0 T0 HI HJ HC hd hdn
  have k0 : y3.cell? ⟨w.heap.size, 0, none⟩ = some (.int .i64 r.kind) := A0.cell 0
  rcases hk with hk | hk
  all_goals
    rw [hk] at k0
    clear hk
    have hf := HF.out
    clear HF
    subst hf
    have j0 : y3.cell? ⟨w.heap.size + 1, 0, none⟩ = some (.int .i64 64) := lab0 J0
    clear A0 J0 T1
    go_upto_region 6 with (fail)
    go_wp2_with (first
      | (refine p_storeR rfl _ _ rfl (w.heap.size + 2) rfl zeroR (.slice none 0 0) rfl rfl zeroR (.slice none 0 0) Y1 ?_)
      | (refine p_storeR rfl _ _ rfl (w.heap.size + 3) rfl zeroR (.slice none 0 0) rfl rfl zeroR (.slice none 0 0) (Z1.setRow_other _ _ (by omega)) ?_))
    exact bodyPost_ret (results_rec3 Try.results26 _ _ (w.heap.size + 2) (w.heap.size + 3) _ _ _ _ _ rfl rfl rfl ((Y1.setRow _).setRow_other _ _ (by omega)) ((Z1.setRow_other _ _ (by omega)).setRow _)) rfl ⟨rfl, bel_setRow (bel_setRow B1 (by omega) _) (by omega) _⟩
end Go.Proofs.Ytkicndengkcojaa
