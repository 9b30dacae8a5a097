/- The document's Union. -/
import Derived.Test.YtkicndengkcojaaRecOf
import Derived.Test.YtkicndengkcojaaRecRef2
import Derived.Test.YtkicndengkcojaaRecUnion
namespace Go.Proofs.Ytkicndengkcojaa
set_option maxRecDepth 100000
open Go Go.RowKit Go.Sort

theorem midL3 {ops : Array Oper} {rest : List Oper} {o : Oper} {a : Act} {w : World} {Q : Exit → Act → World → Prop} (hgd : o.guard = none) (x : Operand) (ho : o.op = .load 25 x)
    (g : Nat) (hx : a.eval x = .pointer (some ⟨g, 2, none⟩)) (r : Rc) (u : Value) (hg : Blk w g (recC r u) 27)
    (h : wpList Try.prog ops Q rest (a.put o.dst (.agg #[.int .i64 r.nl, .int .u64 (r.nb : Int)])) w) : wpList Try.prog ops Q (o :: rest) a w := p_midL hgd x ho g hx r u hg h
theorem sorted_le {L : List It} (h : Sorted L) {i j : Nat} {x y : It} (hij : i ≤ j) (hi : L[i]? = some x) (hj : L[j]? = some y) : x.1 ≤ y.1 := by
  rcases Nat.lt_or_ge i j with h1 | h1
  · have := sorted_get h h1 hi hj
    omega
  · obtain rfl : i = j := by omega
    rw [hi] at hj
    injection hj with hj
    rw [hj]
    omega
/-- two rows that rise, one behind the other -/
theorem rise_ends {L K : List It} (hL : Sorted L) (hK : Sorted K) {p : Nat} {x y : It} (hp : L.length = p + 1) (hx : L[p]? = some x) (hy : K[0]? = some y) : riseB (L ++ K) = decide (x.1 < y.1) := by
  by_cases h : x.1 < y.1
  · rw [decide_eq_true h, riseB_iff]
    refine List.pairwise_append.2 ⟨hL, hK, fun a ha b hb => ?_⟩
    obtain ⟨i, hi, rfl⟩ := List.mem_iff_getElem.1 ha
    obtain ⟨j, hj, rfl⟩ := List.mem_iff_getElem.1 hb
    have h1 := sorted_le hL (show i ≤ p by omega) (List.getElem?_eq_getElem hi) hx
    have h2 := sorted_le hK (Nat.zero_le j) hy (List.getElem?_eq_getElem hj)
    omega
  · rw [decide_eq_false h, Bool.eq_false_iff]
    intro hs
    exact h ((List.pairwise_append.1 (riseB_iff.1 hs)).2.2 x (List.mem_of_getElem? hx) y (List.mem_of_getElem? hy))
set_option maxHeartbeats 2000000 in
theorem refun_a {r q : Rc} {u v : Value} {w : World} (hT : Told w u r.items) (hT' : Told w v q.items) (hW : r.Wf) (_hW' : q.Wf) (hr : isR r = false) :
    Calls Try.prog 28 #[.agg (recC r u), .agg (recC q v)] w fun e w' => e = .returned (.tuple #[.agg (recC zeroR (.slice none 0 0)), .int .i64 1]) ∧ Below w.heap.size w w' := by
  obtain ⟨a, c, rfl⟩ := told_shape hT
  obtain ⟨a2, c2, rfl⟩ := told_shape hT'
  obtain ⟨w1, h1⟩ : ∃ w1, w1 = w.alloc (.cells (recC r (.slice a r.items.length c)) 27) := ⟨_, rfl⟩
  obtain ⟨w2, h2⟩ : ∃ w2, w2 = w1.alloc (.cells (recC q (.slice a2 q.items.length c2)) 27) := ⟨_, rfl⟩
  obtain ⟨V, h3⟩ : ∃ V, V = w2.alloc (.cells (recC zeroR (.slice none 0 0)) 27) := ⟨_, rfl⟩
  have s1 : w1.heap.size = w.heap.size + 1 := by rw [h1]; simp
  have s2 : w2.heap.size = w.heap.size + 2 := by rw [h2]; simp [s1]
  have b1 : Below w.heap.size w w1 := h1 ▸ (Below.refl _ _).alloc (Nat.le_refl _) _
  have b2 : Below w.heap.size w w2 := h2 ▸ b1.alloc b1.size _
  have B0 : Below w.heap.size w V := h3 ▸ b2.alloc b2.size _
  have A0 : Blk V w.heap.size (recC r (.slice a r.items.length c)) 27 := by
    rw [h3, h2]; exact ((h1 ▸ Blk.new w _ _ : Blk w1 w.heap.size (recC r (.slice a r.items.length c)) 27).alloc _).alloc _
  have Q0 : Blk V (w.heap.size + 1) (recC q (.slice a2 q.items.length c2)) 27 := by
    rw [h3]; exact (s1 ▸ (h2 ▸ Blk.new w1 _ _ : Blk w2 w1.heap.size (recC q (.slice a2 q.items.length c2)) 27) : Blk w2 (w.heap.size + 1) (recC q (.slice a2 q.items.length c2)) 27).alloc _
  have Z0 : Blk V (w.heap.size + 2) (recC zeroR (.slice none 0 0)) 27 := s2 ▸ (h3 ▸ Blk.new w2 _ _ : Blk V w2.heap.size (recC zeroR (.slice none 0 0)) 27)
  have hV : V = (((w.alloc (.cells (recC r (.slice a r.items.length c)) 27)).alloc (.cells (recC q (.slice a2 q.items.length c2)) 27)).alloc (.cells (recC zeroR (.slice none 0 0)) 27)) := by rw [h3, h2, h1]
  have T0 := hT.bel B0
  have S0 := hT'.bel B0
  clear hT hT' h1 h2 h3 s1 s2 b1 b2
  have HI := Lib.hid (refis_any T0 hW)
  rw [hr] at HI
  clear hW hr T0 S0
  go_enter Try.func28, Try.ntmps28
  go_upto_region 1 with (fail)
  rw [zero_rec, ← hV]
  clear hV
  go_upto_region 2 with (first
    | (go_guarded; with_reducible (show wpList _ _ _ _ _ _))
    | (refine p_loadR rfl _ rfl w.heap.size rfl r (.slice a r.items.length c) A0 ?_)
    | (go_at_call 16; (with_reducible refine HI.out.mono ?_); rintro e w1 ⟨rfl, hb1⟩))
  have Z1 := Z0.below hb1 Z0.lt
  have B1 := rstep B0 hb1
  clear A0 Q0 Z0 B0 hb1 HI
  go_wp2_with (refine p_storeR rfl _ _ rfl (w.heap.size + 2) rfl zeroR (.slice none 0 0) rfl rfl zeroR (.slice none 0 0) Z1 ?_)
  exact bodyPost_ret (results_rec2 Try.results28 _ _ (w.heap.size + 2) _ _ _ rfl rfl (Z1.setRow _)) rfl ⟨rfl, bel_setRow B1 (by omega) _⟩
set_option maxHeartbeats 2000000 in
theorem refun_b {r q : Rc} {u v : Value} {w : World} (hT : Told w u r.items) (hT' : Told w v q.items) (hW : r.Wf) (hW' : q.Wf) (hr : isR r = true) (hq : isR q = false) :
    Calls Try.prog 28 #[.agg (recC r u), .agg (recC q v)] w fun e w' => e = .returned (.tuple #[.agg (recC zeroR (.slice none 0 0)), .int .i64 1]) ∧ Below w.heap.size w w' := by
  obtain ⟨a, c, rfl⟩ := told_shape hT
  obtain ⟨a2, c2, rfl⟩ := told_shape hT'
  obtain ⟨w1, h1⟩ : ∃ w1, w1 = w.alloc (.cells (recC r (.slice a r.items.length c)) 27) := ⟨_, rfl⟩
  obtain ⟨w2, h2⟩ : ∃ w2, w2 = w1.alloc (.cells (recC q (.slice a2 q.items.length c2)) 27) := ⟨_, rfl⟩
  obtain ⟨V, h3⟩ : ∃ V, V = w2.alloc (.cells (recC zeroR (.slice none 0 0)) 27) := ⟨_, rfl⟩
  have s1 : w1.heap.size = w.heap.size + 1 := by rw [h1]; simp
  have s2 : w2.heap.size = w.heap.size + 2 := by rw [h2]; simp [s1]
  have b1 : Below w.heap.size w w1 := h1 ▸ (Below.refl _ _).alloc (Nat.le_refl _) _
  have b2 : Below w.heap.size w w2 := h2 ▸ b1.alloc b1.size _
  have B0 : Below w.heap.size w V := h3 ▸ b2.alloc b2.size _
  have A0 : Blk V w.heap.size (recC r (.slice a r.items.length c)) 27 := by
    rw [h3, h2]; exact ((h1 ▸ Blk.new w _ _ : Blk w1 w.heap.size (recC r (.slice a r.items.length c)) 27).alloc _).alloc _
  have Q0 : Blk V (w.heap.size + 1) (recC q (.slice a2 q.items.length c2)) 27 := by
    rw [h3]; exact (s1 ▸ (h2 ▸ Blk.new w1 _ _ : Blk w2 w1.heap.size (recC q (.slice a2 q.items.length c2)) 27) : Blk w2 (w.heap.size + 1) (recC q (.slice a2 q.items.length c2)) 27).alloc _
  have Z0 : Blk V (w.heap.size + 2) (recC zeroR (.slice none 0 0)) 27 := s2 ▸ (h3 ▸ Blk.new w2 _ _ : Blk V w2.heap.size (recC zeroR (.slice none 0 0)) 27)
  have hV : V = (((w.alloc (.cells (recC r (.slice a r.items.length c)) 27)).alloc (.cells (recC q (.slice a2 q.items.length c2)) 27)).alloc (.cells (recC zeroR (.slice none 0 0)) 27)) := by rw [h3, h2, h1]
  have T0 := hT.bel B0
  have S0 := hT'.bel B0
  clear hT hT' h1 h2 h3 s1 s2 b1 b2
  have HI := Lib.hid (refis_any T0 hW)
  have HJ : Hid (∀ w1, Below V.heap.size V w1 → Calls Try.prog 16 #[.agg (recC q (.slice a2 q.items.length c2))] w1 fun e w' => e = .returned (.bool false) ∧ Below w1.heap.size w1 w') := by
    intro w1 hb
    have h := refis_any (S0.bel hb) hW'
    rw [hq] at h
    exact h
  rw [hr] at HI
  clear hW hW' hr hq
  go_enter Try.func28, Try.ntmps28
  go_upto_region 1 with (fail)
  rw [zero_rec, ← hV]
  clear hV
  go_upto_region 2 with (first
    | (go_guarded; with_reducible (show wpList _ _ _ _ _ _))
    | (refine p_loadR rfl _ rfl w.heap.size rfl r (.slice a r.items.length c) A0 ?_)
    | (go_at_call 16; (with_reducible refine HI.out.mono ?_); rintro e w1 ⟨rfl, hb1⟩; have Q1 := Q0.below hb1 Q0.lt)
    | (go_guarded; refine o_loadR _ rfl (w.heap.size + 1) rfl q (.slice a2 q.items.length c2) Q1 ?_)
    | (go_at_call 16; (with_reducible refine (HJ.out _ hb1).mono ?_); rintro e w2 ⟨rfl, hb2⟩))
  have hb := rstep hb1 hb2
  have A2 := A0.below hb A0.lt
  have Q2 := Q0.below hb Q0.lt
  have Z2 := Z0.below hb Z0.lt
  have B2 := rstep B0 hb
  have T2 := T0.bel hb
  have S2 := S0.bel hb
  clear A0 Q0 Z0 B0 T0 S0 hb hb1 hb2 HI HJ Q1
  clear A2 Q2 T2 S2
  go_wp2_with (refine p_storeR rfl _ _ rfl (w.heap.size + 2) rfl zeroR (.slice none 0 0) rfl rfl zeroR (.slice none 0 0) Z2 ?_)
  exact bodyPost_ret (results_rec2 Try.results28 _ _ (w.heap.size + 2) _ _ _ rfl rfl (Z2.setRow _)) rfl ⟨rfl, bel_setRow B2 (by omega) _⟩
set_option maxHeartbeats 2000000 in
theorem refun_rise {r q : Rc} {u v : Value} {w : World} (hT : Told w u r.items) (hT' : Told w v q.items) (hW : r.Wf) (hW' : q.Wf) (hr : isR r = true) (hq : isR q = true) (hl : r.items.length ≤ 40) (_hl2 : q.items.length ≤ 40) {p : Nat} {x y : It} (h0 : r.items.length = p + 1) (h1 : 0 < q.items.length) (hx : r.items[p]? = some x) (hy0 : q.items[0]? = some y) (hxy : ¬ x.1 < y.1) :
    Calls Try.prog 28 #[.agg (recC r u), .agg (recC q v)] w fun e w' => e = .returned (.tuple #[.agg (recC zeroR (.slice none 0 0)), .int .i64 1]) ∧ Below w.heap.size w w' := by
  have H0 := Lib.hid h0
  have H1 := Lib.hid h1
  have HX := Lib.hid hx
  have HY := Lib.hid hy0
  have HXY := Lib.hid hxy
  clear h0 h1 hx hy0 hxy
  obtain ⟨a, c, rfl⟩ := told_shape hT
  obtain ⟨a2, c2, rfl⟩ := told_shape hT'
  obtain ⟨w1, h1⟩ : ∃ w1, w1 = w.alloc (.cells (recC r (.slice a r.items.length c)) 27) := ⟨_, rfl⟩
  obtain ⟨w2, h2⟩ : ∃ w2, w2 = w1.alloc (.cells (recC q (.slice a2 q.items.length c2)) 27) := ⟨_, rfl⟩
  obtain ⟨V, h3⟩ : ∃ V, V = w2.alloc (.cells (recC zeroR (.slice none 0 0)) 27) := ⟨_, rfl⟩
  have s1 : w1.heap.size = w.heap.size + 1 := by rw [h1]; simp
  have s2 : w2.heap.size = w.heap.size + 2 := by rw [h2]; simp [s1]
  have b1 : Below w.heap.size w w1 := h1 ▸ (Below.refl _ _).alloc (Nat.le_refl _) _
  have b2 : Below w.heap.size w w2 := h2 ▸ b1.alloc b1.size _
  have B0 : Below w.heap.size w V := h3 ▸ b2.alloc b2.size _
  have A0 : Blk V w.heap.size (recC r (.slice a r.items.length c)) 27 := by
    rw [h3, h2]; exact ((h1 ▸ Blk.new w _ _ : Blk w1 w.heap.size (recC r (.slice a r.items.length c)) 27).alloc _).alloc _
  have Q0 : Blk V (w.heap.size + 1) (recC q (.slice a2 q.items.length c2)) 27 := by
    rw [h3]; exact (s1 ▸ (h2 ▸ Blk.new w1 _ _ : Blk w2 w1.heap.size (recC q (.slice a2 q.items.length c2)) 27) : Blk w2 (w.heap.size + 1) (recC q (.slice a2 q.items.length c2)) 27).alloc _
  have Z0 : Blk V (w.heap.size + 2) (recC zeroR (.slice none 0 0)) 27 := s2 ▸ (h3 ▸ Blk.new w2 _ _ : Blk V w2.heap.size (recC zeroR (.slice none 0 0)) 27)
  have hV : V = (((w.alloc (.cells (recC r (.slice a r.items.length c)) 27)).alloc (.cells (recC q (.slice a2 q.items.length c2)) 27)).alloc (.cells (recC zeroR (.slice none 0 0)) 27)) := by rw [h3, h2, h1]
  have T0 := hT.bel B0
  have S0 := hT'.bel B0
  clear hT hT' h1 h2 h3 s1 s2 b1 b2
  have HI := Lib.hid (refis_any T0 hW)
  have HJ : Hid (∀ w1, Below V.heap.size V w1 → Calls Try.prog 16 #[.agg (recC q (.slice a2 q.items.length c2))] w1 fun e w' => e = .returned (.bool true) ∧ Below w1.heap.size w1 w') := by
    intro w1 hb
    have h := refis_any (S0.bel hb) hW'
    rw [hq] at h
    exact h
  rw [hr] at HI
  clear hW hW' hr hq
  go_enter Try.func28, Try.ntmps28
  go_upto_region 1 with (fail)
  rw [zero_rec, ← hV]
  clear hV
  go_upto_region 3 with (first
    | (go_guarded; with_reducible (show wpList _ _ _ _ _ _))
    | (refine p_loadR rfl _ rfl w.heap.size rfl r (.slice a r.items.length c) A0 ?_)
    | (go_at_call 16; (with_reducible refine HI.out.mono ?_); rintro e w1 ⟨rfl, hb1⟩; have Q1 := Q0.below hb1 Q0.lt)
    | (go_guarded; refine o_loadR _ rfl (w.heap.size + 1) rfl q (.slice a2 q.items.length c2) Q1 ?_)
    | (go_at_call 16; (with_reducible refine (HJ.out _ hb1).mono ?_); rintro e w2 ⟨rfl, hb2⟩))
  have hb := rstep hb1 hb2
  have A2 := A0.below hb A0.lt
  have Q2 := Q0.below hb Q0.lt
  have Z2 := Z0.below hb Z0.lt
  have B2 := rstep B0 hb
  have T2 := T0.bel hb
  have S2 := S0.bel hb
  clear A0 Q0 Z0 B0 T0 S0 hb hb1 hb2 HI HJ Q1
  have h0 := H0.out
  have h1 := H1.out
  have hx := HX.out
  have hy0 := HY.out
  have hxy := HXY.out
  have hz : decide ((0 : Int) < (r.items.length : Int)) = true := decide_eq_true (by omega)
  have hz2 : decide (0 < r.items.length) = true := decide_eq_true (by omega)
  have hy : decide ((0 : Int) < (q.items.length : Int)) = true := decide_eq_true (by omega)
  have hy2 : decide (0 < q.items.length) = true := decide_eq_true (by omega)
  have hp8 : r.items.length ≤ 1000000 := by omega
  have hw1 : IntKind.i64.wrap ((r.items.length : Int) - 1) = (p : Int) := by rw [show (r.items.length : Int) - 1 = p by omega]; exact IntWalk.i64_in _ (by omega)
  have hb1 : (p : Int) < (r.items.length : Int) := by omega
  have hb1n : p < r.items.length := by omega
  have hb2 : (0 : Int) < (q.items.length : Int) := by omega
  obtain ⟨b5, o5, rfl, x1, _, _⟩ := told_at T2 hx
  obtain ⟨b6, o6, rfl, y1, _, _⟩ := told_at S2 hy0
  rw [Nat.zero_mul, Nat.add_zero] at y1
  have hd : decide (y.1 ≤ x.1) = true := by simp; omega
  have hdI : decide ((y.1 : Int) ≤ (x.1 : Int)) = true := by simp; omega
  clear h0 h1 hx hy0 hxy
  have c1 : w2.cell? ⟨w.heap.size, 1, none⟩ = some (.slice (some ⟨b5, o5, none⟩) r.items.length c) := A2.cell 1
  have d1 : w2.cell? ⟨w.heap.size + 1, 1, none⟩ = some (.slice (some ⟨b6, o6, none⟩) q.items.length c2) := Q2.cell 1
  go_upto_region 4 with (fail)
  have HD := fun n => bel_drewN (Below.refl w2.heap.size w2) n
  go_quiet (fail)
  generalize hD : World.drewN w2 _ = w3
  have bD : Below w2.heap.size w2 w3 := hD ▸ HD _
  clear hD HD
  clear c1 d1 hz hz2 hy hy2 H0 H1 HX HY HXY hp8 hw1 hb1 hb1n hb2 x1 y1 hd hdI A2 Q2 T2 S2
  have Z3 := Z2.below bD Z2.lt
  have B3 := rstep B2 bD
  go_wp2_with (refine p_storeR rfl _ _ rfl (w.heap.size + 2) rfl zeroR (.slice none 0 0) rfl rfl zeroR (.slice none 0 0) Z3 ?_)
  exact bodyPost_ret (results_rec2 Try.results28 _ _ (w.heap.size + 2) _ _ _ rfl rfl (Z3.setRow _)) rfl ⟨rfl, bel_setRow B3 (by omega) _⟩
set_option maxHeartbeats 2000000 in
theorem refun_ma1 {r q : Rc} {u v : Value} {w : World} (hT : Told w u r.items) (hT' : Told w v q.items) (hW : r.Wf) (hW' : q.Wf) (hr : isR r = true) (hq : isR q = true) (_hl : r.items.length ≤ 40) (_hl2 : q.items.length ≤ 40) (h0 : r.items.length = 0) (hm : mayB r.kind = false) :
    Calls Try.prog 28 #[.agg (recC r u), .agg (recC q v)] w fun e w' => e = .returned (.tuple #[.agg (recC zeroR (.slice none 0 0)), .int .i64 13]) ∧ Below w.heap.size w w' := by
  have H0 := Lib.hid h0
  clear h0
  obtain ⟨a, c, rfl⟩ := told_shape hT
  obtain ⟨a2, c2, rfl⟩ := told_shape hT'
  obtain ⟨w1, h1⟩ : ∃ w1, w1 = w.alloc (.cells (recC r (.slice a r.items.length c)) 27) := ⟨_, rfl⟩
  obtain ⟨w2, h2⟩ : ∃ w2, w2 = w1.alloc (.cells (recC q (.slice a2 q.items.length c2)) 27) := ⟨_, rfl⟩
  obtain ⟨V, h3⟩ : ∃ V, V = w2.alloc (.cells (recC zeroR (.slice none 0 0)) 27) := ⟨_, rfl⟩
  have s1 : w1.heap.size = w.heap.size + 1 := by rw [h1]; simp
  have s2 : w2.heap.size = w.heap.size + 2 := by rw [h2]; simp [s1]
  have b1 : Below w.heap.size w w1 := h1 ▸ (Below.refl _ _).alloc (Nat.le_refl _) _
  have b2 : Below w.heap.size w w2 := h2 ▸ b1.alloc b1.size _
  have B0 : Below w.heap.size w V := h3 ▸ b2.alloc b2.size _
  have A0 : Blk V w.heap.size (recC r (.slice a r.items.length c)) 27 := by
    rw [h3, h2]; exact ((h1 ▸ Blk.new w _ _ : Blk w1 w.heap.size (recC r (.slice a r.items.length c)) 27).alloc _).alloc _
  have Q0 : Blk V (w.heap.size + 1) (recC q (.slice a2 q.items.length c2)) 27 := by
    rw [h3]; exact (s1 ▸ (h2 ▸ Blk.new w1 _ _ : Blk w2 w1.heap.size (recC q (.slice a2 q.items.length c2)) 27) : Blk w2 (w.heap.size + 1) (recC q (.slice a2 q.items.length c2)) 27).alloc _
  have Z0 : Blk V (w.heap.size + 2) (recC zeroR (.slice none 0 0)) 27 := s2 ▸ (h3 ▸ Blk.new w2 _ _ : Blk V w2.heap.size (recC zeroR (.slice none 0 0)) 27)
  have hV : V = (((w.alloc (.cells (recC r (.slice a r.items.length c)) 27)).alloc (.cells (recC q (.slice a2 q.items.length c2)) 27)).alloc (.cells (recC zeroR (.slice none 0 0)) 27)) := by rw [h3, h2, h1]
  have T0 := hT.bel B0
  have S0 := hT'.bel B0
  clear hT hT' h1 h2 h3 s1 s2 b1 b2
  have HI := Lib.hid (refis_any T0 hW)
  have HJ : Hid (∀ w1, Below V.heap.size V w1 → Calls Try.prog 16 #[.agg (recC q (.slice a2 q.items.length c2))] w1 fun e w' => e = .returned (.bool true) ∧ Below w1.heap.size w1 w') := by
    intro w1 hb
    have h := refis_any (S0.bel hb) hW'
    rw [hq] at h
    exact h
  rw [hr] at HI
  clear hW hW' hr hq
  go_enter Try.func28, Try.ntmps28
  go_upto_region 1 with (fail)
  rw [zero_rec, ← hV]
  clear hV
  go_upto_region 3 with (first
    | (go_guarded; with_reducible (show wpList _ _ _ _ _ _))
    | (refine p_loadR rfl _ rfl w.heap.size rfl r (.slice a r.items.length c) A0 ?_)
    | (go_at_call 16; (with_reducible refine HI.out.mono ?_); rintro e w1 ⟨rfl, hb1⟩; have Q1 := Q0.below hb1 Q0.lt)
    | (go_guarded; refine o_loadR _ rfl (w.heap.size + 1) rfl q (.slice a2 q.items.length c2) Q1 ?_)
    | (go_at_call 16; (with_reducible refine (HJ.out _ hb1).mono ?_); rintro e w2 ⟨rfl, hb2⟩))
  have hb := rstep hb1 hb2
  have A2 := A0.below hb A0.lt
  have Q2 := Q0.below hb Q0.lt
  have Z2 := Z0.below hb Z0.lt
  have B2 := rstep B0 hb
  have T2 := T0.bel hb
  have S2 := S0.bel hb
  clear A0 Q0 Z0 B0 T0 S0 hb hb1 hb2 HI HJ Q1
  have h0 := H0.out
  have hz : decide ((0 : Int) < (r.items.length : Int)) = false := decide_eq_false (by omega)
  have hz2 : decide (0 < r.items.length) = false := decide_eq_false (by omega)
  clear h0
  have c1 : w2.cell? ⟨w.heap.size, 1, none⟩ = some (.slice a r.items.length c) := A2.cell 1
  have d1 : w2.cell? ⟨w.heap.size + 1, 1, none⟩ = some (.slice a2 q.items.length c2) := Q2.cell 1
  go_upto_region 4 with (fail)
  have HD := fun n => bel_drewN (Below.refl w2.heap.size w2) n
  go_quiet (fail)
  generalize hD : World.drewN w2 _ = w3
  have bD : Below w2.heap.size w2 w3 := hD ▸ HD _
  clear hD HD
  have A3 := A2.below bD A2.lt
  have Q3 := Q2.below bD Q2.lt
  have Z3 := Z2.below bD Z2.lt
  have T3 := T2.bel bD
  have S3 := S2.bel bD
  have B3 := rstep B2 bD
  clear c1 d1 hz hz2 H0 A2 Q2 Z2 T2 S2 B2 bD
  have c0 : w3.cell? ⟨w.heap.size, 0, none⟩ = some (.int .i64 r.kind) := A3.cell 0
  have d0 : w3.cell? ⟨w.heap.size + 1, 0, none⟩ = some (.int .i64 q.kind) := Q3.cell 0
  have k1 : (r.kind != 1) = true := by revert hm; simp [mayB] <;> omega
  have k5 : (r.kind != 5) = true := by revert hm; simp [mayB] <;> omega
  clear hm A3 Q3 T3 S3
  go_upto_region 7 with (fail)
  go_wp2_with (refine p_storeR rfl _ _ rfl (w.heap.size + 2) rfl zeroR (.slice none 0 0) rfl rfl zeroR (.slice none 0 0) Z3 ?_)
  exact bodyPost_ret (results_rec2 Try.results28 _ _ (w.heap.size + 2) _ _ _ rfl rfl (Z3.setRow _)) rfl ⟨rfl, bel_setRow B3 (by omega) _⟩
set_option maxHeartbeats 2000000 in
theorem refun_mb1 {r q : Rc} {u v : Value} {w : World} (hT : Told w u r.items) (hT' : Told w v q.items) (hW : r.Wf) (hW' : q.Wf) (hr : isR r = true) (hq : isR q = true) (_hl : r.items.length ≤ 40) (_hl2 : q.items.length ≤ 40) (h0 : r.items.length = 0) (hm : mayB r.kind = true) (hm2 : mayB q.kind = false) :
    Calls Try.prog 28 #[.agg (recC r u), .agg (recC q v)] w fun e w' => e = .returned (.tuple #[.agg (recC zeroR (.slice none 0 0)), .int .i64 13]) ∧ Below w.heap.size w w' := by
  have H0 := Lib.hid h0
  clear h0
  obtain ⟨a, c, rfl⟩ := told_shape hT
  obtain ⟨a2, c2, rfl⟩ := told_shape hT'
  obtain ⟨w1, h1⟩ : ∃ w1, w1 = w.alloc (.cells (recC r (.slice a r.items.length c)) 27) := ⟨_, rfl⟩
  obtain ⟨w2, h2⟩ : ∃ w2, w2 = w1.alloc (.cells (recC q (.slice a2 q.items.length c2)) 27) := ⟨_, rfl⟩
  obtain ⟨V, h3⟩ : ∃ V, V = w2.alloc (.cells (recC zeroR (.slice none 0 0)) 27) := ⟨_, rfl⟩
  have s1 : w1.heap.size = w.heap.size + 1 := by rw [h1]; simp
  have s2 : w2.heap.size = w.heap.size + 2 := by rw [h2]; simp [s1]
  have b1 : Below w.heap.size w w1 := h1 ▸ (Below.refl _ _).alloc (Nat.le_refl _) _
  have b2 : Below w.heap.size w w2 := h2 ▸ b1.alloc b1.size _
  have B0 : Below w.heap.size w V := h3 ▸ b2.alloc b2.size _
  have A0 : Blk V w.heap.size (recC r (.slice a r.items.length c)) 27 := by
    rw [h3, h2]; exact ((h1 ▸ Blk.new w _ _ : Blk w1 w.heap.size (recC r (.slice a r.items.length c)) 27).alloc _).alloc _
  have Q0 : Blk V (w.heap.size + 1) (recC q (.slice a2 q.items.length c2)) 27 := by
    rw [h3]; exact (s1 ▸ (h2 ▸ Blk.new w1 _ _ : Blk w2 w1.heap.size (recC q (.slice a2 q.items.length c2)) 27) : Blk w2 (w.heap.size + 1) (recC q (.slice a2 q.items.length c2)) 27).alloc _
  have Z0 : Blk V (w.heap.size + 2) (recC zeroR (.slice none 0 0)) 27 := s2 ▸ (h3 ▸ Blk.new w2 _ _ : Blk V w2.heap.size (recC zeroR (.slice none 0 0)) 27)
  have hV : V = (((w.alloc (.cells (recC r (.slice a r.items.length c)) 27)).alloc (.cells (recC q (.slice a2 q.items.length c2)) 27)).alloc (.cells (recC zeroR (.slice none 0 0)) 27)) := by rw [h3, h2, h1]
  have T0 := hT.bel B0
  have S0 := hT'.bel B0
  clear hT hT' h1 h2 h3 s1 s2 b1 b2
  have HI := Lib.hid (refis_any T0 hW)
  have HJ : Hid (∀ w1, Below V.heap.size V w1 → Calls Try.prog 16 #[.agg (recC q (.slice a2 q.items.length c2))] w1 fun e w' => e = .returned (.bool true) ∧ Below w1.heap.size w1 w') := by
    intro w1 hb
    have h := refis_any (S0.bel hb) hW'
    rw [hq] at h
    exact h
  rw [hr] at HI
  clear hW hW' hr hq
  go_enter Try.func28, Try.ntmps28
  go_upto_region 1 with (fail)
  rw [zero_rec, ← hV]
  clear hV
  go_upto_region 3 with (first
    | (go_guarded; with_reducible (show wpList _ _ _ _ _ _))
    | (refine p_loadR rfl _ rfl w.heap.size rfl r (.slice a r.items.length c) A0 ?_)
    | (go_at_call 16; (with_reducible refine HI.out.mono ?_); rintro e w1 ⟨rfl, hb1⟩; have Q1 := Q0.below hb1 Q0.lt)
    | (go_guarded; refine o_loadR _ rfl (w.heap.size + 1) rfl q (.slice a2 q.items.length c2) Q1 ?_)
    | (go_at_call 16; (with_reducible refine (HJ.out _ hb1).mono ?_); rintro e w2 ⟨rfl, hb2⟩))
  have hb := rstep hb1 hb2
  have A2 := A0.below hb A0.lt
  have Q2 := Q0.below hb Q0.lt
  have Z2 := Z0.below hb Z0.lt
  have B2 := rstep B0 hb
  have T2 := T0.bel hb
  have S2 := S0.bel hb
  clear A0 Q0 Z0 B0 T0 S0 hb hb1 hb2 HI HJ Q1
  have h0 := H0.out
  have hz : decide ((0 : Int) < (r.items.length : Int)) = false := decide_eq_false (by omega)
  have hz2 : decide (0 < r.items.length) = false := decide_eq_false (by omega)
  clear h0
  have c1 : w2.cell? ⟨w.heap.size, 1, none⟩ = some (.slice a r.items.length c) := A2.cell 1
  have d1 : w2.cell? ⟨w.heap.size + 1, 1, none⟩ = some (.slice a2 q.items.length c2) := Q2.cell 1
  go_upto_region 4 with (fail)
  have HD := fun n => bel_drewN (Below.refl w2.heap.size w2) n
  go_quiet (fail)
  generalize hD : World.drewN w2 _ = w3
  have bD : Below w2.heap.size w2 w3 := hD ▸ HD _
  clear hD HD
  have A3 := A2.below bD A2.lt
  have Q3 := Q2.below bD Q2.lt
  have Z3 := Z2.below bD Z2.lt
  have T3 := T2.bel bD
  have S3 := S2.bel bD
  have B3 := rstep B2 bD
  clear c1 d1 hz hz2 H0 A2 Q2 Z2 T2 S2 B2 bD
  have c0 : w3.cell? ⟨w.heap.size, 0, none⟩ = some (.int .i64 r.kind) := A3.cell 0
  have d0 : w3.cell? ⟨w.heap.size + 1, 0, none⟩ = some (.int .i64 q.kind) := Q3.cell 0
  have k1 : (q.kind != 1) = true := by revert hm2; simp [mayB] <;> omega
  have k5 : (q.kind != 5) = true := by revert hm2; simp [mayB] <;> omega
  clear hm2 A3 Q3 T3 S3
  rcases (by revert hm; simp [mayB] : r.kind = 1 ∨ r.kind = 5) with hk | hk
  all_goals
    rw [hk] at c0
    clear hm hk
    go_upto_region 7 with (fail)
    go_wp2_with (refine p_storeR rfl _ _ rfl (w.heap.size + 2) rfl zeroR (.slice none 0 0) rfl rfl zeroR (.slice none 0 0) Z3 ?_)
    exact bodyPost_ret (results_rec2 Try.results28 _ _ (w.heap.size + 2) _ _ _ rfl rfl (Z3.setRow _)) rfl ⟨rfl, bel_setRow B3 (by omega) _⟩
set_option maxHeartbeats 2000000 in
theorem refun_full1 {r q : Rc} {u v : Value} {w : World} (hT : Told w u r.items) (hT' : Told w v q.items) (hW : r.Wf) (hW' : q.Wf) (hr : isR r = true) (hq : isR q = true) (hl : r.items.length ≤ 40) (hl2 : q.items.length ≤ 40) (h0 : r.items.length = 0) (hm : mayB r.kind = true) (hm2 : mayB q.kind = true) (hf : 16 < r.items.length + q.items.length) :
    Calls Try.prog 28 #[.agg (recC r u), .agg (recC q v)] w fun e w' => e = .returned (.tuple #[.agg (recC zeroR (.slice none 0 0)), .int .i64 12]) ∧ Below w.heap.size w w' := by
  have H0 := Lib.hid h0
  clear h0
  obtain ⟨a, c, rfl⟩ := told_shape hT
  obtain ⟨a2, c2, rfl⟩ := told_shape hT'
  obtain ⟨w1, h1⟩ : ∃ w1, w1 = w.alloc (.cells (recC r (.slice a r.items.length c)) 27) := ⟨_, rfl⟩
  obtain ⟨w2, h2⟩ : ∃ w2, w2 = w1.alloc (.cells (recC q (.slice a2 q.items.length c2)) 27) := ⟨_, rfl⟩
  obtain ⟨V, h3⟩ : ∃ V, V = w2.alloc (.cells (recC zeroR (.slice none 0 0)) 27) := ⟨_, rfl⟩
  have s1 : w1.heap.size = w.heap.size + 1 := by rw [h1]; simp
  have s2 : w2.heap.size = w.heap.size + 2 := by rw [h2]; simp [s1]
  have b1 : Below w.heap.size w w1 := h1 ▸ (Below.refl _ _).alloc (Nat.le_refl _) _
  have b2 : Below w.heap.size w w2 := h2 ▸ b1.alloc b1.size _
  have B0 : Below w.heap.size w V := h3 ▸ b2.alloc b2.size _
  have A0 : Blk V w.heap.size (recC r (.slice a r.items.length c)) 27 := by
    rw [h3, h2]; exact ((h1 ▸ Blk.new w _ _ : Blk w1 w.heap.size (recC r (.slice a r.items.length c)) 27).alloc _).alloc _
  have Q0 : Blk V (w.heap.size + 1) (recC q (.slice a2 q.items.length c2)) 27 := by
    rw [h3]; exact (s1 ▸ (h2 ▸ Blk.new w1 _ _ : Blk w2 w1.heap.size (recC q (.slice a2 q.items.length c2)) 27) : Blk w2 (w.heap.size + 1) (recC q (.slice a2 q.items.length c2)) 27).alloc _
  have Z0 : Blk V (w.heap.size + 2) (recC zeroR (.slice none 0 0)) 27 := s2 ▸ (h3 ▸ Blk.new w2 _ _ : Blk V w2.heap.size (recC zeroR (.slice none 0 0)) 27)
  have hV : V = (((w.alloc (.cells (recC r (.slice a r.items.length c)) 27)).alloc (.cells (recC q (.slice a2 q.items.length c2)) 27)).alloc (.cells (recC zeroR (.slice none 0 0)) 27)) := by rw [h3, h2, h1]
  have T0 := hT.bel B0
  have S0 := hT'.bel B0
  clear hT hT' h1 h2 h3 s1 s2 b1 b2
  have HI := Lib.hid (refis_any T0 hW)
  have HJ : Hid (∀ w1, Below V.heap.size V w1 → Calls Try.prog 16 #[.agg (recC q (.slice a2 q.items.length c2))] w1 fun e w' => e = .returned (.bool true) ∧ Below w1.heap.size w1 w') := by
    intro w1 hb
    have h := refis_any (S0.bel hb) hW'
    rw [hq] at h
    exact h
  rw [hr] at HI
  clear hW hW' hr hq
  go_enter Try.func28, Try.ntmps28
  go_upto_region 1 with (fail)
  rw [zero_rec, ← hV]
  clear hV
  go_upto_region 3 with (first
    | (go_guarded; with_reducible (show wpList _ _ _ _ _ _))
    | (refine p_loadR rfl _ rfl w.heap.size rfl r (.slice a r.items.length c) A0 ?_)
    | (go_at_call 16; (with_reducible refine HI.out.mono ?_); rintro e w1 ⟨rfl, hb1⟩; have Q1 := Q0.below hb1 Q0.lt)
    | (go_guarded; refine o_loadR _ rfl (w.heap.size + 1) rfl q (.slice a2 q.items.length c2) Q1 ?_)
    | (go_at_call 16; (with_reducible refine (HJ.out _ hb1).mono ?_); rintro e w2 ⟨rfl, hb2⟩))
  have hb := rstep hb1 hb2
  have A2 := A0.below hb A0.lt
  have Q2 := Q0.below hb Q0.lt
  have Z2 := Z0.below hb Z0.lt
  have B2 := rstep B0 hb
  have T2 := T0.bel hb
  have S2 := S0.bel hb
  clear A0 Q0 Z0 B0 T0 S0 hb hb1 hb2 HI HJ Q1
  have h0 := H0.out
  have hz : decide ((0 : Int) < (r.items.length : Int)) = false := decide_eq_false (by omega)
  have hz2 : decide (0 < r.items.length) = false := decide_eq_false (by omega)
  clear h0
  have c1 : w2.cell? ⟨w.heap.size, 1, none⟩ = some (.slice a r.items.length c) := A2.cell 1
  have d1 : w2.cell? ⟨w.heap.size + 1, 1, none⟩ = some (.slice a2 q.items.length c2) := Q2.cell 1
  go_upto_region 4 with (fail)
  have HD := fun n => bel_drewN (Below.refl w2.heap.size w2) n
  go_quiet (fail)
  generalize hD : World.drewN w2 _ = w3
  have bD : Below w2.heap.size w2 w3 := hD ▸ HD _
  clear hD HD
  have A3 := A2.below bD A2.lt
  have Q3 := Q2.below bD Q2.lt
  have Z3 := Z2.below bD Z2.lt
  have T3 := T2.bel bD
  have S3 := S2.bel bD
  have B3 := rstep B2 bD
  clear c1 d1 hz hz2 H0 A2 Q2 Z2 T2 S2 B2 bD
  have c0 : w3.cell? ⟨w.heap.size, 0, none⟩ = some (.int .i64 r.kind) := A3.cell 0
  have d0 : w3.cell? ⟨w.heap.size + 1, 0, none⟩ = some (.int .i64 q.kind) := Q3.cell 0
  have m1 : w3.cell? ⟨w.heap.size + 1, 1, none⟩ = some (.slice a2 q.items.length c2) := Q3.cell 1
  have n1 : w3.cell? ⟨w.heap.size, 1, none⟩ = some (.slice a r.items.length c) := A3.cell 1
  have hlq := hf
  have hws : IntKind.i64.wrap ((r.items.length : Int) + (q.items.length : Int)) = (r.items.length : Int) + (q.items.length : Int) := by exact IntWalk.i64_in _ (by omega)
  have hd6 : (16 : Int) < (r.items.length : Int) + (q.items.length : Int) := by omega
  clear hf hlq T3 S3 A3 Q3
  rcases (by revert hm; simp [mayB] : r.kind = 1 ∨ r.kind = 5) with hk | hk <;> rcases (by revert hm2; simp [mayB] : q.kind = 1 ∨ q.kind = 5) with hk2 | hk2
  all_goals
    rw [hk] at c0
    rw [hk2] at d0
    clear hm hk hm2 hk2
    go_upto_region 9 with (fail)
    go_wp2_with (refine p_storeR rfl _ _ rfl (w.heap.size + 2) rfl zeroR (.slice none 0 0) rfl rfl zeroR (.slice none 0 0) Z3 ?_)
    exact bodyPost_ret (results_rec2 Try.results28 _ _ (w.heap.size + 2) _ _ _ rfl rfl (Z3.setRow _)) rfl ⟨rfl, bel_setRow B3 (by omega) _⟩
set_option maxHeartbeats 2000000 in
theorem refun_ok1 {r q : Rc} {u v : Value} {w : World} (hT : Told w u r.items) (hT' : Told w v q.items) (hW : r.Wf) (hW' : q.Wf) (hr : isR r = true) (hq : isR q = true) (hl : r.items.length ≤ 40) (hl2 : q.items.length ≤ 40) (h0 : r.items.length = 0) (hm : mayB r.kind = true) (hm2 : mayB q.kind = true) (hf : r.items.length + q.items.length ≤ 16) :
    Calls Try.prog 28 #[.agg (recC r u), .agg (recC q v)] w (TellsR w (leafR (r.items ++ q.items) q.nl q.nb) 0) := by
  have H0 := Lib.hid h0
  clear h0
  obtain ⟨a, c, rfl⟩ := told_shape hT
  obtain ⟨a2, c2, rfl⟩ := told_shape hT'
  obtain ⟨w1, h1⟩ : ∃ w1, w1 = w.alloc (.cells (recC r (.slice a r.items.length c)) 27) := ⟨_, rfl⟩
  obtain ⟨w2, h2⟩ : ∃ w2, w2 = w1.alloc (.cells (recC q (.slice a2 q.items.length c2)) 27) := ⟨_, rfl⟩
  obtain ⟨V, h3⟩ : ∃ V, V = w2.alloc (.cells (recC zeroR (.slice none 0 0)) 27) := ⟨_, rfl⟩
  have s1 : w1.heap.size = w.heap.size + 1 := by rw [h1]; simp
  have s2 : w2.heap.size = w.heap.size + 2 := by rw [h2]; simp [s1]
  have b1 : Below w.heap.size w w1 := h1 ▸ (Below.refl _ _).alloc (Nat.le_refl _) _
  have b2 : Below w.heap.size w w2 := h2 ▸ b1.alloc b1.size _
  have B0 : Below w.heap.size w V := h3 ▸ b2.alloc b2.size _
  have A0 : Blk V w.heap.size (recC r (.slice a r.items.length c)) 27 := by
    rw [h3, h2]; exact ((h1 ▸ Blk.new w _ _ : Blk w1 w.heap.size (recC r (.slice a r.items.length c)) 27).alloc _).alloc _
  have Q0 : Blk V (w.heap.size + 1) (recC q (.slice a2 q.items.length c2)) 27 := by
    rw [h3]; exact (s1 ▸ (h2 ▸ Blk.new w1 _ _ : Blk w2 w1.heap.size (recC q (.slice a2 q.items.length c2)) 27) : Blk w2 (w.heap.size + 1) (recC q (.slice a2 q.items.length c2)) 27).alloc _
  have Z0 : Blk V (w.heap.size + 2) (recC zeroR (.slice none 0 0)) 27 := s2 ▸ (h3 ▸ Blk.new w2 _ _ : Blk V w2.heap.size (recC zeroR (.slice none 0 0)) 27)
  have hV : V = (((w.alloc (.cells (recC r (.slice a r.items.length c)) 27)).alloc (.cells (recC q (.slice a2 q.items.length c2)) 27)).alloc (.cells (recC zeroR (.slice none 0 0)) 27)) := by rw [h3, h2, h1]
  have T0 := hT.bel B0
  have S0 := hT'.bel B0
  clear hT hT' h1 h2 h3 s1 s2 b1 b2
  have HI := Lib.hid (refis_any T0 hW)
  have HJ : Hid (∀ w1, Below V.heap.size V w1 → Calls Try.prog 16 #[.agg (recC q (.slice a2 q.items.length c2))] w1 fun e w' => e = .returned (.bool true) ∧ Below w1.heap.size w1 w') := by
    intro w1 hb
    have h := refis_any (S0.bel hb) hW'
    rw [hq] at h
    exact h
  rw [hr] at HI
  clear hW hW' hr hq
  go_enter Try.func28, Try.ntmps28
  go_upto_region 1 with (fail)
  rw [zero_rec, ← hV]
  clear hV
  go_upto_region 3 with (first
    | (go_guarded; with_reducible (show wpList _ _ _ _ _ _))
    | (refine p_loadR rfl _ rfl w.heap.size rfl r (.slice a r.items.length c) A0 ?_)
    | (go_at_call 16; (with_reducible refine HI.out.mono ?_); rintro e w1 ⟨rfl, hb1⟩; have Q1 := Q0.below hb1 Q0.lt)
    | (go_guarded; refine o_loadR _ rfl (w.heap.size + 1) rfl q (.slice a2 q.items.length c2) Q1 ?_)
    | (go_at_call 16; (with_reducible refine (HJ.out _ hb1).mono ?_); rintro e w2 ⟨rfl, hb2⟩))
  have hb := rstep hb1 hb2
  have A2 := A0.below hb A0.lt
  have Q2 := Q0.below hb Q0.lt
  have Z2 := Z0.below hb Z0.lt
  have B2 := rstep B0 hb
  have T2 := T0.bel hb
  have S2 := S0.bel hb
  clear A0 Q0 Z0 B0 T0 S0 hb hb1 hb2 HI HJ Q1
  have h0 := H0.out
  have hz : decide ((0 : Int) < (r.items.length : Int)) = false := decide_eq_false (by omega)
  have hz2 : decide (0 < r.items.length) = false := decide_eq_false (by omega)
  clear h0
  have c1 : w2.cell? ⟨w.heap.size, 1, none⟩ = some (.slice a r.items.length c) := A2.cell 1
  have d1 : w2.cell? ⟨w.heap.size + 1, 1, none⟩ = some (.slice a2 q.items.length c2) := Q2.cell 1
  go_upto_region 4 with (fail)
  have HD := fun n => bel_drewN (Below.refl w2.heap.size w2) n
  go_quiet (fail)
  generalize hD : World.drewN w2 _ = w3
  have bD : Below w2.heap.size w2 w3 := hD ▸ HD _
  clear hD HD
  have A3 := A2.below bD A2.lt
  have Q3 := Q2.below bD Q2.lt
  have Z3 := Z2.below bD Z2.lt
  have T3 := T2.bel bD
  have S3 := S2.bel bD
  have B3 := rstep B2 bD
  clear c1 d1 hz hz2 H0 A2 Q2 Z2 T2 S2 B2 bD
  have c0 : w3.cell? ⟨w.heap.size, 0, none⟩ = some (.int .i64 r.kind) := A3.cell 0
  have d0 : w3.cell? ⟨w.heap.size + 1, 0, none⟩ = some (.int .i64 q.kind) := Q3.cell 0
  have m1 : w3.cell? ⟨w.heap.size + 1, 1, none⟩ = some (.slice a2 q.items.length c2) := Q3.cell 1
  have n1 : w3.cell? ⟨w.heap.size, 1, none⟩ = some (.slice a r.items.length c) := A3.cell 1
  have hlq := hf
  have hws : IntKind.i64.wrap ((r.items.length : Int) + (q.items.length : Int)) = (r.items.length : Int) + (q.items.length : Int) := by exact IntWalk.i64_in _ (by omega)
  have hd6 : ¬ (16 : Int) < (r.items.length : Int) + (q.items.length : Int) := by omega
  have HLL : Hid (r.items.length + q.items.length = (r.items ++ q.items).length) := List.length_append.symm
  have HT3 := Lib.hid T3
  have HS3 := Lib.hid S3
  clear hlq T3 S3
  rcases (by revert hm; simp [mayB] : r.kind = 1 ∨ r.kind = 5) with hk | hk <;> rcases (by revert hm2; simp [mayB] : q.kind = 1 ∨ q.kind = 5) with hk2 | hk2
  all_goals
    rw [hk] at c0
    rw [hk2] at d0
    clear hm hk hm2 hk2
    go_upto_region 11 with (fail)
    go_upto_region 12 with (at_builtin; refine wpList_joinA rfl _ _ rfl w3.heap.size (.slice none 0 0) [] r.items 0 r.items.length rfl (World.ownsRow_nil _ _ _ _) _ rfl HT3.out (by omega) (Below.refl w3.heap.size w3) (Nat.le_refl _) ?_; intro v4 w4 hO4 hb4 hs4)
    rw [List.nil_append, Nat.zero_add] at hO4
    have S4 := HS3.out.bel hb4
    have Q4 := Q3.below hb4 Q3.lt
    have e1 : w4.cell? ⟨w.heap.size + 1, 1, none⟩ = some (.slice a2 q.items.length c2) := Q4.cell 1
    clear c0 d0 m1 n1 hws hd6
    go_upto_region 13 with (at_builtin; refine wpList_joinA rfl _ _ rfl w3.heap.size v4 r.items q.items r.items.length q.items.length rfl hO4 _ rfl S4 (by omega) hb4 hs4 ?_; intro v5 w5 hO5 hb5 hs5)
    rw [HLL.out] at hO5
    have T5 := told_own hO5
    have Q5 := Q3.below hb5 Q3.lt
    have Z5 := Z3.below hb5 Z3.lt
    have B5 := rstep B3 hb5
    obtain ⟨a5, c5, rfl⟩ := told_shape T5
    clear hO4 hb4 hs4 S4 Q4 e1 hO5 hb5 hs5 HLL HT3 HS3 A3 Q3 Z3 B3 hf
    generalize r.items ++ q.items = K at *
    generalize K.length = m at *
    go_wp2_with (first
      | (refine midL3 rfl _ rfl (w.heap.size + 1) rfl q _ Q5 ?_)
      | (refine p_storeR rfl _ _ rfl (w.heap.size + 2) rfl (leafR K q.nl q.nb) (.slice a5 m c5) rfl rfl zeroR (.slice none 0 0) Z5 ?_))
    exact bodyPost_ret (results_rec2 Try.results28 _ _ (w.heap.size + 2) _ _ _ rfl rfl (Z5.setRow _)) rfl ⟨_, rfl, told_setRow T5 Z5 (noIt_rec _ _) _, bel_setRow B5 (by omega) _⟩
set_option maxHeartbeats 2000000 in
theorem refun_ma2 {r q : Rc} {u v : Value} {w : World} (hT : Told w u r.items) (hT' : Told w v q.items) (hW : r.Wf) (hW' : q.Wf) (hr : isR r = true) (hq : isR q = true) (_hl : r.items.length ≤ 40) (_hl2 : q.items.length ≤ 40) (h0 : 0 < r.items.length) (h1 : q.items.length = 0) (hm : mayB r.kind = false) :
    Calls Try.prog 28 #[.agg (recC r u), .agg (recC q v)] w fun e w' => e = .returned (.tuple #[.agg (recC zeroR (.slice none 0 0)), .int .i64 13]) ∧ Below w.heap.size w w' := by
  have H0 := Lib.hid h0
  have H1 := Lib.hid h1
  clear h0 h1
  obtain ⟨a, c, rfl⟩ := told_shape hT
  obtain ⟨a2, c2, rfl⟩ := told_shape hT'
  obtain ⟨w1, h1⟩ : ∃ w1, w1 = w.alloc (.cells (recC r (.slice a r.items.length c)) 27) := ⟨_, rfl⟩
  obtain ⟨w2, h2⟩ : ∃ w2, w2 = w1.alloc (.cells (recC q (.slice a2 q.items.length c2)) 27) := ⟨_, rfl⟩
  obtain ⟨V, h3⟩ : ∃ V, V = w2.alloc (.cells (recC zeroR (.slice none 0 0)) 27) := ⟨_, rfl⟩
  have s1 : w1.heap.size = w.heap.size + 1 := by rw [h1]; simp
  have s2 : w2.heap.size = w.heap.size + 2 := by rw [h2]; simp [s1]
  have b1 : Below w.heap.size w w1 := h1 ▸ (Below.refl _ _).alloc (Nat.le_refl _) _
  have b2 : Below w.heap.size w w2 := h2 ▸ b1.alloc b1.size _
  have B0 : Below w.heap.size w V := h3 ▸ b2.alloc b2.size _
  have A0 : Blk V w.heap.size (recC r (.slice a r.items.length c)) 27 := by
    rw [h3, h2]; exact ((h1 ▸ Blk.new w _ _ : Blk w1 w.heap.size (recC r (.slice a r.items.length c)) 27).alloc _).alloc _
  have Q0 : Blk V (w.heap.size + 1) (recC q (.slice a2 q.items.length c2)) 27 := by
    rw [h3]; exact (s1 ▸ (h2 ▸ Blk.new w1 _ _ : Blk w2 w1.heap.size (recC q (.slice a2 q.items.length c2)) 27) : Blk w2 (w.heap.size + 1) (recC q (.slice a2 q.items.length c2)) 27).alloc _
  have Z0 : Blk V (w.heap.size + 2) (recC zeroR (.slice none 0 0)) 27 := s2 ▸ (h3 ▸ Blk.new w2 _ _ : Blk V w2.heap.size (recC zeroR (.slice none 0 0)) 27)
  have hV : V = (((w.alloc (.cells (recC r (.slice a r.items.length c)) 27)).alloc (.cells (recC q (.slice a2 q.items.length c2)) 27)).alloc (.cells (recC zeroR (.slice none 0 0)) 27)) := by rw [h3, h2, h1]
  have T0 := hT.bel B0
  have S0 := hT'.bel B0
  clear hT hT' h1 h2 h3 s1 s2 b1 b2
  have HI := Lib.hid (refis_any T0 hW)
  have HJ : Hid (∀ w1, Below V.heap.size V w1 → Calls Try.prog 16 #[.agg (recC q (.slice a2 q.items.length c2))] w1 fun e w' => e = .returned (.bool true) ∧ Below w1.heap.size w1 w') := by
    intro w1 hb
    have h := refis_any (S0.bel hb) hW'
    rw [hq] at h
    exact h
  rw [hr] at HI
  clear hW hW' hr hq
  go_enter Try.func28, Try.ntmps28
  go_upto_region 1 with (fail)
  rw [zero_rec, ← hV]
  clear hV
  go_upto_region 3 with (first
    | (go_guarded; with_reducible (show wpList _ _ _ _ _ _))
    | (refine p_loadR rfl _ rfl w.heap.size rfl r (.slice a r.items.length c) A0 ?_)
    | (go_at_call 16; (with_reducible refine HI.out.mono ?_); rintro e w1 ⟨rfl, hb1⟩; have Q1 := Q0.below hb1 Q0.lt)
    | (go_guarded; refine o_loadR _ rfl (w.heap.size + 1) rfl q (.slice a2 q.items.length c2) Q1 ?_)
    | (go_at_call 16; (with_reducible refine (HJ.out _ hb1).mono ?_); rintro e w2 ⟨rfl, hb2⟩))
  have hb := rstep hb1 hb2
  have A2 := A0.below hb A0.lt
  have Q2 := Q0.below hb Q0.lt
  have Z2 := Z0.below hb Z0.lt
  have B2 := rstep B0 hb
  have T2 := T0.bel hb
  have S2 := S0.bel hb
  clear A0 Q0 Z0 B0 T0 S0 hb hb1 hb2 HI HJ Q1
  have h0 := H0.out
  have h1 := H1.out
  have hz : decide ((0 : Int) < (r.items.length : Int)) = true := decide_eq_true (by omega)
  have hz2 : decide (0 < r.items.length) = true := decide_eq_true (by omega)
  have hy : decide ((0 : Int) < (q.items.length : Int)) = false := decide_eq_false (by omega)
  have hy2 : decide (0 < q.items.length) = false := decide_eq_false (by omega)
  clear h0 h1
  have c1 : w2.cell? ⟨w.heap.size, 1, none⟩ = some (.slice a r.items.length c) := A2.cell 1
  have d1 : w2.cell? ⟨w.heap.size + 1, 1, none⟩ = some (.slice a2 q.items.length c2) := Q2.cell 1
  go_upto_region 4 with (fail)
  have HD := fun n => bel_drewN (Below.refl w2.heap.size w2) n
  go_quiet (fail)
  generalize hD : World.drewN w2 _ = w3
  have bD : Below w2.heap.size w2 w3 := hD ▸ HD _
  clear hD HD
  have A3 := A2.below bD A2.lt
  have Q3 := Q2.below bD Q2.lt
  have Z3 := Z2.below bD Z2.lt
  have T3 := T2.bel bD
  have S3 := S2.bel bD
  have B3 := rstep B2 bD
  clear c1 d1 hz hz2 hy hy2 H0 H1 A2 Q2 Z2 T2 S2 B2 bD
  have c0 : w3.cell? ⟨w.heap.size, 0, none⟩ = some (.int .i64 r.kind) := A3.cell 0
  have d0 : w3.cell? ⟨w.heap.size + 1, 0, none⟩ = some (.int .i64 q.kind) := Q3.cell 0
  have k1 : (r.kind != 1) = true := by revert hm; simp [mayB] <;> omega
  have k5 : (r.kind != 5) = true := by revert hm; simp [mayB] <;> omega
  clear hm A3 Q3 T3 S3
  go_upto_region 7 with (fail)
  go_wp2_with (refine p_storeR rfl _ _ rfl (w.heap.size + 2) rfl zeroR (.slice none 0 0) rfl rfl zeroR (.slice none 0 0) Z3 ?_)
  exact bodyPost_ret (results_rec2 Try.results28 _ _ (w.heap.size + 2) _ _ _ rfl rfl (Z3.setRow _)) rfl ⟨rfl, bel_setRow B3 (by omega) _⟩
set_option maxHeartbeats 2000000 in
theorem refun_mb2 {r q : Rc} {u v : Value} {w : World} (hT : Told w u r.items) (hT' : Told w v q.items) (hW : r.Wf) (hW' : q.Wf) (hr : isR r = true) (hq : isR q = true) (_hl : r.items.length ≤ 40) (_hl2 : q.items.length ≤ 40) (h0 : 0 < r.items.length) (h1 : q.items.length = 0) (hm : mayB r.kind = true) (hm2 : mayB q.kind = false) :
    Calls Try.prog 28 #[.agg (recC r u), .agg (recC q v)] w fun e w' => e = .returned (.tuple #[.agg (recC zeroR (.slice none 0 0)), .int .i64 13]) ∧ Below w.heap.size w w' := by
  have H0 := Lib.hid h0
  have H1 := Lib.hid h1
  clear h0 h1
  obtain ⟨a, c, rfl⟩ := told_shape hT
  obtain ⟨a2, c2, rfl⟩ := told_shape hT'
  obtain ⟨w1, h1⟩ : ∃ w1, w1 = w.alloc (.cells (recC r (.slice a r.items.length c)) 27) := ⟨_, rfl⟩
  obtain ⟨w2, h2⟩ : ∃ w2, w2 = w1.alloc (.cells (recC q (.slice a2 q.items.length c2)) 27) := ⟨_, rfl⟩
  obtain ⟨V, h3⟩ : ∃ V, V = w2.alloc (.cells (recC zeroR (.slice none 0 0)) 27) := ⟨_, rfl⟩
  have s1 : w1.heap.size = w.heap.size + 1 := by rw [h1]; simp
  have s2 : w2.heap.size = w.heap.size + 2 := by rw [h2]; simp [s1]
  have b1 : Below w.heap.size w w1 := h1 ▸ (Below.refl _ _).alloc (Nat.le_refl _) _
  have b2 : Below w.heap.size w w2 := h2 ▸ b1.alloc b1.size _
  have B0 : Below w.heap.size w V := h3 ▸ b2.alloc b2.size _
  have A0 : Blk V w.heap.size (recC r (.slice a r.items.length c)) 27 := by
    rw [h3, h2]; exact ((h1 ▸ Blk.new w _ _ : Blk w1 w.heap.size (recC r (.slice a r.items.length c)) 27).alloc _).alloc _
  have Q0 : Blk V (w.heap.size + 1) (recC q (.slice a2 q.items.length c2)) 27 := by
    rw [h3]; exact (s1 ▸ (h2 ▸ Blk.new w1 _ _ : Blk w2 w1.heap.size (recC q (.slice a2 q.items.length c2)) 27) : Blk w2 (w.heap.size + 1) (recC q (.slice a2 q.items.length c2)) 27).alloc _
  have Z0 : Blk V (w.heap.size + 2) (recC zeroR (.slice none 0 0)) 27 := s2 ▸ (h3 ▸ Blk.new w2 _ _ : Blk V w2.heap.size (recC zeroR (.slice none 0 0)) 27)
  have hV : V = (((w.alloc (.cells (recC r (.slice a r.items.length c)) 27)).alloc (.cells (recC q (.slice a2 q.items.length c2)) 27)).alloc (.cells (recC zeroR (.slice none 0 0)) 27)) := by rw [h3, h2, h1]
  have T0 := hT.bel B0
  have S0 := hT'.bel B0
  clear hT hT' h1 h2 h3 s1 s2 b1 b2
  have HI := Lib.hid (refis_any T0 hW)
  have HJ : Hid (∀ w1, Below V.heap.size V w1 → Calls Try.prog 16 #[.agg (recC q (.slice a2 q.items.length c2))] w1 fun e w' => e = .returned (.bool true) ∧ Below w1.heap.size w1 w') := by
    intro w1 hb
    have h := refis_any (S0.bel hb) hW'
    rw [hq] at h
    exact h
  rw [hr] at HI
  clear hW hW' hr hq
  go_enter Try.func28, Try.ntmps28
  go_upto_region 1 with (fail)
  rw [zero_rec, ← hV]
  clear hV
  go_upto_region 3 with (first
    | (go_guarded; with_reducible (show wpList _ _ _ _ _ _))
    | (refine p_loadR rfl _ rfl w.heap.size rfl r (.slice a r.items.length c) A0 ?_)
    | (go_at_call 16; (with_reducible refine HI.out.mono ?_); rintro e w1 ⟨rfl, hb1⟩; have Q1 := Q0.below hb1 Q0.lt)
    | (go_guarded; refine o_loadR _ rfl (w.heap.size + 1) rfl q (.slice a2 q.items.length c2) Q1 ?_)
    | (go_at_call 16; (with_reducible refine (HJ.out _ hb1).mono ?_); rintro e w2 ⟨rfl, hb2⟩))
  have hb := rstep hb1 hb2
  have A2 := A0.below hb A0.lt
  have Q2 := Q0.below hb Q0.lt
  have Z2 := Z0.below hb Z0.lt
  have B2 := rstep B0 hb
  have T2 := T0.bel hb
  have S2 := S0.bel hb
  clear A0 Q0 Z0 B0 T0 S0 hb hb1 hb2 HI HJ Q1
  have h0 := H0.out
  have h1 := H1.out
  have hz : decide ((0 : Int) < (r.items.length : Int)) = true := decide_eq_true (by omega)
  have hz2 : decide (0 < r.items.length) = true := decide_eq_true (by omega)
  have hy : decide ((0 : Int) < (q.items.length : Int)) = false := decide_eq_false (by omega)
  have hy2 : decide (0 < q.items.length) = false := decide_eq_false (by omega)
  clear h0 h1
  have c1 : w2.cell? ⟨w.heap.size, 1, none⟩ = some (.slice a r.items.length c) := A2.cell 1
  have d1 : w2.cell? ⟨w.heap.size + 1, 1, none⟩ = some (.slice a2 q.items.length c2) := Q2.cell 1
  go_upto_region 4 with (fail)
  have HD := fun n => bel_drewN (Below.refl w2.heap.size w2) n
  go_quiet (fail)
  generalize hD : World.drewN w2 _ = w3
  have bD : Below w2.heap.size w2 w3 := hD ▸ HD _
  clear hD HD
  have A3 := A2.below bD A2.lt
  have Q3 := Q2.below bD Q2.lt
  have Z3 := Z2.below bD Z2.lt
  have T3 := T2.bel bD
  have S3 := S2.bel bD
  have B3 := rstep B2 bD
  clear c1 d1 hz hz2 hy hy2 H0 H1 A2 Q2 Z2 T2 S2 B2 bD
  have c0 : w3.cell? ⟨w.heap.size, 0, none⟩ = some (.int .i64 r.kind) := A3.cell 0
  have d0 : w3.cell? ⟨w.heap.size + 1, 0, none⟩ = some (.int .i64 q.kind) := Q3.cell 0
  have k1 : (q.kind != 1) = true := by revert hm2; simp [mayB] <;> omega
  have k5 : (q.kind != 5) = true := by revert hm2; simp [mayB] <;> omega
  clear hm2 A3 Q3 T3 S3
  rcases (by revert hm; simp [mayB] : r.kind = 1 ∨ r.kind = 5) with hk | hk
  all_goals
    rw [hk] at c0
    clear hm hk
    go_upto_region 7 with (fail)
    go_wp2_with (refine p_storeR rfl _ _ rfl (w.heap.size + 2) rfl zeroR (.slice none 0 0) rfl rfl zeroR (.slice none 0 0) Z3 ?_)
    exact bodyPost_ret (results_rec2 Try.results28 _ _ (w.heap.size + 2) _ _ _ rfl rfl (Z3.setRow _)) rfl ⟨rfl, bel_setRow B3 (by omega) _⟩
set_option maxHeartbeats 2000000 in
theorem refun_full2 {r q : Rc} {u v : Value} {w : World} (hT : Told w u r.items) (hT' : Told w v q.items) (hW : r.Wf) (hW' : q.Wf) (hr : isR r = true) (hq : isR q = true) (hl : r.items.length ≤ 40) (hl2 : q.items.length ≤ 40) (h0 : 0 < r.items.length) (h1 : q.items.length = 0) (hm : mayB r.kind = true) (hm2 : mayB q.kind = true) (hf : 16 < r.items.length + q.items.length) :
    Calls Try.prog 28 #[.agg (recC r u), .agg (recC q v)] w fun e w' => e = .returned (.tuple #[.agg (recC zeroR (.slice none 0 0)), .int .i64 12]) ∧ Below w.heap.size w w' := by
  have H0 := Lib.hid h0
  have H1 := Lib.hid h1
  clear h0 h1
  obtain ⟨a, c, rfl⟩ := told_shape hT
  obtain ⟨a2, c2, rfl⟩ := told_shape hT'
  obtain ⟨w1, h1⟩ : ∃ w1, w1 = w.alloc (.cells (recC r (.slice a r.items.length c)) 27) := ⟨_, rfl⟩
  obtain ⟨w2, h2⟩ : ∃ w2, w2 = w1.alloc (.cells (recC q (.slice a2 q.items.length c2)) 27) := ⟨_, rfl⟩
  obtain ⟨V, h3⟩ : ∃ V, V = w2.alloc (.cells (recC zeroR (.slice none 0 0)) 27) := ⟨_, rfl⟩
  have s1 : w1.heap.size = w.heap.size + 1 := by rw [h1]; simp
  have s2 : w2.heap.size = w.heap.size + 2 := by rw [h2]; simp [s1]
  have b1 : Below w.heap.size w w1 := h1 ▸ (Below.refl _ _).alloc (Nat.le_refl _) _
  have b2 : Below w.heap.size w w2 := h2 ▸ b1.alloc b1.size _
  have B0 : Below w.heap.size w V := h3 ▸ b2.alloc b2.size _
  have A0 : Blk V w.heap.size (recC r (.slice a r.items.length c)) 27 := by
    rw [h3, h2]; exact ((h1 ▸ Blk.new w _ _ : Blk w1 w.heap.size (recC r (.slice a r.items.length c)) 27).alloc _).alloc _
  have Q0 : Blk V (w.heap.size + 1) (recC q (.slice a2 q.items.length c2)) 27 := by
    rw [h3]; exact (s1 ▸ (h2 ▸ Blk.new w1 _ _ : Blk w2 w1.heap.size (recC q (.slice a2 q.items.length c2)) 27) : Blk w2 (w.heap.size + 1) (recC q (.slice a2 q.items.length c2)) 27).alloc _
  have Z0 : Blk V (w.heap.size + 2) (recC zeroR (.slice none 0 0)) 27 := s2 ▸ (h3 ▸ Blk.new w2 _ _ : Blk V w2.heap.size (recC zeroR (.slice none 0 0)) 27)
  have hV : V = (((w.alloc (.cells (recC r (.slice a r.items.length c)) 27)).alloc (.cells (recC q (.slice a2 q.items.length c2)) 27)).alloc (.cells (recC zeroR (.slice none 0 0)) 27)) := by rw [h3, h2, h1]
  have T0 := hT.bel B0
  have S0 := hT'.bel B0
  clear hT hT' h1 h2 h3 s1 s2 b1 b2
  have HI := Lib.hid (refis_any T0 hW)
  have HJ : Hid (∀ w1, Below V.heap.size V w1 → Calls Try.prog 16 #[.agg (recC q (.slice a2 q.items.length c2))] w1 fun e w' => e = .returned (.bool true) ∧ Below w1.heap.size w1 w') := by
    intro w1 hb
    have h := refis_any (S0.bel hb) hW'
    rw [hq] at h
    exact h
  rw [hr] at HI
  clear hW hW' hr hq
  go_enter Try.func28, Try.ntmps28
  go_upto_region 1 with (fail)
  rw [zero_rec, ← hV]
  clear hV
  go_upto_region 3 with (first
    | (go_guarded; with_reducible (show wpList _ _ _ _ _ _))
    | (refine p_loadR rfl _ rfl w.heap.size rfl r (.slice a r.items.length c) A0 ?_)
    | (go_at_call 16; (with_reducible refine HI.out.mono ?_); rintro e w1 ⟨rfl, hb1⟩; have Q1 := Q0.below hb1 Q0.lt)
    | (go_guarded; refine o_loadR _ rfl (w.heap.size + 1) rfl q (.slice a2 q.items.length c2) Q1 ?_)
    | (go_at_call 16; (with_reducible refine (HJ.out _ hb1).mono ?_); rintro e w2 ⟨rfl, hb2⟩))
  have hb := rstep hb1 hb2
  have A2 := A0.below hb A0.lt
  have Q2 := Q0.below hb Q0.lt
  have Z2 := Z0.below hb Z0.lt
  have B2 := rstep B0 hb
  have T2 := T0.bel hb
  have S2 := S0.bel hb
  clear A0 Q0 Z0 B0 T0 S0 hb hb1 hb2 HI HJ Q1
  have h0 := H0.out
  have h1 := H1.out
  have hz : decide ((0 : Int) < (r.items.length : Int)) = true := decide_eq_true (by omega)
  have hz2 : decide (0 < r.items.length) = true := decide_eq_true (by omega)
  have hy : decide ((0 : Int) < (q.items.length : Int)) = false := decide_eq_false (by omega)
  have hy2 : decide (0 < q.items.length) = false := decide_eq_false (by omega)
  clear h0 h1
  have c1 : w2.cell? ⟨w.heap.size, 1, none⟩ = some (.slice a r.items.length c) := A2.cell 1
  have d1 : w2.cell? ⟨w.heap.size + 1, 1, none⟩ = some (.slice a2 q.items.length c2) := Q2.cell 1
  go_upto_region 4 with (fail)
  have HD := fun n => bel_drewN (Below.refl w2.heap.size w2) n
  go_quiet (fail)
  generalize hD : World.drewN w2 _ = w3
  have bD : Below w2.heap.size w2 w3 := hD ▸ HD _
  clear hD HD
  have A3 := A2.below bD A2.lt
  have Q3 := Q2.below bD Q2.lt
  have Z3 := Z2.below bD Z2.lt
  have T3 := T2.bel bD
  have S3 := S2.bel bD
  have B3 := rstep B2 bD
  clear c1 d1 hz hz2 hy hy2 H0 H1 A2 Q2 Z2 T2 S2 B2 bD
  have c0 : w3.cell? ⟨w.heap.size, 0, none⟩ = some (.int .i64 r.kind) := A3.cell 0
  have d0 : w3.cell? ⟨w.heap.size + 1, 0, none⟩ = some (.int .i64 q.kind) := Q3.cell 0
  have m1 : w3.cell? ⟨w.heap.size + 1, 1, none⟩ = some (.slice a2 q.items.length c2) := Q3.cell 1
  have n1 : w3.cell? ⟨w.heap.size, 1, none⟩ = some (.slice a r.items.length c) := A3.cell 1
  have hlq := hf
  have hws : IntKind.i64.wrap ((r.items.length : Int) + (q.items.length : Int)) = (r.items.length : Int) + (q.items.length : Int) := by exact IntWalk.i64_in _ (by omega)
  have hd6 : (16 : Int) < (r.items.length : Int) + (q.items.length : Int) := by omega
  clear hf hlq T3 S3 A3 Q3
  rcases (by revert hm; simp [mayB] : r.kind = 1 ∨ r.kind = 5) with hk | hk <;> rcases (by revert hm2; simp [mayB] : q.kind = 1 ∨ q.kind = 5) with hk2 | hk2
  all_goals
    rw [hk] at c0
    rw [hk2] at d0
    clear hm hk hm2 hk2
    go_upto_region 9 with (fail)
    go_wp2_with (refine p_storeR rfl _ _ rfl (w.heap.size + 2) rfl zeroR (.slice none 0 0) rfl rfl zeroR (.slice none 0 0) Z3 ?_)
    exact bodyPost_ret (results_rec2 Try.results28 _ _ (w.heap.size + 2) _ _ _ rfl rfl (Z3.setRow _)) rfl ⟨rfl, bel_setRow B3 (by omega) _⟩
set_option maxHeartbeats 2000000 in
theorem refun_ok2 {r q : Rc} {u v : Value} {w : World} (hT : Told w u r.items) (hT' : Told w v q.items) (hW : r.Wf) (hW' : q.Wf) (hr : isR r = true) (hq : isR q = true) (hl : r.items.length ≤ 40) (hl2 : q.items.length ≤ 40) (h0 : 0 < r.items.length) (h1 : q.items.length = 0) (hm : mayB r.kind = true) (hm2 : mayB q.kind = true) (hf : r.items.length + q.items.length ≤ 16) :
    Calls Try.prog 28 #[.agg (recC r u), .agg (recC q v)] w (TellsR w (leafR (r.items ++ q.items) q.nl q.nb) 0) := by
  have H0 := Lib.hid h0
  have H1 := Lib.hid h1
  clear h0 h1
  obtain ⟨a, c, rfl⟩ := told_shape hT
  obtain ⟨a2, c2, rfl⟩ := told_shape hT'
  obtain ⟨w1, h1⟩ : ∃ w1, w1 = w.alloc (.cells (recC r (.slice a r.items.length c)) 27) := ⟨_, rfl⟩
  obtain ⟨w2, h2⟩ : ∃ w2, w2 = w1.alloc (.cells (recC q (.slice a2 q.items.length c2)) 27) := ⟨_, rfl⟩
  obtain ⟨V, h3⟩ : ∃ V, V = w2.alloc (.cells (recC zeroR (.slice none 0 0)) 27) := ⟨_, rfl⟩
  have s1 : w1.heap.size = w.heap.size + 1 := by rw [h1]; simp
  have s2 : w2.heap.size = w.heap.size + 2 := by rw [h2]; simp [s1]
  have b1 : Below w.heap.size w w1 := h1 ▸ (Below.refl _ _).alloc (Nat.le_refl _) _
  have b2 : Below w.heap.size w w2 := h2 ▸ b1.alloc b1.size _
  have B0 : Below w.heap.size w V := h3 ▸ b2.alloc b2.size _
  have A0 : Blk V w.heap.size (recC r (.slice a r.items.length c)) 27 := by
    rw [h3, h2]; exact ((h1 ▸ Blk.new w _ _ : Blk w1 w.heap.size (recC r (.slice a r.items.length c)) 27).alloc _).alloc _
  have Q0 : Blk V (w.heap.size + 1) (recC q (.slice a2 q.items.length c2)) 27 := by
    rw [h3]; exact (s1 ▸ (h2 ▸ Blk.new w1 _ _ : Blk w2 w1.heap.size (recC q (.slice a2 q.items.length c2)) 27) : Blk w2 (w.heap.size + 1) (recC q (.slice a2 q.items.length c2)) 27).alloc _
  have Z0 : Blk V (w.heap.size + 2) (recC zeroR (.slice none 0 0)) 27 := s2 ▸ (h3 ▸ Blk.new w2 _ _ : Blk V w2.heap.size (recC zeroR (.slice none 0 0)) 27)
  have hV : V = (((w.alloc (.cells (recC r (.slice a r.items.length c)) 27)).alloc (.cells (recC q (.slice a2 q.items.length c2)) 27)).alloc (.cells (recC zeroR (.slice none 0 0)) 27)) := by rw [h3, h2, h1]
  have T0 := hT.bel B0
  have S0 := hT'.bel B0
  clear hT hT' h1 h2 h3 s1 s2 b1 b2
  have HI := Lib.hid (refis_any T0 hW)
  have HJ : Hid (∀ w1, Below V.heap.size V w1 → Calls Try.prog 16 #[.agg (recC q (.slice a2 q.items.length c2))] w1 fun e w' => e = .returned (.bool true) ∧ Below w1.heap.size w1 w') := by
    intro w1 hb
    have h := refis_any (S0.bel hb) hW'
    rw [hq] at h
    exact h
  rw [hr] at HI
  clear hW hW' hr hq
  go_enter Try.func28, Try.ntmps28
  go_upto_region 1 with (fail)
  rw [zero_rec, ← hV]
  clear hV
  go_upto_region 3 with (first
    | (go_guarded; with_reducible (show wpList _ _ _ _ _ _))
    | (refine p_loadR rfl _ rfl w.heap.size rfl r (.slice a r.items.length c) A0 ?_)
    | (go_at_call 16; (with_reducible refine HI.out.mono ?_); rintro e w1 ⟨rfl, hb1⟩; have Q1 := Q0.below hb1 Q0.lt)
    | (go_guarded; refine o_loadR _ rfl (w.heap.size + 1) rfl q (.slice a2 q.items.length c2) Q1 ?_)
    | (go_at_call 16; (with_reducible refine (HJ.out _ hb1).mono ?_); rintro e w2 ⟨rfl, hb2⟩))
  have hb := rstep hb1 hb2
  have A2 := A0.below hb A0.lt
  have Q2 := Q0.below hb Q0.lt
  have Z2 := Z0.below hb Z0.lt
  have B2 := rstep B0 hb
  have T2 := T0.bel hb
  have S2 := S0.bel hb
  clear A0 Q0 Z0 B0 T0 S0 hb hb1 hb2 HI HJ Q1
  have h0 := H0.out
  have h1 := H1.out
  have hz : decide ((0 : Int) < (r.items.length : Int)) = true := decide_eq_true (by omega)
  have hz2 : decide (0 < r.items.length) = true := decide_eq_true (by omega)
  have hy : decide ((0 : Int) < (q.items.length : Int)) = false := decide_eq_false (by omega)
  have hy2 : decide (0 < q.items.length) = false := decide_eq_false (by omega)
  clear h0 h1
  have c1 : w2.cell? ⟨w.heap.size, 1, none⟩ = some (.slice a r.items.length c) := A2.cell 1
  have d1 : w2.cell? ⟨w.heap.size + 1, 1, none⟩ = some (.slice a2 q.items.length c2) := Q2.cell 1
  go_upto_region 4 with (fail)
  have HD := fun n => bel_drewN (Below.refl w2.heap.size w2) n
  go_quiet (fail)
  generalize hD : World.drewN w2 _ = w3
  have bD : Below w2.heap.size w2 w3 := hD ▸ HD _
  clear hD HD
  have A3 := A2.below bD A2.lt
  have Q3 := Q2.below bD Q2.lt
  have Z3 := Z2.below bD Z2.lt
  have T3 := T2.bel bD
  have S3 := S2.bel bD
  have B3 := rstep B2 bD
  clear c1 d1 hz hz2 hy hy2 H0 H1 A2 Q2 Z2 T2 S2 B2 bD
  have c0 : w3.cell? ⟨w.heap.size, 0, none⟩ = some (.int .i64 r.kind) := A3.cell 0
  have d0 : w3.cell? ⟨w.heap.size + 1, 0, none⟩ = some (.int .i64 q.kind) := Q3.cell 0
  have m1 : w3.cell? ⟨w.heap.size + 1, 1, none⟩ = some (.slice a2 q.items.length c2) := Q3.cell 1
  have n1 : w3.cell? ⟨w.heap.size, 1, none⟩ = some (.slice a r.items.length c) := A3.cell 1
  have hlq := hf
  have hws : IntKind.i64.wrap ((r.items.length : Int) + (q.items.length : Int)) = (r.items.length : Int) + (q.items.length : Int) := by exact IntWalk.i64_in _ (by omega)
  have hd6 : ¬ (16 : Int) < (r.items.length : Int) + (q.items.length : Int) := by omega
  have HLL : Hid (r.items.length + q.items.length = (r.items ++ q.items).length) := List.length_append.symm
  have HT3 := Lib.hid T3
  have HS3 := Lib.hid S3
  clear hlq T3 S3
  rcases (by revert hm; simp [mayB] : r.kind = 1 ∨ r.kind = 5) with hk | hk <;> rcases (by revert hm2; simp [mayB] : q.kind = 1 ∨ q.kind = 5) with hk2 | hk2
  all_goals
    rw [hk] at c0
    rw [hk2] at d0
    clear hm hk hm2 hk2
    go_upto_region 11 with (fail)
    go_upto_region 12 with (at_builtin; refine wpList_joinA rfl _ _ rfl w3.heap.size (.slice none 0 0) [] r.items 0 r.items.length rfl (World.ownsRow_nil _ _ _ _) _ rfl HT3.out (by omega) (Below.refl w3.heap.size w3) (Nat.le_refl _) ?_; intro v4 w4 hO4 hb4 hs4)
    rw [List.nil_append, Nat.zero_add] at hO4
    have S4 := HS3.out.bel hb4
    have Q4 := Q3.below hb4 Q3.lt
    have e1 : w4.cell? ⟨w.heap.size + 1, 1, none⟩ = some (.slice a2 q.items.length c2) := Q4.cell 1
    clear c0 d0 m1 n1 hws hd6
    go_upto_region 13 with (at_builtin; refine wpList_joinA rfl _ _ rfl w3.heap.size v4 r.items q.items r.items.length q.items.length rfl hO4 _ rfl S4 (by omega) hb4 hs4 ?_; intro v5 w5 hO5 hb5 hs5)
    rw [HLL.out] at hO5
    have T5 := told_own hO5
    have Q5 := Q3.below hb5 Q3.lt
    have Z5 := Z3.below hb5 Z3.lt
    have B5 := rstep B3 hb5
    obtain ⟨a5, c5, rfl⟩ := told_shape T5
    clear hO4 hb4 hs4 S4 Q4 e1 hO5 hb5 hs5 HLL HT3 HS3 A3 Q3 Z3 B3 hf
    generalize r.items ++ q.items = K at *
    generalize K.length = m at *
    go_wp2_with (first
      | (refine midL3 rfl _ rfl (w.heap.size + 1) rfl q _ Q5 ?_)
      | (refine p_storeR rfl _ _ rfl (w.heap.size + 2) rfl (leafR K q.nl q.nb) (.slice a5 m c5) rfl rfl zeroR (.slice none 0 0) Z5 ?_))
    exact bodyPost_ret (results_rec2 Try.results28 _ _ (w.heap.size + 2) _ _ _ rfl rfl (Z5.setRow _)) rfl ⟨_, rfl, told_setRow T5 Z5 (noIt_rec _ _) _, bel_setRow B5 (by omega) _⟩
set_option maxHeartbeats 2000000 in
theorem refun_ma3 {r q : Rc} {u v : Value} {w : World} (hT : Told w u r.items) (hT' : Told w v q.items) (hW : r.Wf) (hW' : q.Wf) (hr : isR r = true) (hq : isR q = true) (hl : r.items.length ≤ 40) (_hl2 : q.items.length ≤ 40) {p : Nat} {x y : It} (h0 : r.items.length = p + 1) (h1 : 0 < q.items.length) (hx : r.items[p]? = some x) (hy0 : q.items[0]? = some y) (hxy : x.1 < y.1) (hm : mayB r.kind = false) :
    Calls Try.prog 28 #[.agg (recC r u), .agg (recC q v)] w fun e w' => e = .returned (.tuple #[.agg (recC zeroR (.slice none 0 0)), .int .i64 13]) ∧ Below w.heap.size w w' := by
  have H0 := Lib.hid h0
  have H1 := Lib.hid h1
  have HX := Lib.hid hx
  have HY := Lib.hid hy0
  have HXY := Lib.hid hxy
  clear h0 h1 hx hy0 hxy
  obtain ⟨a, c, rfl⟩ := told_shape hT
  obtain ⟨a2, c2, rfl⟩ := told_shape hT'
  obtain ⟨w1, h1⟩ : ∃ w1, w1 = w.alloc (.cells (recC r (.slice a r.items.length c)) 27) := ⟨_, rfl⟩
  obtain ⟨w2, h2⟩ : ∃ w2, w2 = w1.alloc (.cells (recC q (.slice a2 q.items.length c2)) 27) := ⟨_, rfl⟩
  obtain ⟨V, h3⟩ : ∃ V, V = w2.alloc (.cells (recC zeroR (.slice none 0 0)) 27) := ⟨_, rfl⟩
  have s1 : w1.heap.size = w.heap.size + 1 := by rw [h1]; simp
  have s2 : w2.heap.size = w.heap.size + 2 := by rw [h2]; simp [s1]
  have b1 : Below w.heap.size w w1 := h1 ▸ (Below.refl _ _).alloc (Nat.le_refl _) _
  have b2 : Below w.heap.size w w2 := h2 ▸ b1.alloc b1.size _
  have B0 : Below w.heap.size w V := h3 ▸ b2.alloc b2.size _
  have A0 : Blk V w.heap.size (recC r (.slice a r.items.length c)) 27 := by
    rw [h3, h2]; exact ((h1 ▸ Blk.new w _ _ : Blk w1 w.heap.size (recC r (.slice a r.items.length c)) 27).alloc _).alloc _
  have Q0 : Blk V (w.heap.size + 1) (recC q (.slice a2 q.items.length c2)) 27 := by
    rw [h3]; exact (s1 ▸ (h2 ▸ Blk.new w1 _ _ : Blk w2 w1.heap.size (recC q (.slice a2 q.items.length c2)) 27) : Blk w2 (w.heap.size + 1) (recC q (.slice a2 q.items.length c2)) 27).alloc _
  have Z0 : Blk V (w.heap.size + 2) (recC zeroR (.slice none 0 0)) 27 := s2 ▸ (h3 ▸ Blk.new w2 _ _ : Blk V w2.heap.size (recC zeroR (.slice none 0 0)) 27)
  have hV : V = (((w.alloc (.cells (recC r (.slice a r.items.length c)) 27)).alloc (.cells (recC q (.slice a2 q.items.length c2)) 27)).alloc (.cells (recC zeroR (.slice none 0 0)) 27)) := by rw [h3, h2, h1]
  have T0 := hT.bel B0
  have S0 := hT'.bel B0
  clear hT hT' h1 h2 h3 s1 s2 b1 b2
  have HI := Lib.hid (refis_any T0 hW)
  have HJ : Hid (∀ w1, Below V.heap.size V w1 → Calls Try.prog 16 #[.agg (recC q (.slice a2 q.items.length c2))] w1 fun e w' => e = .returned (.bool true) ∧ Below w1.heap.size w1 w') := by
    intro w1 hb
    have h := refis_any (S0.bel hb) hW'
    rw [hq] at h
    exact h
  rw [hr] at HI
  clear hW hW' hr hq
  go_enter Try.func28, Try.ntmps28
  go_upto_region 1 with (fail)
  rw [zero_rec, ← hV]
  clear hV
  go_upto_region 3 with (first
    | (go_guarded; with_reducible (show wpList _ _ _ _ _ _))
    | (refine p_loadR rfl _ rfl w.heap.size rfl r (.slice a r.items.length c) A0 ?_)
    | (go_at_call 16; (with_reducible refine HI.out.mono ?_); rintro e w1 ⟨rfl, hb1⟩; have Q1 := Q0.below hb1 Q0.lt)
    | (go_guarded; refine o_loadR _ rfl (w.heap.size + 1) rfl q (.slice a2 q.items.length c2) Q1 ?_)
    | (go_at_call 16; (with_reducible refine (HJ.out _ hb1).mono ?_); rintro e w2 ⟨rfl, hb2⟩))
  have hb := rstep hb1 hb2
  have A2 := A0.below hb A0.lt
  have Q2 := Q0.below hb Q0.lt
  have Z2 := Z0.below hb Z0.lt
  have B2 := rstep B0 hb
  have T2 := T0.bel hb
  have S2 := S0.bel hb
  clear A0 Q0 Z0 B0 T0 S0 hb hb1 hb2 HI HJ Q1
  have h0 := H0.out
  have h1 := H1.out
  have hx := HX.out
  have hy0 := HY.out
  have hxy := HXY.out
  have hz : decide ((0 : Int) < (r.items.length : Int)) = true := decide_eq_true (by omega)
  have hz2 : decide (0 < r.items.length) = true := decide_eq_true (by omega)
  have hy : decide ((0 : Int) < (q.items.length : Int)) = true := decide_eq_true (by omega)
  have hy2 : decide (0 < q.items.length) = true := decide_eq_true (by omega)
  have hp8 : r.items.length ≤ 1000000 := by omega
  have hw1 : IntKind.i64.wrap ((r.items.length : Int) - 1) = (p : Int) := by rw [show (r.items.length : Int) - 1 = p by omega]; exact IntWalk.i64_in _ (by omega)
  have hb1 : (p : Int) < (r.items.length : Int) := by omega
  have hb1n : p < r.items.length := by omega
  have hb2 : (0 : Int) < (q.items.length : Int) := by omega
  obtain ⟨b5, o5, rfl, x1, _, _⟩ := told_at T2 hx
  obtain ⟨b6, o6, rfl, y1, _, _⟩ := told_at S2 hy0
  rw [Nat.zero_mul, Nat.add_zero] at y1
  have hd : decide (y.1 ≤ x.1) = false := by simp; omega
  have hdI : decide ((y.1 : Int) ≤ (x.1 : Int)) = false := by simp; omega
  clear h0 h1 hx hy0 hxy
  have c1 : w2.cell? ⟨w.heap.size, 1, none⟩ = some (.slice (some ⟨b5, o5, none⟩) r.items.length c) := A2.cell 1
  have d1 : w2.cell? ⟨w.heap.size + 1, 1, none⟩ = some (.slice (some ⟨b6, o6, none⟩) q.items.length c2) := Q2.cell 1
  go_upto_region 4 with (fail)
  have HD := fun n => bel_drewN (Below.refl w2.heap.size w2) n
  go_quiet (fail)
  generalize hD : World.drewN w2 _ = w3
  have bD : Below w2.heap.size w2 w3 := hD ▸ HD _
  clear hD HD
  have A3 := A2.below bD A2.lt
  have Q3 := Q2.below bD Q2.lt
  have Z3 := Z2.below bD Z2.lt
  have T3 := T2.bel bD
  have S3 := S2.bel bD
  have B3 := rstep B2 bD
  clear c1 d1 hz hz2 hy hy2 H0 H1 HX HY HXY hp8 hw1 hb1 hb1n hb2 x1 y1 hd hdI A2 Q2 Z2 T2 S2 B2 bD
  have c0 : w3.cell? ⟨w.heap.size, 0, none⟩ = some (.int .i64 r.kind) := A3.cell 0
  have d0 : w3.cell? ⟨w.heap.size + 1, 0, none⟩ = some (.int .i64 q.kind) := Q3.cell 0
  have k1 : (r.kind != 1) = true := by revert hm; simp [mayB] <;> omega
  have k5 : (r.kind != 5) = true := by revert hm; simp [mayB] <;> omega
  clear hm A3 Q3 T3 S3
  go_upto_region 7 with (fail)
  go_wp2_with (refine p_storeR rfl _ _ rfl (w.heap.size + 2) rfl zeroR (.slice none 0 0) rfl rfl zeroR (.slice none 0 0) Z3 ?_)
  exact bodyPost_ret (results_rec2 Try.results28 _ _ (w.heap.size + 2) _ _ _ rfl rfl (Z3.setRow _)) rfl ⟨rfl, bel_setRow B3 (by omega) _⟩
set_option maxHeartbeats 2000000 in
theorem refun_mb3 {r q : Rc} {u v : Value} {w : World} (hT : Told w u r.items) (hT' : Told w v q.items) (hW : r.Wf) (hW' : q.Wf) (hr : isR r = true) (hq : isR q = true) (hl : r.items.length ≤ 40) (_hl2 : q.items.length ≤ 40) {p : Nat} {x y : It} (h0 : r.items.length = p + 1) (h1 : 0 < q.items.length) (hx : r.items[p]? = some x) (hy0 : q.items[0]? = some y) (hxy : x.1 < y.1) (hm : mayB r.kind = true) (hm2 : mayB q.kind = false) :
    Calls Try.prog 28 #[.agg (recC r u), .agg (recC q v)] w fun e w' => e = .returned (.tuple #[.agg (recC zeroR (.slice none 0 0)), .int .i64 13]) ∧ Below w.heap.size w w' := by
  have H0 := Lib.hid h0
  have H1 := Lib.hid h1
  have HX := Lib.hid hx
  have HY := Lib.hid hy0
  have HXY := Lib.hid hxy
  clear h0 h1 hx hy0 hxy
  obtain ⟨a, c, rfl⟩ := told_shape hT
  obtain ⟨a2, c2, rfl⟩ := told_shape hT'
  obtain ⟨w1, h1⟩ : ∃ w1, w1 = w.alloc (.cells (recC r (.slice a r.items.length c)) 27) := ⟨_, rfl⟩
  obtain ⟨w2, h2⟩ : ∃ w2, w2 = w1.alloc (.cells (recC q (.slice a2 q.items.length c2)) 27) := ⟨_, rfl⟩
  obtain ⟨V, h3⟩ : ∃ V, V = w2.alloc (.cells (recC zeroR (.slice none 0 0)) 27) := ⟨_, rfl⟩
  have s1 : w1.heap.size = w.heap.size + 1 := by rw [h1]; simp
  have s2 : w2.heap.size = w.heap.size + 2 := by rw [h2]; simp [s1]
  have b1 : Below w.heap.size w w1 := h1 ▸ (Below.refl _ _).alloc (Nat.le_refl _) _
  have b2 : Below w.heap.size w w2 := h2 ▸ b1.alloc b1.size _
  have B0 : Below w.heap.size w V := h3 ▸ b2.alloc b2.size _
  have A0 : Blk V w.heap.size (recC r (.slice a r.items.length c)) 27 := by
    rw [h3, h2]; exact ((h1 ▸ Blk.new w _ _ : Blk w1 w.heap.size (recC r (.slice a r.items.length c)) 27).alloc _).alloc _
  have Q0 : Blk V (w.heap.size + 1) (recC q (.slice a2 q.items.length c2)) 27 := by
    rw [h3]; exact (s1 ▸ (h2 ▸ Blk.new w1 _ _ : Blk w2 w1.heap.size (recC q (.slice a2 q.items.length c2)) 27) : Blk w2 (w.heap.size + 1) (recC q (.slice a2 q.items.length c2)) 27).alloc _
  have Z0 : Blk V (w.heap.size + 2) (recC zeroR (.slice none 0 0)) 27 := s2 ▸ (h3 ▸ Blk.new w2 _ _ : Blk V w2.heap.size (recC zeroR (.slice none 0 0)) 27)
  have hV : V = (((w.alloc (.cells (recC r (.slice a r.items.length c)) 27)).alloc (.cells (recC q (.slice a2 q.items.length c2)) 27)).alloc (.cells (recC zeroR (.slice none 0 0)) 27)) := by rw [h3, h2, h1]
  have T0 := hT.bel B0
  have S0 := hT'.bel B0
  clear hT hT' h1 h2 h3 s1 s2 b1 b2
  have HI := Lib.hid (refis_any T0 hW)
  have HJ : Hid (∀ w1, Below V.heap.size V w1 → Calls Try.prog 16 #[.agg (recC q (.slice a2 q.items.length c2))] w1 fun e w' => e = .returned (.bool true) ∧ Below w1.heap.size w1 w') := by
    intro w1 hb
    have h := refis_any (S0.bel hb) hW'
    rw [hq] at h
    exact h
  rw [hr] at HI
  clear hW hW' hr hq
  go_enter Try.func28, Try.ntmps28
  go_upto_region 1 with (fail)
  rw [zero_rec, ← hV]
  clear hV
  go_upto_region 3 with (first
    | (go_guarded; with_reducible (show wpList _ _ _ _ _ _))
    | (refine p_loadR rfl _ rfl w.heap.size rfl r (.slice a r.items.length c) A0 ?_)
    | (go_at_call 16; (with_reducible refine HI.out.mono ?_); rintro e w1 ⟨rfl, hb1⟩; have Q1 := Q0.below hb1 Q0.lt)
    | (go_guarded; refine o_loadR _ rfl (w.heap.size + 1) rfl q (.slice a2 q.items.length c2) Q1 ?_)
    | (go_at_call 16; (with_reducible refine (HJ.out _ hb1).mono ?_); rintro e w2 ⟨rfl, hb2⟩))
  have hb := rstep hb1 hb2
  have A2 := A0.below hb A0.lt
  have Q2 := Q0.below hb Q0.lt
  have Z2 := Z0.below hb Z0.lt
  have B2 := rstep B0 hb
  have T2 := T0.bel hb
  have S2 := S0.bel hb
  clear A0 Q0 Z0 B0 T0 S0 hb hb1 hb2 HI HJ Q1
  have h0 := H0.out
  have h1 := H1.out
  have hx := HX.out
  have hy0 := HY.out
  have hxy := HXY.out
  have hz : decide ((0 : Int) < (r.items.length : Int)) = true := decide_eq_true (by omega)
  have hz2 : decide (0 < r.items.length) = true := decide_eq_true (by omega)
  have hy : decide ((0 : Int) < (q.items.length : Int)) = true := decide_eq_true (by omega)
  have hy2 : decide (0 < q.items.length) = true := decide_eq_true (by omega)
  have hp8 : r.items.length ≤ 1000000 := by omega
  have hw1 : IntKind.i64.wrap ((r.items.length : Int) - 1) = (p : Int) := by rw [show (r.items.length : Int) - 1 = p by omega]; exact IntWalk.i64_in _ (by omega)
  have hb1 : (p : Int) < (r.items.length : Int) := by omega
  have hb1n : p < r.items.length := by omega
  have hb2 : (0 : Int) < (q.items.length : Int) := by omega
  obtain ⟨b5, o5, rfl, x1, _, _⟩ := told_at T2 hx
  obtain ⟨b6, o6, rfl, y1, _, _⟩ := told_at S2 hy0
  rw [Nat.zero_mul, Nat.add_zero] at y1
  have hd : decide (y.1 ≤ x.1) = false := by simp; omega
  have hdI : decide ((y.1 : Int) ≤ (x.1 : Int)) = false := by simp; omega
  clear h0 h1 hx hy0 hxy
  have c1 : w2.cell? ⟨w.heap.size, 1, none⟩ = some (.slice (some ⟨b5, o5, none⟩) r.items.length c) := A2.cell 1
  have d1 : w2.cell? ⟨w.heap.size + 1, 1, none⟩ = some (.slice (some ⟨b6, o6, none⟩) q.items.length c2) := Q2.cell 1
  go_upto_region 4 with (fail)
  have HD := fun n => bel_drewN (Below.refl w2.heap.size w2) n
  go_quiet (fail)
  generalize hD : World.drewN w2 _ = w3
  have bD : Below w2.heap.size w2 w3 := hD ▸ HD _
  clear hD HD
  have A3 := A2.below bD A2.lt
  have Q3 := Q2.below bD Q2.lt
  have Z3 := Z2.below bD Z2.lt
  have T3 := T2.bel bD
  have S3 := S2.bel bD
  have B3 := rstep B2 bD
  clear c1 d1 hz hz2 hy hy2 H0 H1 HX HY HXY hp8 hw1 hb1 hb1n hb2 x1 y1 hd hdI A2 Q2 Z2 T2 S2 B2 bD
  have c0 : w3.cell? ⟨w.heap.size, 0, none⟩ = some (.int .i64 r.kind) := A3.cell 0
  have d0 : w3.cell? ⟨w.heap.size + 1, 0, none⟩ = some (.int .i64 q.kind) := Q3.cell 0
  have k1 : (q.kind != 1) = true := by revert hm2; simp [mayB] <;> omega
  have k5 : (q.kind != 5) = true := by revert hm2; simp [mayB] <;> omega
  clear hm2 A3 Q3 T3 S3
  rcases (by revert hm; simp [mayB] : r.kind = 1 ∨ r.kind = 5) with hk | hk
  all_goals
    rw [hk] at c0
    clear hm hk
    go_upto_region 7 with (fail)
    go_wp2_with (refine p_storeR rfl _ _ rfl (w.heap.size + 2) rfl zeroR (.slice none 0 0) rfl rfl zeroR (.slice none 0 0) Z3 ?_)
    exact bodyPost_ret (results_rec2 Try.results28 _ _ (w.heap.size + 2) _ _ _ rfl rfl (Z3.setRow _)) rfl ⟨rfl, bel_setRow B3 (by omega) _⟩
set_option maxHeartbeats 2000000 in
theorem refun_full3 {r q : Rc} {u v : Value} {w : World} (hT : Told w u r.items) (hT' : Told w v q.items) (hW : r.Wf) (hW' : q.Wf) (hr : isR r = true) (hq : isR q = true) (hl : r.items.length ≤ 40) (hl2 : q.items.length ≤ 40) {p : Nat} {x y : It} (h0 : r.items.length = p + 1) (h1 : 0 < q.items.length) (hx : r.items[p]? = some x) (hy0 : q.items[0]? = some y) (hxy : x.1 < y.1) (hm : mayB r.kind = true) (hm2 : mayB q.kind = true) (hf : 16 < r.items.length + q.items.length) :
    Calls Try.prog 28 #[.agg (recC r u), .agg (recC q v)] w fun e w' => e = .returned (.tuple #[.agg (recC zeroR (.slice none 0 0)), .int .i64 12]) ∧ Below w.heap.size w w' := by
  have H0 := Lib.hid h0
  have H1 := Lib.hid h1
  have HX := Lib.hid hx
  have HY := Lib.hid hy0
  have HXY := Lib.hid hxy
  clear h0 h1 hx hy0 hxy
  obtain ⟨a, c, rfl⟩ := told_shape hT
  obtain ⟨a2, c2, rfl⟩ := told_shape hT'
  obtain ⟨w1, h1⟩ : ∃ w1, w1 = w.alloc (.cells (recC r (.slice a r.items.length c)) 27) := ⟨_, rfl⟩
  obtain ⟨w2, h2⟩ : ∃ w2, w2 = w1.alloc (.cells (recC q (.slice a2 q.items.length c2)) 27) := ⟨_, rfl⟩
  obtain ⟨V, h3⟩ : ∃ V, V = w2.alloc (.cells (recC zeroR (.slice none 0 0)) 27) := ⟨_, rfl⟩
  have s1 : w1.heap.size = w.heap.size + 1 := by rw [h1]; simp
  have s2 : w2.heap.size = w.heap.size + 2 := by rw [h2]; simp [s1]
  have b1 : Below w.heap.size w w1 := h1 ▸ (Below.refl _ _).alloc (Nat.le_refl _) _
  have b2 : Below w.heap.size w w2 := h2 ▸ b1.alloc b1.size _
  have B0 : Below w.heap.size w V := h3 ▸ b2.alloc b2.size _
  have A0 : Blk V w.heap.size (recC r (.slice a r.items.length c)) 27 := by
    rw [h3, h2]; exact ((h1 ▸ Blk.new w _ _ : Blk w1 w.heap.size (recC r (.slice a r.items.length c)) 27).alloc _).alloc _
  have Q0 : Blk V (w.heap.size + 1) (recC q (.slice a2 q.items.length c2)) 27 := by
    rw [h3]; exact (s1 ▸ (h2 ▸ Blk.new w1 _ _ : Blk w2 w1.heap.size (recC q (.slice a2 q.items.length c2)) 27) : Blk w2 (w.heap.size + 1) (recC q (.slice a2 q.items.length c2)) 27).alloc _
  have Z0 : Blk V (w.heap.size + 2) (recC zeroR (.slice none 0 0)) 27 := s2 ▸ (h3 ▸ Blk.new w2 _ _ : Blk V w2.heap.size (recC zeroR (.slice none 0 0)) 27)
  have hV : V = (((w.alloc (.cells (recC r (.slice a r.items.length c)) 27)).alloc (.cells (recC q (.slice a2 q.items.length c2)) 27)).alloc (.cells (recC zeroR (.slice none 0 0)) 27)) := by rw [h3, h2, h1]
  have T0 := hT.bel B0
  have S0 := hT'.bel B0
  clear hT hT' h1 h2 h3 s1 s2 b1 b2
  have HI := Lib.hid (refis_any T0 hW)
  have HJ : Hid (∀ w1, Below V.heap.size V w1 → Calls Try.prog 16 #[.agg (recC q (.slice a2 q.items.length c2))] w1 fun e w' => e = .returned (.bool true) ∧ Below w1.heap.size w1 w') := by
    intro w1 hb
    have h := refis_any (S0.bel hb) hW'
    rw [hq] at h
    exact h
  rw [hr] at HI
  clear hW hW' hr hq
  go_enter Try.func28, Try.ntmps28
  go_upto_region 1 with (fail)
  rw [zero_rec, ← hV]
  clear hV
  go_upto_region 3 with (first
    | (go_guarded; with_reducible (show wpList _ _ _ _ _ _))
    | (refine p_loadR rfl _ rfl w.heap.size rfl r (.slice a r.items.length c) A0 ?_)
    | (go_at_call 16; (with_reducible refine HI.out.mono ?_); rintro e w1 ⟨rfl, hb1⟩; have Q1 := Q0.below hb1 Q0.lt)
    | (go_guarded; refine o_loadR _ rfl (w.heap.size + 1) rfl q (.slice a2 q.items.length c2) Q1 ?_)
    | (go_at_call 16; (with_reducible refine (HJ.out _ hb1).mono ?_); rintro e w2 ⟨rfl, hb2⟩))
  have hb := rstep hb1 hb2
  have A2 := A0.below hb A0.lt
  have Q2 := Q0.below hb Q0.lt
  have Z2 := Z0.below hb Z0.lt
  have B2 := rstep B0 hb
  have T2 := T0.bel hb
  have S2 := S0.bel hb
  clear A0 Q0 Z0 B0 T0 S0 hb hb1 hb2 HI HJ Q1
  have h0 := H0.out
  have h1 := H1.out
  have hx := HX.out
  have hy0 := HY.out
  have hxy := HXY.out
  have hz : decide ((0 : Int) < (r.items.length : Int)) = true := decide_eq_true (by omega)
  have hz2 : decide (0 < r.items.length) = true := decide_eq_true (by omega)
  have hy : decide ((0 : Int) < (q.items.length : Int)) = true := decide_eq_true (by omega)
  have hy2 : decide (0 < q.items.length) = true := decide_eq_true (by omega)
  have hp8 : r.items.length ≤ 1000000 := by omega
  have hw1 : IntKind.i64.wrap ((r.items.length : Int) - 1) = (p : Int) := by rw [show (r.items.length : Int) - 1 = p by omega]; exact IntWalk.i64_in _ (by omega)
  have hb1 : (p : Int) < (r.items.length : Int) := by omega
  have hb1n : p < r.items.length := by omega
  have hb2 : (0 : Int) < (q.items.length : Int) := by omega
  obtain ⟨b5, o5, rfl, x1, _, _⟩ := told_at T2 hx
  obtain ⟨b6, o6, rfl, y1, _, _⟩ := told_at S2 hy0
  rw [Nat.zero_mul, Nat.add_zero] at y1
  have hd : decide (y.1 ≤ x.1) = false := by simp; omega
  have hdI : decide ((y.1 : Int) ≤ (x.1 : Int)) = false := by simp; omega
  clear h0 h1 hx hy0 hxy
  have c1 : w2.cell? ⟨w.heap.size, 1, none⟩ = some (.slice (some ⟨b5, o5, none⟩) r.items.length c) := A2.cell 1
  have d1 : w2.cell? ⟨w.heap.size + 1, 1, none⟩ = some (.slice (some ⟨b6, o6, none⟩) q.items.length c2) := Q2.cell 1
  go_upto_region 4 with (fail)
  have HD := fun n => bel_drewN (Below.refl w2.heap.size w2) n
  go_quiet (fail)
  generalize hD : World.drewN w2 _ = w3
  have bD : Below w2.heap.size w2 w3 := hD ▸ HD _
  clear hD HD
  have A3 := A2.below bD A2.lt
  have Q3 := Q2.below bD Q2.lt
  have Z3 := Z2.below bD Z2.lt
  have T3 := T2.bel bD
  have S3 := S2.bel bD
  have B3 := rstep B2 bD
  clear c1 d1 hz hz2 hy hy2 H0 H1 HX HY HXY hp8 hw1 hb1 hb1n hb2 x1 y1 hd hdI A2 Q2 Z2 T2 S2 B2 bD
  have c0 : w3.cell? ⟨w.heap.size, 0, none⟩ = some (.int .i64 r.kind) := A3.cell 0
  have d0 : w3.cell? ⟨w.heap.size + 1, 0, none⟩ = some (.int .i64 q.kind) := Q3.cell 0
  have m1 : w3.cell? ⟨w.heap.size + 1, 1, none⟩ = some (.slice (some ⟨b6, o6, none⟩) q.items.length c2) := Q3.cell 1
  have n1 : w3.cell? ⟨w.heap.size, 1, none⟩ = some (.slice (some ⟨b5, o5, none⟩) r.items.length c) := A3.cell 1
  have hlq := hf
  have hws : IntKind.i64.wrap ((r.items.length : Int) + (q.items.length : Int)) = (r.items.length : Int) + (q.items.length : Int) := by exact IntWalk.i64_in _ (by omega)
  have hd6 : (16 : Int) < (r.items.length : Int) + (q.items.length : Int) := by omega
  clear hf hlq T3 S3 A3 Q3
  rcases (by revert hm; simp [mayB] : r.kind = 1 ∨ r.kind = 5) with hk | hk <;> rcases (by revert hm2; simp [mayB] : q.kind = 1 ∨ q.kind = 5) with hk2 | hk2
  all_goals
    rw [hk] at c0
    rw [hk2] at d0
    clear hm hk hm2 hk2
    go_upto_region 9 with (fail)
    go_wp2_with (refine p_storeR rfl _ _ rfl (w.heap.size + 2) rfl zeroR (.slice none 0 0) rfl rfl zeroR (.slice none 0 0) Z3 ?_)
    exact bodyPost_ret (results_rec2 Try.results28 _ _ (w.heap.size + 2) _ _ _ rfl rfl (Z3.setRow _)) rfl ⟨rfl, bel_setRow B3 (by omega) _⟩
set_option maxHeartbeats 2000000 in
theorem refun_ok3 {r q : Rc} {u v : Value} {w : World} (hT : Told w u r.items) (hT' : Told w v q.items) (hW : r.Wf) (hW' : q.Wf) (hr : isR r = true) (hq : isR q = true) (hl : r.items.length ≤ 40) (hl2 : q.items.length ≤ 40) {p : Nat} {x y : It} (h0 : r.items.length = p + 1) (h1 : 0 < q.items.length) (hx : r.items[p]? = some x) (hy0 : q.items[0]? = some y) (hxy : x.1 < y.1) (hm : mayB r.kind = true) (hm2 : mayB q.kind = true) (hf : r.items.length + q.items.length ≤ 16) :
    Calls Try.prog 28 #[.agg (recC r u), .agg (recC q v)] w (TellsR w (leafR (r.items ++ q.items) q.nl q.nb) 0) := by
  have H0 := Lib.hid h0
  have H1 := Lib.hid h1
  have HX := Lib.hid hx
  have HY := Lib.hid hy0
  have HXY := Lib.hid hxy
  clear h0 h1 hx hy0 hxy
  obtain ⟨a, c, rfl⟩ := told_shape hT
  obtain ⟨a2, c2, rfl⟩ := told_shape hT'
  obtain ⟨w1, h1⟩ : ∃ w1, w1 = w.alloc (.cells (recC r (.slice a r.items.length c)) 27) := ⟨_, rfl⟩
  obtain ⟨w2, h2⟩ : ∃ w2, w2 = w1.alloc (.cells (recC q (.slice a2 q.items.length c2)) 27) := ⟨_, rfl⟩
  obtain ⟨V, h3⟩ : ∃ V, V = w2.alloc (.cells (recC zeroR (.slice none 0 0)) 27) := ⟨_, rfl⟩
  have s1 : w1.heap.size = w.heap.size + 1 := by rw [h1]; simp
  have s2 : w2.heap.size = w.heap.size + 2 := by rw [h2]; simp [s1]
  have b1 : Below w.heap.size w w1 := h1 ▸ (Below.refl _ _).alloc (Nat.le_refl _) _
  have b2 : Below w.heap.size w w2 := h2 ▸ b1.alloc b1.size _
  have B0 : Below w.heap.size w V := h3 ▸ b2.alloc b2.size _
  have A0 : Blk V w.heap.size (recC r (.slice a r.items.length c)) 27 := by
    rw [h3, h2]; exact ((h1 ▸ Blk.new w _ _ : Blk w1 w.heap.size (recC r (.slice a r.items.length c)) 27).alloc _).alloc _
  have Q0 : Blk V (w.heap.size + 1) (recC q (.slice a2 q.items.length c2)) 27 := by
    rw [h3]; exact (s1 ▸ (h2 ▸ Blk.new w1 _ _ : Blk w2 w1.heap.size (recC q (.slice a2 q.items.length c2)) 27) : Blk w2 (w.heap.size + 1) (recC q (.slice a2 q.items.length c2)) 27).alloc _
  have Z0 : Blk V (w.heap.size + 2) (recC zeroR (.slice none 0 0)) 27 := s2 ▸ (h3 ▸ Blk.new w2 _ _ : Blk V w2.heap.size (recC zeroR (.slice none 0 0)) 27)
  have hV : V = (((w.alloc (.cells (recC r (.slice a r.items.length c)) 27)).alloc (.cells (recC q (.slice a2 q.items.length c2)) 27)).alloc (.cells (recC zeroR (.slice none 0 0)) 27)) := by rw [h3, h2, h1]
  have T0 := hT.bel B0
  have S0 := hT'.bel B0
  clear hT hT' h1 h2 h3 s1 s2 b1 b2
  have HI := Lib.hid (refis_any T0 hW)
  have HJ : Hid (∀ w1, Below V.heap.size V w1 → Calls Try.prog 16 #[.agg (recC q (.slice a2 q.items.length c2))] w1 fun e w' => e = .returned (.bool true) ∧ Below w1.heap.size w1 w') := by
    intro w1 hb
    have h := refis_any (S0.bel hb) hW'
    rw [hq] at h
    exact h
  rw [hr] at HI
  clear hW hW' hr hq
  go_enter Try.func28, Try.ntmps28
  go_upto_region 1 with (fail)
  rw [zero_rec, ← hV]
  clear hV
  go_upto_region 3 with (first
    | (go_guarded; with_reducible (show wpList _ _ _ _ _ _))
    | (refine p_loadR rfl _ rfl w.heap.size rfl r (.slice a r.items.length c) A0 ?_)
    | (go_at_call 16; (with_reducible refine HI.out.mono ?_); rintro e w1 ⟨rfl, hb1⟩; have Q1 := Q0.below hb1 Q0.lt)
    | (go_guarded; refine o_loadR _ rfl (w.heap.size + 1) rfl q (.slice a2 q.items.length c2) Q1 ?_)
    | (go_at_call 16; (with_reducible refine (HJ.out _ hb1).mono ?_); rintro e w2 ⟨rfl, hb2⟩))
  have hb := rstep hb1 hb2
  have A2 := A0.below hb A0.lt
  have Q2 := Q0.below hb Q0.lt
  have Z2 := Z0.below hb Z0.lt
  have B2 := rstep B0 hb
  have T2 := T0.bel hb
  have S2 := S0.bel hb
  clear A0 Q0 Z0 B0 T0 S0 hb hb1 hb2 HI HJ Q1
  have h0 := H0.out
  have h1 := H1.out
  have hx := HX.out
  have hy0 := HY.out
  have hxy := HXY.out
  have hz : decide ((0 : Int) < (r.items.length : Int)) = true := decide_eq_true (by omega)
  have hz2 : decide (0 < r.items.length) = true := decide_eq_true (by omega)
  have hy : decide ((0 : Int) < (q.items.length : Int)) = true := decide_eq_true (by omega)
  have hy2 : decide (0 < q.items.length) = true := decide_eq_true (by omega)
  have hp8 : r.items.length ≤ 1000000 := by omega
  have hw1 : IntKind.i64.wrap ((r.items.length : Int) - 1) = (p : Int) := by rw [show (r.items.length : Int) - 1 = p by omega]; exact IntWalk.i64_in _ (by omega)
  have hb1 : (p : Int) < (r.items.length : Int) := by omega
  have hb1n : p < r.items.length := by omega
  have hb2 : (0 : Int) < (q.items.length : Int) := by omega
  obtain ⟨b5, o5, rfl, x1, _, _⟩ := told_at T2 hx
  obtain ⟨b6, o6, rfl, y1, _, _⟩ := told_at S2 hy0
  rw [Nat.zero_mul, Nat.add_zero] at y1
  have hd : decide (y.1 ≤ x.1) = false := by simp; omega
  have hdI : decide ((y.1 : Int) ≤ (x.1 : Int)) = false := by simp; omega
  clear h0 h1 hx hy0 hxy
  have c1 : w2.cell? ⟨w.heap.size, 1, none⟩ = some (.slice (some ⟨b5, o5, none⟩) r.items.length c) := A2.cell 1
  have d1 : w2.cell? ⟨w.heap.size + 1, 1, none⟩ = some (.slice (some ⟨b6, o6, none⟩) q.items.length c2) := Q2.cell 1
  go_upto_region 4 with (fail)
  have HD := fun n => bel_drewN (Below.refl w2.heap.size w2) n
  go_quiet (fail)
  generalize hD : World.drewN w2 _ = w3
  have bD : Below w2.heap.size w2 w3 := hD ▸ HD _
  clear hD HD
  have A3 := A2.below bD A2.lt
  have Q3 := Q2.below bD Q2.lt
  have Z3 := Z2.below bD Z2.lt
  have T3 := T2.bel bD
  have S3 := S2.bel bD
  have B3 := rstep B2 bD
  clear c1 d1 hz hz2 hy hy2 H0 H1 HX HY HXY hp8 hw1 hb1 hb1n hb2 x1 y1 hd hdI A2 Q2 Z2 T2 S2 B2 bD
  have c0 : w3.cell? ⟨w.heap.size, 0, none⟩ = some (.int .i64 r.kind) := A3.cell 0
  have d0 : w3.cell? ⟨w.heap.size + 1, 0, none⟩ = some (.int .i64 q.kind) := Q3.cell 0
  have m1 : w3.cell? ⟨w.heap.size + 1, 1, none⟩ = some (.slice (some ⟨b6, o6, none⟩) q.items.length c2) := Q3.cell 1
  have n1 : w3.cell? ⟨w.heap.size, 1, none⟩ = some (.slice (some ⟨b5, o5, none⟩) r.items.length c) := A3.cell 1
  have hlq := hf
  have hws : IntKind.i64.wrap ((r.items.length : Int) + (q.items.length : Int)) = (r.items.length : Int) + (q.items.length : Int) := by exact IntWalk.i64_in _ (by omega)
  have hd6 : ¬ (16 : Int) < (r.items.length : Int) + (q.items.length : Int) := by omega
  have HLL : Hid (r.items.length + q.items.length = (r.items ++ q.items).length) := List.length_append.symm
  have HT3 := Lib.hid T3
  have HS3 := Lib.hid S3
  clear hlq T3 S3
  rcases (by revert hm; simp [mayB] : r.kind = 1 ∨ r.kind = 5) with hk | hk <;> rcases (by revert hm2; simp [mayB] : q.kind = 1 ∨ q.kind = 5) with hk2 | hk2
  all_goals
    rw [hk] at c0
    rw [hk2] at d0
    clear hm hk hm2 hk2
    go_upto_region 11 with (fail)
    go_upto_region 12 with (at_builtin; refine wpList_joinA rfl _ _ rfl w3.heap.size (.slice none 0 0) [] r.items 0 r.items.length rfl (World.ownsRow_nil _ _ _ _) _ rfl HT3.out (by omega) (Below.refl w3.heap.size w3) (Nat.le_refl _) ?_; intro v4 w4 hO4 hb4 hs4)
    rw [List.nil_append, Nat.zero_add] at hO4
    have S4 := HS3.out.bel hb4
    have Q4 := Q3.below hb4 Q3.lt
    have e1 : w4.cell? ⟨w.heap.size + 1, 1, none⟩ = some (.slice (some ⟨b6, o6, none⟩) q.items.length c2) := Q4.cell 1
    clear c0 d0 m1 n1 hws hd6
    go_upto_region 13 with (at_builtin; refine wpList_joinA rfl _ _ rfl w3.heap.size v4 r.items q.items r.items.length q.items.length rfl hO4 _ rfl S4 (by omega) hb4 hs4 ?_; intro v5 w5 hO5 hb5 hs5)
    rw [HLL.out] at hO5
    have T5 := told_own hO5
    have Q5 := Q3.below hb5 Q3.lt
    have Z5 := Z3.below hb5 Z3.lt
    have B5 := rstep B3 hb5
    obtain ⟨a5, c5, rfl⟩ := told_shape T5
    clear hO4 hb4 hs4 S4 Q4 e1 hO5 hb5 hs5 HLL HT3 HS3 A3 Q3 Z3 B3 hf
    generalize r.items ++ q.items = K at *
    generalize K.length = m at *
    go_wp2_with (first
      | (refine midL3 rfl _ rfl (w.heap.size + 1) rfl q _ Q5 ?_)
      | (refine p_storeR rfl _ _ rfl (w.heap.size + 2) rfl (leafR K q.nl q.nb) (.slice a5 m c5) rfl rfl zeroR (.slice none 0 0) Z5 ?_))
    exact bodyPost_ret (results_rec2 Try.results28 _ _ (w.heap.size + 2) _ _ _ rfl rfl (Z5.setRow _)) rfl ⟨_, rfl, told_setRow T5 Z5 (noIt_rec _ _) _, bel_setRow B5 (by omega) _⟩
/-- the document's Union -/
theorem refunion_any {r q : Rc} {u v : Value} {w : World} (hT : Told w u r.items) (hT' : Told w v q.items) (hW : r.Wf) (hW' : q.Wf) (hl : r.items.length ≤ 40) (hl2 : q.items.length ≤ 40) :
    Calls Try.prog 28 #[.agg (recC r u), .agg (recC q v)] w (TellsR w (unionV r q) (unionE r q)) := by
  have no : ∀ n : Nat, n ≠ 0 → unionE r q = n → (Calls Try.prog 28 #[.agg (recC r u), .agg (recC q v)] w fun e w' => e = .returned (.tuple #[.agg (recC zeroR (.slice none 0 0)), .int .i64 (n : Int)]) ∧ Below w.heap.size w w') →
      Calls Try.prog 28 #[.agg (recC r u), .agg (recC q v)] w (TellsR w (unionV r q) (unionE r q)) := by
    intro n h0 hE h
    have hV : unionV r q = zeroR := by unfold unionV; rw [hE, if_neg h0]
    rw [hE, hV]
    refine h.mono ?_
    rintro e w' ⟨he, hb⟩
    exact ⟨_, he, told_nil _, hb⟩
  cases hr : isR r
  · exact no 1 (by decide) (by simp [unionE, hr]) (refun_a hT hT' hW hW' hr)
  cases hq : isR q
  · exact no 1 (by decide) (by simp [unionE, hr, hq]) (refun_b hT hT' hW hW' hr hq)
  have sR := (isR_iff.1 hr).sorted
  have sQ := (isR_iff.1 hq).sorted
  have ok : unionE r q = 0 → Calls Try.prog 28 #[.agg (recC r u), .agg (recC q v)] w (TellsR w (leafR (r.items ++ q.items) q.nl q.nb) 0) → Calls Try.prog 28 #[.agg (recC r u), .agg (recC q v)] w (TellsR w (unionV r q) (unionE r q)) := by
    intro hE h
    have hV : unionV r q = leafR (r.items ++ q.items) q.nl q.nb := by unfold unionV; rw [hE, if_pos rfl]
    rw [hE, hV]
    exact h
  have rest : riseB (r.items ++ q.items) = true → 
      (mayB r.kind = false → Calls Try.prog 28 #[.agg (recC r u), .agg (recC q v)] w fun e w' => e = .returned (.tuple #[.agg (recC zeroR (.slice none 0 0)), .int .i64 13]) ∧ Below w.heap.size w w') →
      (mayB r.kind = true → mayB q.kind = false → Calls Try.prog 28 #[.agg (recC r u), .agg (recC q v)] w fun e w' => e = .returned (.tuple #[.agg (recC zeroR (.slice none 0 0)), .int .i64 13]) ∧ Below w.heap.size w w') →
      (mayB r.kind = true → mayB q.kind = true → 16 < r.items.length + q.items.length → Calls Try.prog 28 #[.agg (recC r u), .agg (recC q v)] w fun e w' => e = .returned (.tuple #[.agg (recC zeroR (.slice none 0 0)), .int .i64 12]) ∧ Below w.heap.size w w') →
      (mayB r.kind = true → mayB q.kind = true → r.items.length + q.items.length ≤ 16 → Calls Try.prog 28 #[.agg (recC r u), .agg (recC q v)] w (TellsR w (leafR (r.items ++ q.items) q.nl q.nb) 0)) →
      Calls Try.prog 28 #[.agg (recC r u), .agg (recC q v)] w (TellsR w (unionV r q) (unionE r q)) := by
    intro hs h1 h2 h3 h4
    cases hm : mayB r.kind
    · exact no 13 (by decide) (by simp [unionE, hr, hq, hs, hm]) (h1 hm)
    cases hm2 : mayB q.kind
    · exact no 13 (by decide) (by simp [unionE, hr, hq, hs, hm, hm2]) (h2 hm hm2)
    by_cases hf : 16 < r.items.length + q.items.length
    · exact no 12 (by decide) (by simp [unionE, hr, hq, hs, hm, hm2, hf]) (h3 hm hm2 hf)
    · exact ok (by simp [unionE, hr, hq, hs, hm, hm2, hf]) (h4 hm hm2 (by omega))
  by_cases h0 : r.items.length = 0
  · have hs : riseB (r.items ++ q.items) = true := by rw [List.eq_nil_of_length_eq_zero h0, List.nil_append]; exact riseB_iff.2 sQ
    exact rest hs (refun_ma1 hT hT' hW hW' hr hq hl hl2 h0) (refun_mb1 hT hT' hW hW' hr hq hl hl2 h0) (refun_full1 hT hT' hW hW' hr hq hl hl2 h0) (refun_ok1 hT hT' hW hW' hr hq hl hl2 h0)
  by_cases h1 : q.items.length = 0
  · have hs : riseB (r.items ++ q.items) = true := by rw [List.eq_nil_of_length_eq_zero h1, List.append_nil]; exact riseB_iff.2 sR
    exact rest hs (refun_ma2 hT hT' hW hW' hr hq hl hl2 (by omega) h1) (refun_mb2 hT hT' hW hW' hr hq hl hl2 (by omega) h1) (refun_full2 hT hT' hW hW' hr hq hl hl2 (by omega) h1) (refun_ok2 hT hT' hW hW' hr hq hl hl2 (by omega) h1)
  obtain ⟨p, hp⟩ : ∃ p, r.items.length = p + 1 := ⟨r.items.length - 1, by omega⟩
  obtain ⟨x, hx⟩ : ∃ x, r.items[p]? = some x := ⟨_, List.getElem?_eq_getElem (by omega)⟩
  obtain ⟨y, hy⟩ : ∃ y, q.items[0]? = some y := ⟨_, List.getElem?_eq_getElem (by omega)⟩
  have hre := rise_ends sR sQ hp hx hy
  by_cases hxy : x.1 < y.1
  · rw [decide_eq_true hxy] at hre
    exact rest hre (refun_ma3 hT hT' hW hW' hr hq hl hl2 hp (by omega) hx hy hxy) (refun_mb3 hT hT' hW hW' hr hq hl hl2 hp (by omega) hx hy hxy) (refun_full3 hT hT' hW hW' hr hq hl hl2 hp (by omega) hx hy hxy) (refun_ok3 hT hT' hW hW' hr hq hl hl2 hp (by omega) hx hy hxy)
  · rw [decide_eq_false hxy] at hre
    exact no 1 (by decide) (by simp [unionE, hr, hq, hre]) (refun_rise hT hT' hW hW' hr hq hl hl2 hp (by omega) hx hy hxy)
end Go.Proofs.Ytkicndengkcojaa
