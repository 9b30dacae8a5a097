/- What a finger holds. -/
import Derived.Test.YtkcljbolopephaaTabForget
namespace Go.Proofs.Ytkcljbolopephaa
set_option maxRecDepth 100000
open Go Go.RowKit Go.Sort

theorem p_eqlP {ops : Array Oper} {rest : List Oper} {o : Oper} {a : Act} {w : World} {Q : Exit → Act → World → Prop} (hgd : o.guard = none) (u v : Operand) (ho : o.op = .binOp .eql 25 u v 25)
    (x y : Pe) (hx : a.eval u = .agg (peA x)) (hy : a.eval v = .agg (peA y)) {r : Bool} (hr : eqP x y = r) (h : wpList Try.prog ops Q rest (a.put o.dst (.bool r)) w) : wpList Try.prog ops Q (o :: rest) a w :=
  wpList_plain hgd fun _ hK => o_eqlP u v ho x y hx hy hr (hK _ _ h)
/-- what a finger holds, and whether it does -/
def fngR (es hb : Bool) (x : Pe) (i k : Nat) : Pe × Bool := if es = true then ((-1, 0), true) else if i = k ∨ hb = true then (x, true) else ((-1, 0), false)
/-- three blocks: a table, a peer, and where a peer is put -/
structure BoxF (w W : World) (s p : Pe) (u v : Value) (x y : Pe) : Prop where
  bel : Below w.heap.size w W
  t : TB W w.heap.size s p u v
  x : PB W (w.heap.size + 1) x
  r : PB W (w.heap.size + 2) y
theorem BoxF.made (w : World) (s p : Pe) (u v : Value) (x : Pe) : BoxF w (((w.alloc (.cells (tabA s p u v) 28)).alloc (.cells (peA x) 25)).alloc (.cells (peA (0, 0)) 25)) s p u v x (0, 0) := by
  have h := Box2.made w s p u v x
  refine ⟨h.bel.alloc (by simp; omega) _, Blk.alloc h.tb _, Blk.alloc h.pb _, ?_⟩
  have := PB.zero ((w.alloc (.cells (tabA s p u v) 28)).alloc (.cells (peA x) 25))
  rwa [World.size_alloc, World.size_alloc] at this
theorem BoxF.bel2 {w W w' : World} {s p : Pe} {u v : Value} {x y : Pe} (h : BoxF w W s p u v x y) (hb : Below W.heap.size W w') : BoxF w w' s p u v x y := ⟨step h.bel hb, h.t.bel hb, h.x.bel hb, h.r.bel hb⟩
theorem pb_row {w : World} {g k : Nat} {x : Pe} (h : PB w g x) (cs : Array Value) (hne : g ≠ k) : PB (w.setRow k cs) g x := Blk.setRow_other h k cs hne
theorem BoxF.setx {w W : World} {s p : Pe} {u v : Value} {x y : Pe} (h : BoxF w W s p u v x y) (z : Pe) : BoxF w (W.setRow (w.heap.size + 1) (peA z)) s p u v z y :=
  ⟨bel_setRow h.bel (by omega) _, tb_row h.t _ (by omega), h.x.set z, pb_row h.r _ (by omega)⟩
set_option maxHeartbeats 8000000 in
theorem finger_core {w : World} (s p : Pe) (u v : Value) (x : Pe) (es hb : Bool) (i k : Nat) (hE : eqP x s = es) (hSt : Gives Try.prog 75 #[.agg (tabA s p u v), .int .i64 (i : Int)] (idv (s.2 + 2 ^ i)))
    (hH : Gives Try.prog 39 #[idv s.2, idv (s.2 + 2 ^ i), idv x.2] (.bool hb)) :
    Calls Try.prog 49 #[.agg (tabA s p u v), .int .i64 (i : Int), .int .i64 (k : Int), .agg (peA x)] w fun e w' => e = .returned (.tuple #[.agg (peA (fngR es hb x i k).1), .bool (fngR es hb x i k).2]) ∧ Below w.heap.size w w' := by
  have HX := Lib.hid (BoxF.made w s p u v x)
  have HNN := Lib.hid none_any
  generalize s.2 + 2 ^ i = z at *
  generalize hg : w.heap.size = g at *
  go_enter Try.func49, Try.ntmps49
  go_upto_region 1 with (fail)
  rw [peer_zero]
  generalize ((w.alloc _).alloc _).alloc _ = W at *
  have hx := HX.out
  have t0 := hx.t
  have x0 := hx.x
  have r0 := hx.r
  rw [hg] at t0 x0 r0
  have P1 := x0.range
  have P2 := t0.self
  have I1 := t0.sI
  have I2 := x0.I
  cases es
  · go_upto_region 2 with (first
      | (refine p_midP rfl _ rfl (g + 1) 0 rfl x P1 ?_)
      | (refine p_midP rfl _ rfl g 0 rfl s P2 ?_)
      | (refine p_eqlP rfl _ _ rfl x s rfl rfl hE ?_))
    by_cases hik : i = k
    · have e1 : ((i : Int) == (k : Int)) = true := by rw [beq_addr]; exact decide_eq_true (by omega)
      have hf : fngR false hb x i k = (x, true) := by unfold fngR; rw [if_neg (by simp), if_pos (.inl hik)]
      have HFR := Lib.hid hf
      clear hf P2 hx
      refine wp_region_quiet_below (by kernel_rfl) (by kernel_rfl) ?_
      repeat (first
        | go_big_quiet_skip
        | (go_big_quiet_want
           first
           | (first | (refine q_midT _ rfl g rfl t0 ?_) | (refine q_midI _ rfl g 1 rfl s.2 (by with_reducible exact I1) ?_) | (refine q_midI _ rfl (g + 1) 1 rfl x.2 (by with_reducible exact I2) ?_)
              simp only [Act.put, List.setIfInBounds_toArray, List.set_cons_succ, List.set_cons_zero]
              go_big_quiet_on)
           | (go_big_quiet_op
              first | go_big_quiet_on | go_big_quiet_call (first | with_reducible exact hSt.grown _ _ | with_reducible exact hH.grown _ _))))
      refine wpQuiet_nil ?_
      intro w2 hw'
      have hb2 := quiet_end hw'
      clear hw'
      have HX2 := Lib.hid (HX.out.bel2 hb2)
      have x2 := HX2.out.x
      have r2 := HX2.out.r
      rw [hg] at x2 r2
      have Q1 := x2.range
      clear hb2 t0 x0 r0 P1 I1 I2 hSt hH
      go_wp2_with (first
        | (refine p_midP rfl _ rfl (g + 1) 0 rfl x Q1 ?_)
        | (refine p_putO rfl _ _ rfl (g + 2) rfl x rfl r2 ?_))
      exact bodyPost_ret (results_P2 Try.results49 _ _ (g + 2) _ rfl rfl (r2.set x)) rfl ⟨by rw [HFR.out]; rfl, by rw [← hg]; exact bel_setRow HX2.out.bel (by omega) _⟩
    · have e1 : ((i : Int) == (k : Int)) = false := by rw [beq_addr]; exact decide_eq_false (by omega)
      cases hb
      · have hf : fngR false false x i k = ((-1, 0), false) := by unfold fngR; rw [if_neg (by simp), if_neg (by simpa using hik)]
        have HFR := Lib.hid hf
        clear hf P2 hx
        refine wp_region_quiet_below (by kernel_rfl) (by kernel_rfl) ?_
        repeat (first
          | go_big_quiet_skip
          | (go_big_quiet_want
             first
             | (first | (refine q_midT _ rfl g rfl t0 ?_) | (refine q_midI _ rfl g 1 rfl s.2 (by with_reducible exact I1) ?_) | (refine q_midI _ rfl (g + 1) 1 rfl x.2 (by with_reducible exact I2) ?_)
                simp only [Act.put, List.setIfInBounds_toArray, List.set_cons_succ, List.set_cons_zero]
                go_big_quiet_on)
             | (go_big_quiet_op
                first | go_big_quiet_on | go_big_quiet_call (first | with_reducible exact hSt.grown _ _ | with_reducible exact hH.grown _ _))))
        refine wpQuiet_nil ?_
        intro w2 hw'
        have hb2 := quiet_end hw'
        clear hw'
        have HX2 := Lib.hid (HX.out.bel2 hb2)
        have x2 := HX2.out.x
        have r2 := HX2.out.r
        rw [hg] at x2 r2
        have Q1 := x2.range
        clear hb2 t0 x0 r0 P1 I1 I2 hSt hH
        go_wp2_with (first
          | (go_at_call 42; (with_reducible refine (HNN.out _).mono ?_); rintro e w3 ⟨rfl, k3⟩; have HX3 := Lib.hid (HX2.out.bel2 k3); have r3 := HX3.out.r; rw [hg] at r3; clear k3)
          | (refine p_putO rfl _ _ rfl (g + 2) rfl (-1, 0) rfl r3 ?_))
        exact bodyPost_ret (results_P2 Try.results49 _ _ (g + 2) _ rfl rfl (r3.set (-1, 0))) rfl ⟨by rw [HFR.out]; rfl, by rw [← hg]; exact bel_setRow HX3.out.bel (by omega) _⟩
      · have hf : fngR false true x i k = (x, true) := by unfold fngR; rw [if_neg (by simp), if_pos (.inr rfl)]
        have HFR := Lib.hid hf
        clear hf P2 hx
        refine wp_region_quiet_below (by kernel_rfl) (by kernel_rfl) ?_
        repeat (first
          | go_big_quiet_skip
          | (go_big_quiet_want
             first
             | (first | (refine q_midT _ rfl g rfl t0 ?_) | (refine q_midI _ rfl g 1 rfl s.2 (by with_reducible exact I1) ?_) | (refine q_midI _ rfl (g + 1) 1 rfl x.2 (by with_reducible exact I2) ?_)
                simp only [Act.put, List.setIfInBounds_toArray, List.set_cons_succ, List.set_cons_zero]
                go_big_quiet_on)
             | (go_big_quiet_op
                first | go_big_quiet_on | go_big_quiet_call (first | with_reducible exact hSt.grown _ _ | with_reducible exact hH.grown _ _))))
        refine wpQuiet_nil ?_
        intro w2 hw'
        have hb2 := quiet_end hw'
        clear hw'
        have HX2 := Lib.hid (HX.out.bel2 hb2)
        have x2 := HX2.out.x
        have r2 := HX2.out.r
        rw [hg] at x2 r2
        have Q1 := x2.range
        clear hb2 t0 x0 r0 P1 I1 I2 hSt hH
        go_wp2_with (first
          | (refine p_midP rfl _ rfl (g + 1) 0 rfl x Q1 ?_)
          | (refine p_putO rfl _ _ rfl (g + 2) rfl x rfl r2 ?_))
        exact bodyPost_ret (results_P2 Try.results49 _ _ (g + 2) _ rfl rfl (r2.set x)) rfl ⟨by rw [HFR.out]; rfl, by rw [← hg]; exact bel_setRow HX2.out.bel (by omega) _⟩
  · have hf : fngR true hb x i k = ((-1, 0), true) := by unfold fngR; rw [if_pos rfl]
    have HFR := Lib.hid hf
    have hx2 := Lib.hid (hx.setx (-1, 0))
    clear hf hx I1 I2 hSt hH r0
    go_upto_region 3 with (first
      | (refine p_midP rfl _ rfl (g + 1) 0 rfl x P1 ?_)
      | (refine p_midP rfl _ rfl g 0 rfl s P2 ?_)
      | (refine p_eqlP rfl _ _ rfl x s rfl rfl hE ?_))
    go_upto_region 4 with (first
      | (go_at_call 42; (with_reducible refine (HNN.out _).mono ?_); rintro e w3 ⟨rfl, k3⟩; have HX3 := Lib.hid (HX.out.bel2 k3); have x3 := HX3.out.x; rw [hg] at x3; clear k3)
      | (refine p_putO rfl _ _ rfl (g + 1) rfl (-1, 0) rfl x3 ?_))
    have HX4 := Lib.hid (HX3.out.setx (-1, 0))
    rw [hg] at HX4
    clear x3 HX3 P1 P2 x0 t0 hx2
    generalize w3.setRow (g + 1) (peA (-1, 0)) = W4 at *
    have x4 := HX4.out.x
    have r4 := HX4.out.r
    rw [hg] at x4 r4
    have P4 := x4.range
    go_wp2_with (first
      | (refine p_midP rfl _ rfl (g + 1) 0 rfl (-1, 0) P4 ?_)
      | (refine p_putO rfl _ _ rfl (g + 2) rfl (-1, 0) rfl r4 ?_))
    exact bodyPost_ret (results_P2 Try.results49 _ _ (g + 2) _ rfl rfl (r4.set (-1, 0))) rfl ⟨by rw [HFR.out]; rfl, by rw [← hg]; exact bel_setRow HX4.out.bel (by omega) _⟩
theorem finger_any {w : World} (s p : Pe) (u v : Value) (x : Pe) (i k : Nat) (hi : i < 160) : Calls Try.prog 49 #[.agg (tabA s p u v), .int .i64 (i : Int), .int .i64 (k : Int), .agg (peA x)] w fun e w' =>
    e = .returned (.tuple #[.agg (peA (fngR (eqP x s) (halfB s.2 (s.2 + 2 ^ i) x.2) x i k).1), .bool (fngR (eqP x s) (halfB s.2 (s.2 + 2 ^ i) x.2) x i k).2]) ∧ Below w.heap.size w w' :=
  finger_core s p u v x _ _ i k rfl (fun w => start_any s p u v i hi w) fun w => half_all _ _ _ w
end Go.Proofs.Ytkcljbolopephaa
