/- Small ones of the document: no peer, a law's peer, rows and tables that are the same, tables that are big. -/
import Derived.Test.YtfajfmcabpmchaaTabNew
import Derived.Test.YtfajfmcabpmchaaTabNear
namespace Go.Proofs.Ytfajfmcabpmchaa
set_option maxRecDepth 100000
open Go Go.RowKit Go.Sort

theorem p_buildP {ops : Array Oper} {rest : List Oper} {o : Oper} {a : Act} {w : World} {Q : Exit → Act → World → Prop} (hgd : o.guard = none) (x y : Operand) (ho : o.op = .build 28 #[(0, x), (1, y)])
    (m : Int) (n : Nat) (hx : a.eval x = .int .i64 m) (hy : a.eval y = idv n) (h : wpList Try.prog ops Q rest (a.put o.dst (.agg (peA (m, n)))) w) : wpList Try.prog ops Q (o :: rest) a w := by
  refine wpList_plain hgd fun K hK => ?_
  have e := run_build (P := Try.prog) w 28 #[(0, .int .i64 m), (1, .agg (row (dig 20 n)))] _ (builtP m n)
  unfold Oper.wp execOp
  simp only [ho, List.map_toArray, List.map_cons, List.map_nil, hx, hy, Sem.run_bind, idv, e, Sem.run_pure, Result.andThen_ok]
  exact hK _ _ h
set_option maxHeartbeats 1000000 in
theorem same_self {w : World} {u v : Value} {L : List Pe} (hA : Lies w u L) (hB : Lies w v L) (hl : L.length ≤ 1000000) :
    Calls Try.prog 70 #[u, v] w fun e w' => e = .returned (.bool true) ∧ Below w.heap.size w w' := by
  obtain ⟨ua, uc, rfl⟩ := hA.form
  obtain ⟨va, vc, rfl⟩ := hB.form
  obtain ⟨n, hn⟩ : ∃ n, n = L.length := ⟨_, rfl⟩
  have HA := Lib.hid hA
  have HB := Lib.hid hB
  rw [← hn] at HA HB hl ⊢
  have HN := Lib.hid hn
  clear hA hB hn
  go_enter Try.func70, Try.ntmps70
  go_wp2
  go_loopw [5] (fun i wr => ∃ p : Nat, p ≤ n ∧ i = .int .i64 p ∧ Below w.heap.size w wr) (fun i _ => n - (intOf i).toNat)
  case atStart => exact ⟨0, by omega, rfl, Below.refl _ _⟩
  case round =>
    obtain ⟨p, hp, rfl, hBe⟩ := hrel
    have HBe := Lib.hid hBe
    clear hBe
    by_cases hlt : p < n
    · have hx := at_get (L := L) (i := p) (by have := HN.out; omega)
      obtain ⟨b1, o1, c1, e1, _, _, r1, _⟩ := (HA.out.bel HBe.out).at hx
      obtain ⟨b2, o2, c2, e2, _, _, r2, _⟩ := (HB.out.bel HBe.out).at hx
      rw [← HN.out] at e1 e2
      simp only [Value.slice.injEq, true_and] at e1 e2
      obtain ⟨rfl, rfl⟩ := e1
      obtain ⟨rfl, rfl⟩ := e2
      clear hx
      generalize (ad L p, pn L p) = x at *
      have hr : (!eqP x x) = false := by unfold eqP; simp [eqB_self]
      go_upto_region 6 with (fail)
      refine wp_region_quiet_below (by kernel_rfl) (by kernel_rfl) ?_
      repeat (first
        | go_big_quiet_skip
        | (go_big_quiet_want
           first
           | (first | (refine q_midP _ rfl _ _ rfl x (by with_reducible exact r1) ?_) | (refine q_midP _ rfl _ _ rfl x (by with_reducible exact r2) ?_) | (refine q_neqP _ _ rfl x x rfl rfl hr ?_)
              simp only [Act.put, List.setIfInBounds_toArray, List.set_cons_succ, List.set_cons_zero]
              go_big_quiet_on)
           | (go_big_quiet_op
              first | go_big_quiet_on | go_big_quiet_call (first | fail))))
      refine wpQuiet_nil ?_
      intro w2 hw'
      have hb2 := quiet_end hw'
      clear hw'
      have HB2 := Lib.hid (step HBe.out hb2)
      clear hb2 r1 r2
      go_wp2
      exact ⟨⟨p + 1, by omega, by go_num, HB2.out⟩, by simp [intOf]; omega⟩
    · obtain rfl : n = p := by omega
      go_wp2
      go_ret
      exact ⟨rfl, HBe.out⟩

theorem refnone_any (w : World) : Calls Try.prog 37 #[] w fun e w' => e = .returned (.agg (peA (-1, 0))) ∧ Below w.heap.size w w' := by
  have B0 := (Below.refl w.heap.size w).alloc (Nat.le_refl _) (.cells (peA (-1, 0)) 28)
  have X0 := Blk.new w (peA (-1, 0)) 28
  go_enter Try.func37, Try.ntmps37
  go_wp2_with (first | (refine p_buildNone rfl rfl ?_) | (refine p_storeP rfl rfl _ _ rfl (-1, 0) rfl rfl ?_))
  exact bodyPost_ret (results_cell_row Try.results37 _ _ w.heap.size 28 (peA (-1, 0)) (0, 0) _ rfl X0 Try.underlying28 rfl (by rw [peA_size]; exact sizeP)) rfl ⟨rfl, B0⟩
/-- a table that is too big for a law -/
def bigB (S L : List Pe) : Bool := decide (40 < S.length) || decide (200 < L.length)
theorem big_any {w : World} {s p : Pe} {u v : Value} {S L : List Pe} (hS : Lies w u S) (hF : Lies w v L) :
    Calls Try.prog 26 #[.agg (tabA s p u v)] w fun e w' => e = .returned (.bool (bigB S L)) ∧ Below w.heap.size w w' := by
  have B0 := (Below.refl w.heap.size w).alloc (Nat.le_refl _) (.cells (tabA s p u v) 43)
  have T0 : TB (w.alloc (.cells (tabA s p u v) 43)) w.heap.size s p u v := Blk.new ..
  obtain ⟨ua, uc, rfl⟩ := hS.form
  obtain ⟨va, vc, rfl⟩ := hF.form
  clear hS hF
  generalize hb : bigB S L = B
  have HBB := Lib.hid hb
  clear hb
  generalize hs : S.length = n at *
  generalize hl : L.length = m at *
  have HS := Lib.hid hs
  have HL := Lib.hid hl
  clear hs hl
  go_enter Try.func26, Try.ntmps26
  go_upto_region 1 with (fail)
  generalize w.alloc _ = W at *
  have c1 := T0.cu
  have c2 := T0.cv
  have HB := Lib.hid B0
  clear B0 T0
  by_cases h1 : 40 < n
  · have d1 : decide ((40 : Int) < (n : Int)) = true := decide_eq_true (by omega)
    have e : B = true := by rw [← HBB.out]; unfold bigB; rw [HS.out, decide_eq_true h1]; rfl
    subst e
    clear h1
    go_wp2_with go_big_skip
    go_ret
    exact ⟨rfl, HB.out⟩
  · have d1 : decide ((40 : Int) < (n : Int)) = false := decide_eq_false (by omega)
    by_cases h2 : 200 < m
    · have d2 : decide ((200 : Int) < (m : Int)) = true := decide_eq_true (by omega)
      have e : B = true := by rw [← HBB.out]; unfold bigB; rw [HL.out, decide_eq_true h2, Bool.or_true]
      subst e
      clear h1 h2
      go_wp2_with go_big_skip
      go_ret
      exact ⟨rfl, HB.out⟩
    · have d2 : decide ((200 : Int) < (m : Int)) = false := decide_eq_false (by omega)
      have e : B = false := by rw [← HBB.out]; unfold bigB; rw [HS.out, HL.out, decide_eq_false h1, decide_eq_false h2]; rfl
      subst e
      clear h1 h2
      go_wp2_with go_big_skip
      go_ret
      exact ⟨rfl, HB.out⟩
end Go.Proofs.Ytfajfmcabpmchaa
