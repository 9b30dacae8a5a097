/- Rows that are the same; the document's example. -/
import Derived.Test.YtmlejcfnnjnggaaDoorCirRefOf
import Derived.Test.YtmlejcfnnjnggaaDoorCirRef3
namespace Go.Proofs.YtmlejcfnnjnggaaDoor
set_option maxRecDepth 100000
open Go Go.RowKit Go.Sort

set_option maxHeartbeats 1000000 in
theorem same_self {w : World} {u v : Value} {L : List Pe} (hA : Lies w u L) (hB : Lies w v L) (hl : L.length ≤ 1000000) :
    Calls Tryd.prog 11 #[u, v] w fun e w' => e = .returned (.bool true) ∧ Below w.heap.size w w' := by
  obtain ⟨ua, uc, rfl⟩ := hA.form
  obtain ⟨va, vc, rfl⟩ := hB.form
  obtain ⟨n, hn⟩ : ∃ n, n = L.length := ⟨_, rfl⟩
  have HA := Lib.hid hA
  have HB := Lib.hid hB
  rw [← hn] at HA HB hl ⊢
  have HN := Lib.hid hn
  clear hA hB hn
  go_enter Tryd.func11, Tryd.ntmps11
  go_wp2
  go_loopw [5] (fun i wr => ∃ p : Nat, p ≤ n ∧ i = .int .i64 p ∧ Below w.heap.size w wr) (fun i _ => n - (intOf i).toNat)
  case atStart => exact ⟨0, by omega, rfl, Below.refl _ _⟩
  case round =>
    obtain ⟨p, hp, rfl, hBe⟩ := hrel
    have HBe := Lib.hid hBe
    clear hBe
    by_cases hlt : p < n
    · have hx := at_get (L := L) (i := p) (by have := HN.out; omega)
      obtain ⟨b1, o1, c1, e1, _, _, r1, _⟩ := (HA.out.bel HBe.out).at hx
      obtain ⟨b2, o2, c2, e2, _, _, r2, _⟩ := (HB.out.bel HBe.out).at hx
      rw [← HN.out] at e1 e2
      simp only [Value.slice.injEq, true_and] at e1 e2
      obtain ⟨rfl, rfl⟩ := e1
      obtain ⟨rfl, rfl⟩ := e2
      clear hx
      generalize (ad L p, pn L p) = x at *
      have hr : (!eqP x x) = false := by unfold eqP; simp [eqB_self]
      go_upto_region 6 with (fail)
      refine wp_region_quiet_below (by kernel_rfl) (by kernel_rfl) ?_
      repeat (first
        | go_big_quiet_skip
        | (go_big_quiet_want
           first
           | (first | (refine q_midP _ rfl _ _ rfl x (by with_reducible exact r1) ?_) | (refine q_midP _ rfl _ _ rfl x (by with_reducible exact r2) ?_) | (refine q_neqP _ _ rfl x x rfl rfl hr ?_)
              simp only [Act.put, List.setIfInBounds_toArray, List.set_cons_succ, List.set_cons_zero]
              go_big_quiet_on)
           | (go_big_quiet_op
              first | go_big_quiet_on | go_big_quiet_call (first | fail))))
      refine wpQuiet_nil ?_
      intro w2 hw'
      have hb2 := quiet_end hw'
      clear hw'
      have HB2 := Lib.hid (step HBe.out hb2)
      clear hb2 r1 r2
      go_wp2
      exact ⟨⟨p + 1, by omega, by go_num, HB2.out⟩, by simp [intOf]; omega⟩
    · obtain rfl : n = p := by omega
      go_wp2
      go_ret
      exact ⟨rfl, HBe.out⟩
set_option maxHeartbeats 1000000 in
theorem ints_self {w : World} {u v : Value} {A : List Int} (hA : Nums w u A) (hB : Nums w v A) (hl : A.length ≤ 1000000) :
    Calls Tryd.prog 22 #[u, v] w fun e w' => e = .returned (.bool true) ∧ Below w.heap.size w w' := by
  obtain ⟨n, hn⟩ : ∃ n, n = A.length := ⟨_, rfl⟩
  have HN := Lib.hid hn
  by_cases h0 : 0 < A.length
  · obtain ⟨b1, o1, c1, rfl, r1, l1⟩ := hA.some h0
    obtain ⟨b2, o2, c2, rfl, r2, l2⟩ := hB.some h0
    have HA := Lib.hid r1
    have HB := Lib.hid r2
    rw [← hn] at hl h0 ⊢
    clear hA hB hn r1 r2
    go_enter Tryd.func22, Tryd.ntmps22
    go_wp2
    go_loopw [5] (fun kv wr => ∃ p : Nat, p ≤ n ∧ kv = .int .i64 p ∧ Below w.heap.size w wr) (fun kv _ => n - (intOf kv).toNat)
    case atStart => exact ⟨0, by omega, rfl, Below.refl _ _⟩
    case round =>
      obtain ⟨p, hp, rfl, hBe⟩ := hrel
      have HBe := Lib.hid hBe
      clear hBe
      by_cases hlt : p < n
      · have d1 : wr.cell? ⟨b1, o1 + p, none⟩ = some (.int .i64 (A.getD p 0)) := nums_cell (range_bel HA.out HBe.out l1) (by have := HN.out; omega)
        have d2 : wr.cell? ⟨b2, o2 + p, none⟩ = some (.int .i64 (A.getD p 0)) := nums_cell (range_bel HB.out HBe.out l2) (by have := HN.out; omega)
        have HB2 := Lib.hid (step HBe.out (drew_bel wr))
        generalize A.getD p 0 = x at *
        go_wp2
        go_region
        go_wp2
        exact ⟨⟨p + 1, by omega, by go_num, HB2.out⟩, by simp [intOf]; omega⟩
      · obtain rfl : n = p := by omega
        go_wp2
        go_ret
        exact ⟨rfl, HBe.out⟩
  · obtain ⟨ua, uc, rfl⟩ := hA.form
    obtain ⟨va, vc, rfl⟩ := hB.form
    have hz : A.length = 0 := by omega
    rw [hz]
    go_enter Tryd.func22, Tryd.ntmps22
    go_wp2
    refine wp_loop_rounds 1 ?_
    rw [rounds_succ]
    go_wp2
    go_ret
    exact ⟨rfl, Below.refl _ _⟩

/-! the document's example -/
def T3 : List Pe := [(1, 10), (2, 20), (3, 30)]
theorem circ3 : Circ T3 := by decide
theorem wf3 : Wf T3 := by
  intro x hx
  have : ∀ y ∈ T3, decide (y.2 < 256 ^ 20) = true := by decide +kernel
  exact of_decide_eq_true (this x hx)
theorem small10 (w : World) : Calls Tryd.prog 36 #[.int .i64 10] w fun e w' => e = .returned (idv 10) ∧ Below w.heap.size w w' := small_all 10 w (by omega) (by decide +kernel)
theorem small20 (w : World) : Calls Tryd.prog 36 #[.int .i64 20] w fun e w' => e = .returned (idv 20) ∧ Below w.heap.size w w' := small_all 20 w (by omega) (by decide +kernel)
theorem small30 (w : World) : Calls Tryd.prog 36 #[.int .i64 30] w fun e w' => e = .returned (idv 30) ∧ Below w.heap.size w w' := small_all 30 w (by omega) (by decide +kernel)
theorem small21 (w : World) : Calls Tryd.prog 36 #[.int .i64 21] w fun e w' => e = .returned (idv 21) ∧ Below w.heap.size w w' := small_all 21 w (by omega) (by decide +kernel)
theorem small31 (w : World) : Calls Tryd.prog 36 #[.int .i64 31] w fun e w' => e = .returned (idv 31) ∧ Below w.heap.size w w' := small_all 31 w (by omega) (by decide +kernel)
theorem small25 (w : World) : Calls Tryd.prog 36 #[.int .i64 25] w fun e w' => e = .returned (idv 25) ∧ Below w.heap.size w w' := small_all 25 w (by omega) (by decide +kernel)
theorem M_big (n : Nat) (h : n < 1000) : n < M := by
  have : (1000 : Nat) ≤ M := of_decide_eq_true (by decide +kernel : decide ((1000 : Nat) ≤ 256 ^ 20) = true)
  omega
theorem three_any (w : World) : Calls Tryd.prog 35 #[] w fun e w' => ∃ g, e = .returned (.slice (some ⟨g, 0, none⟩) 3 3) ∧ Lies w' (.slice (some ⟨g, 0, none⟩) 3 3) T3 ∧ Below w.heap.size w w' := by
  go_enter Tryd.func35, Tryd.ntmps35
  go_wp2_with (first
    | (go_at_call 36; (with_reducible refine (small10 _).mono ?_); rintro e w1 ⟨rfl, b1⟩)
    | (go_at_call 36; (with_reducible refine (small20 _).mono ?_); rintro e w2 ⟨rfl, b2⟩)
    | (go_at_call 36; (with_reducible refine (small30 _).mono ?_); rintro e w3 ⟨rfl, b3⟩)
    | (refine p_buildP rfl _ _ rfl 1 10 rfl rfl ?_)
    | (refine p_buildP rfl _ _ rfl 2 20 rfl rfl ?_)
    | (refine p_buildP rfl _ _ rfl 3 30 rfl rfl ?_)
    | (refine p_slice3 rfl _ _ _ rfl (1, 10) (2, 20) (3, 30) rfl rfl rfl ?_))
  go_ret
  have B := step (step b1 b2) b3
  refine ⟨w3.heap.size, rfl, .inr ⟨w3.heap.size, 0, 3, rfl, Nat.le_refl _, ?_⟩, B.alloc B.size _⟩
  exact blk_range (Blk.new w3 (flat T3).toArray 43)
theorem owner3 (id r : Nat) (h : id < 1000) (hr : ownN T3 id = r) {w : World} {v : Value} (hL : Lies w v T3) : Calls Tryd.prog 14 #[v, idv id] w fun e w' => e = .returned (.tuple #[.int .i64 (r : Int), .int .i64 0]) ∧ Below w.heap.size w w' := by
  rw [← hr]; exact Owner_yes id hL wf3 (M_big id h) circ3
theorem copies3 {w : World} {v : Value} (hL : Lies w v T3) : Calls Tryd.prog 16 #[v, idv 25, .int .i64 2] w fun e w' => ∃ u, e = .returned (.tuple #[u, .int .i64 0]) ∧ Nums w' u [2, 0] ∧ Below w.heap.size w w' := by
  refine (Copies_yes 25 2 hL wf3 (M_big 25 (by omega)) circ3 (by omega) (by omega)).mono ?_
  rintro e w' ⟨u, rfl, h, b⟩
  exact ⟨u, rfl, own_nums h, b⟩
theorem of575 {w : World} {v : Value} (hN : Nums w v [5, 7, 5]) (hG : Glob w) : Calls Tryd.prog 8 #[v] w fun e w' => e = .returned (.tuple #[.slice none 0 0, .int .i64 9]) ∧ Below w.heap.size w w' := by
  refine (of_any hN hG).mono ?_
  rintro e w' ⟨hA, hb⟩
  refine ⟨?_, hb⟩
  have hg : Good [5, 7, 5] := by
    intro j hj
    match j, hj with
    | 0, _ => decide
    | 1, _ => decide
    | 2, _ => decide
  cases hA with
  | size h he => exact absurd (by decide) h
  | arg h g he => exact absurd hg g
  | twice h g k hk hd hk2 he => exact he
  | ok h g hd v' he own =>
    have I := inv_all hg 2 (by decide) fun j hj => hd j (by simp; omega)
    have h1 := dup_of I (j := 0) (by omega) rfl
    have h2 := hd 2 (by decide)
    rw [h1] at h2
    exact absurd h2 (by simp)
theorem lit_nums (w : World) (A : List Int) (cs : Array Value) (h : cs.toList = ints A) : Nums (w.alloc (.cells cs 3)) (.slice (some ⟨w.heap.size, 0, none⟩) A.length A.length) A := by
  refine .inr ⟨w.heap.size, 0, A.length, rfl, ?_⟩
  rw [← h]
  exact blk_range (Blk.new w cs 3)
theorem p_eqlP {ops : Array Oper} {rest : List Oper} {o : Oper} {a : Act} {w : World} {Q : Exit → Act → World → Prop} (hgd : o.guard = none) (u v : Operand) (ho : o.op = .binOp .eql 43 u v 43)
    (x y : Pe) (hx : a.eval u = .agg (peA x)) (hy : a.eval v = .agg (peA y)) {r : Bool} (hr : eqP x y = r) (h : wpList Tryd.prog ops Q rest (a.put o.dst (.bool r)) w) : wpList Tryd.prog ops Q (o :: rest) a w :=
  wpList_plain hgd fun _ hK => o_eqlP u v ho x y hx hy hr (hK _ _ h)
theorem is3 {w : World} {v : Value} (hL : Lies w v T3) : Calls Tryd.prog 12 #[v] w fun e w' => e = .returned (.bool true) ∧ Below w.heap.size w w' := by
  have := is_any hL wf3 (by decide)
  rwa [isB_yes circ3] at this
theorem lit575 (w : World) : Nums (w.alloc (.cells #[.int .i64 5, .int .i64 7, .int .i64 5] 3)) (.slice (some ⟨w.heap.size, 0, none⟩) 3 3) [5, 7, 5] := lit_nums w [5, 7, 5] _ rfl
theorem lit20 (w : World) : Nums (w.alloc (.cells #[.int .i64 2, .int .i64 0] 3)) (.slice (some ⟨w.heap.size, 0, none⟩) 2 2) [2, 0] := lit_nums w [2, 0] _ rfl
set_option maxHeartbeats 2000000 in
theorem rounded_any (w : World) (hG : Glob w) : Calls Tryd.prog 10 #[] w fun e w' => e = .returned (.bool true) ∧ Below w.heap.size w w' := by
  have h20 : ownN T3 20 = 1 := by decide
  have h21 : ownN T3 21 = 2 := by decide
  have h31 : ownN T3 31 = 0 := by decide
  have HG := Lib.hid hG
  clear hG
  go_enter Tryd.func10, Tryd.ntmps10
  go_upto_region 2 with (first
    | (go_at_call 35; (with_reducible refine (three_any _).mono ?_); rintro e y1 ⟨g1, rfl, t1, b1⟩)
    | (go_at_call 36; (with_reducible refine (small20 _).mono ?_); rintro e y2 ⟨rfl, b2⟩; have l1 := Lib.hid (t1.bel b2))
    | (go_at_call 14; (with_reducible refine (owner3 20 1 (by omega) h20 l1.out).mono ?_); rintro e y3 ⟨rfl, b3⟩; have B1 := Lib.hid (step (step b1 b2) b3); clear b1 b2 b3 t1 l1))
  go_upto_region 3 with (first
    | (go_at_call 35; (with_reducible refine (three_any _).mono ?_); rintro e z1 ⟨g2, rfl, t1, b1⟩)
    | (go_at_call 36; (with_reducible refine (small21 _).mono ?_); rintro e z2 ⟨rfl, b2⟩; have l1 := Lib.hid (t1.bel b2))
    | (go_at_call 14; (with_reducible refine (owner3 21 2 (by omega) h21 l1.out).mono ?_); rintro e z3 ⟨rfl, b3⟩; have B2 := Lib.hid (step (step (step B1.out b1) b2) b3); clear b1 b2 b3 t1 l1 B1))
  go_upto_region 4 with (first
    | (go_at_call 35; (with_reducible refine (three_any _).mono ?_); rintro e x1 ⟨g3, rfl, t1, b1⟩)
    | (go_at_call 36; (with_reducible refine (small31 _).mono ?_); rintro e x2 ⟨rfl, b2⟩; have l1 := Lib.hid (t1.bel b2))
    | (go_at_call 14; (with_reducible refine (owner3 31 0 (by omega) h31 l1.out).mono ?_); rintro e x3 ⟨rfl, b3⟩; have B3 := Lib.hid (step (step (step B2.out b1) b2) b3); clear b1 b2 b3 t1 l1 B2))
  go_upto_region 5 with (first
    | (go_at_call 35; (with_reducible refine (three_any _).mono ?_); rintro e v1 ⟨g4, rfl, t1, b1⟩)
    | (go_at_call 36; (with_reducible refine (small25 _).mono ?_); rintro e v2 ⟨rfl, b2⟩; have l1 := Lib.hid (t1.bel b2))
    | (go_at_call 16; (with_reducible refine (copies3 l1.out).mono ?_); rintro e v3 ⟨cu, rfl, cn, b3⟩; have HCN := Lib.hid cn; have B4 := Lib.hid (step (step (step B3.out b1) b2) b3); clear b1 b2 b3 t1 l1 B3 cn))
  go_upto_region 6 with (first
    | (go_at_call 8; (with_reducible refine (of575 (lit575 _) (HG.out.later (B4.out.alloc B4.out.size _))).mono ?_); rintro e u1 ⟨rfl, b5⟩))
  have B5 := Lib.hid (step (B4.out.alloc B4.out.size (.cells #[.int .i64 5, .int .i64 7, .int .i64 5] 3)) b5)
  have HC5 := Lib.hid ((HCN.out.bel ((Below.refl v3.heap.size v3).alloc (Nat.le_refl _) (.cells #[.int .i64 5, .int .i64 7, .int .i64 5] 3))).bel b5)
  clear b5 B4 HCN HG
  go_wp2_with (first
    | (go_at_call 37; (with_reducible refine (none_any _).mono ?_); rintro e s1 ⟨rfl, b6⟩)
    | (refine p_buildNone rfl rfl ?_)
    | (refine p_eqlP rfl _ _ rfl (-1, 0) (-1, 0) rfl rfl (r := true) (by decide) ?_)
    | (go_at_call 35; (with_reducible refine (three_any _).mono ?_); rintro e s2 ⟨g5, rfl, t1, b7⟩)
    | (go_at_call 12; (with_reducible refine (is3 t1).mono ?_); rintro e s3 ⟨rfl, b8⟩)
    | (go_at_call 22; (with_reducible refine (ints_self ((((HC5.out.bel b6).bel b7).bel b8).bel ((Below.refl s3.heap.size s3).alloc (Nat.le_refl _) _)) (lit20 s3) (by decide)).mono ?_); rintro e s4 ⟨rfl, b9⟩))
  go_ret
  have B8 := step (step (step B5.out b6) b7) b8
  exact ⟨rfl, step (B8.alloc B8.size _) b9⟩
end Go.Proofs.YtmlejcfnnjnggaaDoor
