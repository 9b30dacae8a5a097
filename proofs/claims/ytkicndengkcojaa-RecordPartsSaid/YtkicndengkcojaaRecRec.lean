/- The document's rows of records. -/
import Derived.Test.YtkicndengkcojaaRecBig
import Derived.Test.YtkicndengkcojaaRecBack
import Derived.Test.YtkicndengkcojaaRecRGet2
import Derived.Test.YtkicndengkcojaaRecWith3
import Derived.Test.YtkicndengkcojaaRecIs3
namespace Go.Proofs.Ytkicndengkcojaa
set_option maxRecDepth 100000
open Go Go.RowKit Go.Sort

/-- a record handed back and laid into a block of its own -/
theorem rec_new {w1 : World} {r : Rc} {u : Value} (T : Told w1 u r.items) :
    Blk ((w1.alloc (.cells #[.int .i64 0, .slice none 0 0, .int .i64 0, .int .u64 0, .int .u64 0] 27)).setRow w1.heap.size (recC r u)) w1.heap.size (recC r u) 27 ∧
    Told ((w1.alloc (.cells #[.int .i64 0, .slice none 0 0, .int .i64 0, .int .u64 0, .int .u64 0] 27)).setRow w1.heap.size (recC r u)) u r.items ∧
    Below w1.heap.size w1 ((w1.alloc (.cells #[.int .i64 0, .slice none 0 0, .int .i64 0, .int .u64 0, .int .u64 0] 27)).setRow w1.heap.size (recC r u)) := by
  rw [zero_rec]
  have Z := Blk.new w1 (recC zeroR (.slice none 0 0)) 27
  have B := bel_setRow ((Below.refl w1.heap.size w1).alloc (Nat.le_refl _) (.cells (recC zeroR (.slice none 0 0)) 27)) (Nat.le_refl _) (recC r u)
  exact ⟨Z.setRow _, T.bel B, B⟩
theorem p_loadN {ops : Array Oper} {rest : List Oper} {o : Oper} {a : Act} {w : World} {Q : Exit → Act → World → Prop} (hgd : o.guard = none) (x : Operand) (ho : o.op = .load 25 x)
    (g : Nat) (hx : a.eval x = .pointer (some ⟨g, 0, none⟩)) (hg : Blk w g (labc (-1) 0) 25) (h : wpList Try.prog ops Q rest (a.put o.dst (.agg #[.int .i64 (-1), .int .u64 0])) w) : wpList Try.prog ops Q (o :: rest) a w :=
  p_loadL hgd x ho g hx _ _ hg h
def rowR1 : Rc := ⟨2, [], -1, 0, 0⟩
def rowR2 : Rc := ⟨1, [(5, ⟨#[97]⟩)], -1, 0, 0⟩
theorem rowR1_wf : rowR1.Wf := ⟨by decide, by decide, by decide, by decide, by simp [rowR1]⟩
theorem rowR2_wf : rowR2.Wf := ⟨by decide, by decide, by decide, by decide, by simp [rowR2]⟩
theorem rowR2_right : isR rowR2 = true := by decide +kernel
theorem zero_wrong : isR zeroR = false := by decide +kernel
theorem zero_wf : zeroR.Wf := ⟨by decide, by decide, by decide, by decide, by simp [zeroR]⟩
theorem rowR1_put : txt (putV rowR1) = ⟨#[1, 2]⟩ := by decide +kernel
theorem rowR1_putE : putE rowR1 = 0 := by decide +kernel
theorem rowR2_put : txt (putV rowR2) = ⟨#[1, 1, 1, 1, 1, 5, 1, 1, 97, 0]⟩ := by decide +kernel
theorem rowR2_putE : putE rowR2 = 0 := by decide +kernel
theorem rowR2_get : getR (bytesN ⟨#[1, 1, 1, 1, 1, 5, 1, 1, 97, 0]⟩) = .ok rowR2 := by
  have h : bytesN ⟨#[1, 1, 1, 1, 1, 5, 1, 1, 97, 0]⟩ = putR rowR2 := by decide +kernel
  rw [h]
  exact getR_put (isR_iff.1 rowR2_right) rowR2_wf
theorem rowR1_with : withE rowR1 1 ⟨#[]⟩ = 13 := by decide +kernel
theorem put_row1 (w : World) : Calls Try.prog 10 #[.agg #[.int .i64 2, .slice none 0 0, .int .i64 (-1), .int .u64 0, .int .u64 0]] w fun e w' => e = .returned (.tuple #[.string ⟨#[1, 2]⟩, .int .i64 0]) ∧ Below w.heap.size w w' := by
  have h := recput_any (r := rowR1) (told_nil w) rowR1_wf (by decide)
  rw [rowR1_put, rowR1_putE] at h
  exact h
theorem put_row2 {w : World} {u : Value} (hT : Told w u rowR2.items) : Calls Try.prog 10 #[.agg (recC rowR2 u)] w fun e w' => e = .returned (.tuple #[.string ⟨#[1, 1, 1, 1, 1, 5, 1, 1, 97, 0]⟩, .int .i64 0]) ∧ Below w.heap.size w w' := by
  have h := recput_any (r := rowR2) hT rowR2_wf (by decide)
  rw [rowR2_put, rowR2_putE] at h
  exact h
theorem get_row2 (w : World) : Calls Try.prog 12 #[.string ⟨#[1, 1, 1, 1, 1, 5, 1, 1, 97, 0]⟩] w (TellsR w rowR2 0) := by
  have h := get_any ⟨#[1, 1, 1, 1, 1, 5, 1, 1, 97, 0]⟩ w (by decide)
  unfold getV getE at h
  rw [rowR2_get] at h
  exact h
theorem with_row1 (w : World) : Calls Try.prog 19 #[.agg #[.int .i64 2, .slice none 0 0, .int .i64 (-1), .int .u64 0, .int .u64 0], .int .u64 1, .string ⟨#[]⟩] w (TellsR w zeroR 13) := by
  have h := with_any (r := rowR1) (told_nil w) rowR1_wf (by decide) 1 ⟨#[]⟩
  have hv : withV rowR1 1 ⟨#[]⟩ = zeroR := by unfold withV; rw [rowR1_with]; rfl
  rw [rowR1_with, hv] at h
  exact h
set_option maxHeartbeats 4000000 in
theorem recorded_any : Gives Try.prog 14 #[] (.bool true) := by
  intro w
  have HN := refnone_open
  have HN2 := Lib.hid refnone_any
  have HP1 := put_row1
  have HG := get_row2
  have HW := with_row1
  go_enter Try.func14, Try.ntmps14
  go_upto_region 2 with (first
    | (go_at_call 41; (with_reducible refine (HN2.out.calls _).mono ?_); rintro e w1 ⟨rfl, hb1⟩)
    | (refine p_storeL rfl _ _ rfl w1.heap.size rfl (-1) 0 rfl 0 0 (Blk.new _ _ _) ?_))
  have L1 := (Blk.new w1 (labc 0 0) 25).setRow (labc (-1) 0)
  have B1 := rstep hb1 (bel_setRow ((Below.refl w1.heap.size w1).alloc (Nat.le_refl _) (.cells (labc 0 0) 25)) (Nat.le_refl _) (labc (-1) 0))
  rw [lab00]
  clear hb1
  generalize w1.heap.size = g1 at *
  generalize (w1.alloc _).setRow _ _ = W1 at *
  go_upto_region 3 with (first
    | (refine p_loadN rfl _ rfl g1 rfl L1 ?_)
    | (go_at_call 10; (with_reducible refine (HP1 _).mono ?_); rintro e w2 ⟨rfl, hb2⟩))
  replace L1 := L1.below hb2 L1.lt
  replace B1 := rstep B1 hb2
  clear hb2
  have hsz : (w2.alloc (.cells #[.int .u64 5, .string ⟨#[97]⟩] 53)).heap.size = w2.heap.size + 1 := by simp
  obtain ⟨V, hV⟩ : ∃ V, V = w2.alloc (.cells #[.int .u64 5, .string ⟨#[97]⟩] 53) := ⟨_, rfl⟩
  have K1 := Blk.new w2 #[.int .u64 5, .string ⟨#[97]⟩] 53
  have bV := (Below.refl w2.heap.size w2).alloc (Nat.le_refl _) (.cells #[.int .u64 5, .string ⟨#[97]⟩] 53)
  rw [← hV] at hsz K1 bV
  have TV : Told V (.slice (some ⟨w2.heap.size, 0, none⟩) 1 1) rowR2.items := by
    refine ⟨rfl, .inr ⟨_, _, _, rfl, fun j v hj => ?_⟩⟩
    match j, hj with
    | 0, hj => exact (K1.cell 0).trans hj
    | 1, hj => exact (K1.cell 1).trans hj
  have LV := L1.below bV L1.lt
  obtain ⟨A4, T4, b4⟩ := rec_new TV
  go_upto_region 4 with (first
    | (refine p_loadN rfl _ rfl g1 rfl (L1.alloc _) ?_)
    | (rw [← hV]; refine p_storeR rfl _ _ rfl V.heap.size (by rw [hsz]; rfl) rowR2 (.slice (some ⟨w2.heap.size, 0, none⟩) 1 1) rfl rfl zeroR (.slice none 0 0) (Blk.new _ _ _) ?_))
  have L4 := LV.below b4 LV.lt
  have B4 := rstep (rstep B1 bV) b4
  rw [hsz] at A4 T4 b4 L4 B4 ⊢
  clear TV K1 bV hV LV L1 B1 b4 hsz HP1
  generalize w2.heap.size + 1 = g4 at *
  generalize (V.alloc _).setRow _ _ = W4 at *
  generalize Value.slice (some ⟨w2.heap.size, 0, none⟩) 1 1 = u4 at *
  have HP2 := put_row2 T4
  go_upto_region 5 with (first
    | (refine p_loadR rfl _ rfl g4 rfl rowR2 u4 A4 ?_)
    | (go_at_call 10; (with_reducible refine HP2.mono ?_); rintro e w5 ⟨rfl, hb5⟩))
  replace L4 := L4.below hb5 L4.lt
  replace A4 := A4.below hb5 A4.lt
  replace T4 := T4.bel hb5
  replace B4 := rstep B4 hb5
  clear HP2 hb5
  go_upto_region 6 with (first
    | (go_at_call 12; (with_reducible refine (HG _).mono ?_); rintro e w6 ⟨u6, rfl, t6, hb6⟩)
    | (refine p_storeR rfl _ _ rfl w6.heap.size rfl rowR2 u6 rfl (told_one t6) zeroR (.slice none 0 0) (Blk.new _ _ _) ?_))
  obtain ⟨A6, T6, b6⟩ := rec_new t6
  replace b6 := rstep hb6 b6
  replace L4 := L4.below b6 L4.lt
  replace A4 := A4.below b6 A4.lt
  replace T4 := T4.bel b6
  replace B4 := rstep B4 b6
  clear t6 hb6 b6 HG
  generalize w6.heap.size = g6 at *
  generalize (w6.alloc _).setRow _ _ = W6 at *
  go_upto_region 7 with (first
    | (refine p_loadN rfl _ rfl g1 rfl L4 ?_)
    | (go_at_call 19; (with_reducible refine (HW _).mono ?_); rintro e w7 ⟨u7, rfl, t7, hb7⟩)
    | (refine p_storeR rfl _ _ rfl w7.heap.size rfl zeroR u7 rfl (told_one t7) zeroR (.slice none 0 0) (Blk.new _ _ _) ?_))
  obtain ⟨A7, T7, b7⟩ := rec_new t7
  replace b7 := rstep hb7 b7
  replace L4 := L4.below b7 L4.lt
  replace A4 := A4.below b7 A4.lt
  replace T4 := T4.bel b7
  replace A6 := A6.below b7 A6.lt
  replace T6 := T6.bel b7
  replace B4 := rstep B4 b7
  clear t7 hb7 b7 HW A7 T7
  generalize w7.heap.size = g7 at *
  generalize (w7.alloc _).setRow _ _ = W7 at *
  have HS : ∀ (d : Nat) (os : Array Obj), Calls Try.prog 17 #[.agg (recC rowR2 u6), .agg (recC rowR2 u4)] (grow (redrawn W7 d) os) fun e w'' => e = .returned (.bool true) ∧ ∃ p : Regrown, w'' = grow (redrawn W7 p.d) p.os := fun d os => by
    have h := same_rec (told_grown T6 d os) (told_grown T4 d os) (by decide)
    rw [sameR_self] at h
    exact Calls.regrown_of h
  have HI : ∀ (d : Nat) (os : Array Obj), Calls Try.prog 15 #[.agg (recC rowR2 u4)] (grow (redrawn W7 d) os) fun e w'' => e = .returned (.bool true) ∧ ∃ p : Regrown, w'' = grow (redrawn W7 p.d) p.os := fun d os => by
    have h := is_any (told_grown T4 d os) rowR2_wf (by decide)
    rw [rowR2_right] at h
    exact Calls.regrown_of h
  have HZ : ∀ (d : Nat) (os : Array Obj), Calls Try.prog 15 #[.agg #[.int .i64 0, .slice none 0 0, .int .i64 0, .int .u64 0, .int .u64 0]] (grow (redrawn W7 d) os) fun e w'' => e = .returned (.bool false) ∧ ∃ p : Regrown, w'' = grow (redrawn W7 p.d) p.os := fun d os => by
    have h := is_any (r := zeroR) (told_nil (grow (redrawn W7 d) os)) zero_wf (by decide)
    rw [zero_wrong] at h
    exact Calls.regrown_of h
  have HNN : Gives Try.prog 49 #[] (.agg (labc (-1) 0)) := none_any
  clear T4 T6
  refine wp_region_quiet_below (by kernel_rfl) (by kernel_rfl) ?_
  repeat (first
    | go_big_quiet_skip
    | (go_big_quiet_want
       first
       | (first
          | refine q_loadL _ rfl g1 rfl _ _ L4 ?_
          | refine q_loadR _ rfl g4 rfl rowR2 u4 A4 ?_
          | refine q_loadR _ rfl g6 rfl rowR2 u6 A6 ?_
          | refine q_eqlL _ _ rfl (-1) 0 (-1) 0 rfl rfl (eqL_self _ _) ?_
          simp only [Act.put, List.setIfInBounds_toArray, List.set_cons_succ, List.set_cons_zero]
          go_big_quiet_on)
       | (go_big_quiet_op
          first | go_big_quiet_on | go_big_quiet_call (first | with_reducible exact HNN.grown _ _ | with_reducible exact HS _ _ | with_reducible exact HI _ _ | with_reducible exact HZ _ _))))
  refine wpQuiet_nil ?_
  intro _ hw'
  obtain ⟨⟨dq, osq⟩, hw''⟩ := hw'
  subst hw''
  replace B4 := rstep B4 (below_regrown _ dq osq)
  go_wp2
  go_ret
  exact ⟨rfl, B4⟩
end Go.Proofs.Ytkicndengkcojaa
