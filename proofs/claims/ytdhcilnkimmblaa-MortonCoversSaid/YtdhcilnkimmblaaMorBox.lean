/- The calls Box, Meets and Holds, the program's and the document's. -/
import Derived.Test.YtdhcilnkimmblaaMorRect
import Derived.Test.YtdhcilnkimmblaaLabRefRest
namespace Go.Proofs.Ytdhcilnkimmblaa
open Go.RowKit Go.Sort

theorem results_rect {fn : Func} {p t : Tmp} (h : fn.results = #[.cell p 25, .tmp t]) (tmps : Array Value) (w : World) (g a b c d : Nat) (e : Int)
    (hp : tmps.getD p undef = .pointer (some ⟨g, 0, none⟩)) (hv : tmps.getD t undef = .int .i64 e) (hg : Blk w g (rectc a b c d) 25) :
    (results fn tmps).run Try.prog w = .ok (.tuple #[.agg (rectc a b c d), .int .i64 e]) w := by
  have hp' : tmps[p]?.getD undef = .pointer (some ⟨g, 0, none⟩) := by simpa using hp
  have hv' : tmps[t]?.getD undef = .int .i64 e := by simpa using hv
  simp [results, h, hp', hv', asAddr, run_loadVar_row w g 25 25 (rectc a b c d) (0, 0) _ hg Try.underlying25 rfl infoRect]

/-- a boxed label, and a new rectangle -/
structure MemB (w wr : World) (n : Int) (b x1 x2 y1 y2 : Nat) : Prop where
  below : Below w.heap.size w wr
  a : Blk wr w.heap.size (labc n b) 36
  z : Blk wr (w.heap.size + 1) (rectc x1 x2 y1 y2) 25
theorem MemB.made (w : World) (n : Int) (b : Nat) : MemB w ((w.alloc (.cells (labc n b) 36)).alloc (.cells (rectc 0 0 0 0) 25)) n b 0 0 0 0 :=
  ⟨((Below.refl _ _).alloc (Nat.le_refl _) _).alloc (by simp) _, (Blk.new w _ _).alloc _, by have h := Blk.new (w.alloc (.cells (labc n b) 36)) (rectc 0 0 0 0) 25; rwa [World.size_alloc] at h⟩
theorem MemB.grown {w wr w' : World} {n : Int} {b x1 x2 y1 y2 : Nat} (k : MemB w wr n b x1 x2 y1 y2) (hb : Below wr.heap.size wr w') : MemB w w' n b x1 x2 y1 y2 :=
  ⟨k.below.trans (hb.mono k.below.size), k.a.below hb k.a.lt, k.z.below hb k.z.lt⟩
theorem MemB.put {w wr : World} {n : Int} {b x1 x2 y1 y2 : Nat} (k : MemB w wr n b x1 x2 y1 y2) (u1 u2 v1 v2 : Nat) : MemB w (wr.setRow (w.heap.size + 1) (rectc u1 u2 v1 v2)) n b u1 u2 v1 v2 :=
  ⟨bel_setRow k.below (by omega) _, k.a.setRow_other _ _ (by omega), k.z.setRow _⟩

/-- whether a rectangle has a point of a box; all of them -/
def meetsB (a b c d x1 x2 y1 y2 : Nat) : Bool := isR a b c d && decide (a ≤ x2) && decide (x1 ≤ b) && decide (c ≤ y2) && decide (y1 ≤ d)
def holdsB (a b c d x1 x2 y1 y2 : Nat) : Bool := isR a b c d && decide (a ≤ x1) && decide (x2 ≤ b) && decide (c ≤ y1) && decide (y2 ≤ d)

theorem box_err (n : Int) (b : Nat) (HS : Gives Try.prog 35 #[.agg (labc n b)] (.tuple #[.int .u64 0, .int .u64 0, .int .i64 1])) : Gives Try.prog 20 #[.agg (labc n b)] (.tuple #[.agg (rectc 0 0 0 0), .int .i64 1]) := by
  intro w
  go_enter Try.func20, Try.ntmps20
  go_upto_region 1 with (fail)
  have K := Lib.hid (MemB.made w n b)
  rw [rect00]
  generalize (w.alloc _).alloc _ = W at *
  go_upto_region 3 with (first | (refine p_loadL rfl _ rfl _ rfl n b K.out.a ?_) | (go_at_call 35; (with_reducible refine (HS.calls _).mono ?_); rintro e w' ⟨rfl, hb⟩))
  replace K := Lib.hid (K.out.grown hb)
  clear hb
  go_wp2_with (first | (refine p_storeR rfl _ _ rfl _ rfl 0 0 0 0 rfl _ _ _ _ K.out.z ?_))
  exact bodyPost_ret (results_rect Try.results20 _ _ _ _ _ _ _ 1 rfl rfl (K.out.put _ _ _ _).z) rfl ⟨rfl, (K.out.put _ _ _ _).below⟩
theorem box_ok (n : Int) (b lo hi : Nat) (hlo : lo < 18446744073709551616) (hhi : hi < 18446744073709551616) (HS : Gives Try.prog 35 #[.agg (labc n b)] (.tuple #[.int .u64 (lo : Int), .int .u64 (hi : Int), .int .i64 0])) :
    Gives Try.prog 20 #[.agg (labc n b)] (.tuple #[.agg (rectc (evX lo) (evX hi) (odY lo) (odY hi)), .int .i64 0]) := by
  intro w
  have H1 := fun w => apart_any lo w hlo
  have H2 := fun w => apart_any hi w hhi
  clear hlo hhi
  generalize evX lo = x1 at *
  generalize evX hi = x2 at *
  generalize odY lo = y1 at *
  generalize odY hi = y2 at *
  go_enter Try.func20, Try.ntmps20
  go_upto_region 1 with (fail)
  have K := Lib.hid (MemB.made w n b)
  rw [rect00]
  generalize (w.alloc _).alloc _ = W at *
  go_upto_region 4 with (first | (refine p_loadL rfl _ rfl _ rfl n b K.out.a ?_) | (go_at_call 35; (with_reducible refine (HS.calls _).mono ?_); rintro e w' ⟨rfl, hb⟩))
  replace K := Lib.hid (K.out.grown hb)
  clear hb
  go_upto_region 5 with (go_at_call 9; (with_reducible refine (H1 _).mono ?_); rintro e w1 ⟨rfl, rfl⟩)
  go_upto_region 6 with (go_at_call 9; (with_reducible refine (H2 _).mono ?_); rintro e w1 ⟨rfl, rfl⟩)
  go_wp2_with (first | (refine p_storeR rfl _ _ rfl _ rfl x1 x2 y1 y2 rfl _ _ _ _ K.out.z ?_))
  exact bodyPost_ret (results_rect Try.results20 _ _ _ _ _ _ _ 0 rfl rfl (K.out.put _ _ _ _).z) rfl ⟨rfl, (K.out.put _ _ _ _).below⟩

theorem meets_err (a b c d : Nat) (n : Int) (m x1 x2 y1 y2 : Nat) (HB : Gives Try.prog 20 #[.agg (labc n m)] (.tuple #[.agg (rectc x1 x2 y1 y2), .int .i64 1])) : Gives Try.prog 22 #[.agg (rectc a b c d), .agg (labc n m)] (.bool false) := by
  intro w
  go_enter Try.func22, Try.ntmps22
  go_upto_region 1 with (fail)
  have A1 := (Blk.new w (rectc a b c d) 25).alloc (.cells (labc n m) 36)
  have A2 := Blk.new (w.alloc (.cells (rectc a b c d) 25)) (labc n m) 36
  have B0 := ((Below.refl w.heap.size w).alloc (Nat.le_refl _) (.cells (rectc a b c d) 25)).alloc (by simp) (.cells (labc n m) 36)
  simp only [World.size_alloc] at A1 A2 B0
  generalize World.alloc _ _ = W0 at *
  go_upto_region 2 with (first | (refine p_loadL rfl _ rfl _ rfl _ _ (by with_reducible exact A2) ?_) | (go_at_call 20; (with_reducible refine (HB.calls _).mono ?_); rintro e w1 ⟨rfl, hb⟩) | (refine wpList_store_newrow rfl 25 _ _ rfl (rectc x1 x2 y1 y2) rfl rfl infoRect (rect_all _ _ _ _) rfl ?_))
  replace B0 := (B0.trans (hb.mono B0.size)).alloc (Nat.le_trans B0.size hb.size) (.cells (rectc x1 x2 y1 y2) 25)
  clear hb A1 A2
  generalize w1.alloc _ = W1 at *
  go_wp2
  go_ret
  exact ⟨rfl, B0⟩
theorem meets_ok (a b c d : Nat) (n : Int) (m x1 x2 y1 y2 : Nat) (HB : Gives Try.prog 20 #[.agg (labc n m)] (.tuple #[.agg (rectc x1 x2 y1 y2), .int .i64 0])) : Gives Try.prog 22 #[.agg (rectc a b c d), .agg (labc n m)] (.bool (meetsB a b c d x1 x2 y1 y2)) := by
  intro w
  have HI := isM_any a b c d
  have hr : Hid (meetsB a b c d x1 x2 y1 y2 = (isR a b c d && decide (a ≤ x2) && decide (x1 ≤ b) && decide (c ≤ y2) && decide (y1 ≤ d))) := by
    unfold Hid meetsB; ac_rfl
  generalize meetsB a b c d x1 x2 y1 y2 = res at *
  generalize isR a b c d = r at *
  rcases (by cases r <;> simp <;> omega : (r = true ∧ a ≤ x2 ∧ x1 ≤ b ∧ c ≤ y2 ∧ y1 ≤ d) ∨ (r = true ∧ a ≤ x2 ∧ x1 ≤ b ∧ c ≤ y2 ∧ ¬ y1 ≤ d) ∨ (r = true ∧ a ≤ x2 ∧ x1 ≤ b ∧ ¬ c ≤ y2) ∨ (r = true ∧ a ≤ x2 ∧ ¬ x1 ≤ b) ∨ (r = true ∧ ¬ a ≤ x2) ∨ (r = false)) with ⟨rfl, h1, h2, h3, h4⟩ | ⟨rfl, h1, h2, h3, h4⟩ | ⟨rfl, h1, h2, h3⟩ | ⟨rfl, h1, h2⟩ | ⟨rfl, h1⟩ | rfl
  all_goals
    go_enter Try.func22, Try.ntmps22
    go_upto_region 1 with (fail)
    have A1 := (Blk.new w (rectc a b c d) 25).alloc (.cells (labc n m) 36)
    have A2 := Blk.new (w.alloc (.cells (rectc a b c d) 25)) (labc n m) 36
    have B0 := ((Below.refl w.heap.size w).alloc (Nat.le_refl _) (.cells (rectc a b c d) 25)).alloc (by simp) (.cells (labc n m) 36)
    simp only [World.size_alloc] at A1 A2 B0
    generalize World.alloc _ _ = W0 at *
    go_upto_region 2 with (first | (refine p_loadL rfl _ rfl _ rfl _ _ (by with_reducible exact A2) ?_) | (go_at_call 20; (with_reducible refine (HB.calls _).mono ?_); rintro e w1 ⟨rfl, hb⟩) | (refine wpList_store_newrow rfl 25 _ _ rfl (rectc x1 x2 y1 y2) rfl rfl infoRect (rect_all _ _ _ _) rfl ?_))
    replace A1 := (A1.below hb A1.lt).alloc (.cells (rectc x1 x2 y1 y2) 25)
    replace B0 := (B0.trans (hb.mono B0.size)).alloc (Nat.le_trans B0.size hb.size) (.cells (rectc x1 x2 y1 y2) 25)
    have A3 := Blk.new w1 (rectc x1 x2 y1 y2) 25
    clear hb A2
    generalize w1.heap.size = g1 at *
    generalize w1.alloc _ = W1 at *
    have HA1 := Lib.hid A1
    have HA3 := Lib.hid A3
    have HB0 := Lib.hid B0
    clear A1 A3 B0
    go_wp2_with (first | (go_guarded; refine o_loadR _ rfl _ rfl _ _ _ _ HA1.out ?_; simp only [Act.put, List.setIfInBounds_toArray, List.set_cons_succ, List.set_cons_zero]) | (go_at_call 16; (with_reducible refine (HI.calls _).mono ?_); rintro e w2 ⟨rfl, hb⟩; have c0 := rect0 (HA1.out.below hb HA1.out.lt); have c1 := rect1 (HA1.out.below hb HA1.out.lt); have c2 := rect2 (HA1.out.below hb HA1.out.lt); have c3 := rect3 (HA1.out.below hb HA1.out.lt); have d0 := rect0 (HA3.out.below hb HA3.out.lt); have d1 := rect1 (HA3.out.below hb HA3.out.lt); have d2 := rect2 (HA3.out.below hb HA3.out.lt); have d3 := rect3 (HA3.out.below hb HA3.out.lt); have HB2 := Lib.hid (HB0.out.trans (hb.mono HB0.out.size)); clear hb))
    go_ret
    refine ⟨ret_bool ?_, HB2.out⟩
    rw [hr.out]
    simp [*]

theorem refbox_err (n : Int) (b : Nat) (HS : Gives Try.prog 36 #[.agg (labc n b)] (.tuple #[.int .u64 0, .int .u64 0, .int .i64 1])) : Gives Try.prog 21 #[.agg (labc n b)] (.tuple #[.agg (rectc 0 0 0 0), .int .i64 1]) := by
  intro w
  go_enter Try.func21, Try.ntmps21
  go_upto_region 1 with (fail)
  have K := Lib.hid (MemB.made w n b)
  rw [rect00]
  generalize (w.alloc _).alloc _ = W at *
  go_upto_region 3 with (first | (refine p_loadL rfl _ rfl _ rfl n b K.out.a ?_) | (go_at_call 36; (with_reducible refine (HS.calls _).mono ?_); rintro e w' ⟨rfl, hb⟩))
  replace K := Lib.hid (K.out.grown hb)
  clear hb
  go_wp2_with (first | (refine p_storeR rfl _ _ rfl _ rfl 0 0 0 0 rfl _ _ _ _ K.out.z ?_))
  exact bodyPost_ret (results_rect Try.results21 _ _ _ _ _ _ _ 1 rfl rfl (K.out.put _ _ _ _).z) rfl ⟨rfl, (K.out.put _ _ _ _).below⟩
theorem refbox_ok (n : Int) (b lo hi : Nat) (hlo : lo < 18446744073709551616) (hhi : hi < 18446744073709551616) (HS : Gives Try.prog 36 #[.agg (labc n b)] (.tuple #[.int .u64 (lo : Int), .int .u64 (hi : Int), .int .i64 0])) :
    Gives Try.prog 21 #[.agg (labc n b)] (.tuple #[.agg (rectc (evX lo) (evX hi) (odY lo) (odY hi)), .int .i64 0]) := by
  intro w
  have H1 := fun w => refApart_any lo w hlo
  have H2 := fun w => refApart_any hi w hhi
  clear hlo hhi
  generalize evX lo = x1 at *
  generalize evX hi = x2 at *
  generalize odY lo = y1 at *
  generalize odY hi = y2 at *
  go_enter Try.func21, Try.ntmps21
  go_upto_region 1 with (fail)
  have K := Lib.hid (MemB.made w n b)
  rw [rect00]
  generalize (w.alloc _).alloc _ = W at *
  go_upto_region 4 with (first | (refine p_loadL rfl _ rfl _ rfl n b K.out.a ?_) | (go_at_call 36; (with_reducible refine (HS.calls _).mono ?_); rintro e w' ⟨rfl, hb⟩))
  replace K := Lib.hid (K.out.grown hb)
  clear hb
  go_upto_region 5 with (go_at_call 10; (with_reducible refine (H1 _).mono ?_); rintro e w1 ⟨rfl, rfl⟩)
  go_upto_region 6 with (go_at_call 10; (with_reducible refine (H2 _).mono ?_); rintro e w1 ⟨rfl, rfl⟩)
  go_wp2_with (first | (refine p_storeR rfl _ _ rfl _ rfl x1 x2 y1 y2 rfl _ _ _ _ K.out.z ?_))
  exact bodyPost_ret (results_rect Try.results21 _ _ _ _ _ _ _ 0 rfl rfl (K.out.put _ _ _ _).z) rfl ⟨rfl, (K.out.put _ _ _ _).below⟩

theorem refMeets_err (a b c d : Nat) (n : Int) (m x1 x2 y1 y2 : Nat) (HB : Gives Try.prog 21 #[.agg (labc n m)] (.tuple #[.agg (rectc x1 x2 y1 y2), .int .i64 1])) : Gives Try.prog 23 #[.agg (rectc a b c d), .agg (labc n m)] (.bool false) := by
  intro w
  go_enter Try.func23, Try.ntmps23
  go_upto_region 1 with (fail)
  have A1 := (Blk.new w (rectc a b c d) 25).alloc (.cells (labc n m) 36)
  have A2 := Blk.new (w.alloc (.cells (rectc a b c d) 25)) (labc n m) 36
  have B0 := ((Below.refl w.heap.size w).alloc (Nat.le_refl _) (.cells (rectc a b c d) 25)).alloc (by simp) (.cells (labc n m) 36)
  simp only [World.size_alloc] at A1 A2 B0
  generalize World.alloc _ _ = W0 at *
  go_upto_region 2 with (first | (refine p_loadL rfl _ rfl _ rfl _ _ (by with_reducible exact A2) ?_) | (go_at_call 21; (with_reducible refine (HB.calls _).mono ?_); rintro e w1 ⟨rfl, hb⟩) | (refine wpList_store_newrow rfl 25 _ _ rfl (rectc x1 x2 y1 y2) rfl rfl infoRect (rect_all _ _ _ _) rfl ?_))
  replace B0 := (B0.trans (hb.mono B0.size)).alloc (Nat.le_trans B0.size hb.size) (.cells (rectc x1 x2 y1 y2) 25)
  clear hb A1 A2
  generalize w1.alloc _ = W1 at *
  go_wp2
  go_ret
  exact ⟨rfl, B0⟩
theorem refMeets_ok (a b c d : Nat) (n : Int) (m x1 x2 y1 y2 : Nat) (HB : Gives Try.prog 21 #[.agg (labc n m)] (.tuple #[.agg (rectc x1 x2 y1 y2), .int .i64 0])) : Gives Try.prog 23 #[.agg (rectc a b c d), .agg (labc n m)] (.bool (meetsB a b c d x1 x2 y1 y2)) := by
  intro w
  have HI := refIs4_any a b c d
  have hr : Hid (meetsB a b c d x1 x2 y1 y2 = (isR a b c d && decide (x1 ≤ b) && decide (a ≤ x2) && decide (y1 ≤ d) && decide (c ≤ y2))) := by
    unfold Hid meetsB; ac_rfl
  generalize meetsB a b c d x1 x2 y1 y2 = res at *
  generalize isR a b c d = r at *
  rcases (by cases r <;> simp <;> omega : (r = true ∧ x1 ≤ b ∧ a ≤ x2 ∧ y1 ≤ d ∧ c ≤ y2) ∨ (r = true ∧ x1 ≤ b ∧ a ≤ x2 ∧ y1 ≤ d ∧ ¬ c ≤ y2) ∨ (r = true ∧ x1 ≤ b ∧ a ≤ x2 ∧ ¬ y1 ≤ d) ∨ (r = true ∧ x1 ≤ b ∧ ¬ a ≤ x2) ∨ (r = true ∧ ¬ x1 ≤ b) ∨ (r = false)) with ⟨rfl, h1, h2, h3, h4⟩ | ⟨rfl, h1, h2, h3, h4⟩ | ⟨rfl, h1, h2, h3⟩ | ⟨rfl, h1, h2⟩ | ⟨rfl, h1⟩ | rfl
  all_goals
    go_enter Try.func23, Try.ntmps23
    go_upto_region 1 with (fail)
    have A1 := (Blk.new w (rectc a b c d) 25).alloc (.cells (labc n m) 36)
    have A2 := Blk.new (w.alloc (.cells (rectc a b c d) 25)) (labc n m) 36
    have B0 := ((Below.refl w.heap.size w).alloc (Nat.le_refl _) (.cells (rectc a b c d) 25)).alloc (by simp) (.cells (labc n m) 36)
    simp only [World.size_alloc] at A1 A2 B0
    generalize World.alloc _ _ = W0 at *
    go_upto_region 2 with (first | (refine p_loadL rfl _ rfl _ rfl _ _ (by with_reducible exact A2) ?_) | (go_at_call 21; (with_reducible refine (HB.calls _).mono ?_); rintro e w1 ⟨rfl, hb⟩) | (refine wpList_store_newrow rfl 25 _ _ rfl (rectc x1 x2 y1 y2) rfl rfl infoRect (rect_all _ _ _ _) rfl ?_))
    replace A1 := (A1.below hb A1.lt).alloc (.cells (rectc x1 x2 y1 y2) 25)
    replace B0 := (B0.trans (hb.mono B0.size)).alloc (Nat.le_trans B0.size hb.size) (.cells (rectc x1 x2 y1 y2) 25)
    have A3 := Blk.new w1 (rectc x1 x2 y1 y2) 25
    clear hb A2
    generalize w1.heap.size = g1 at *
    generalize w1.alloc _ = W1 at *
    have HA1 := Lib.hid A1
    have HA3 := Lib.hid A3
    have HB0 := Lib.hid B0
    clear A1 A3 B0
    go_wp2_with (first | (go_guarded; refine o_loadR _ rfl _ rfl _ _ _ _ HA1.out ?_; simp only [Act.put, List.setIfInBounds_toArray, List.set_cons_succ, List.set_cons_zero]) | (go_at_call 17; (with_reducible refine (HI.calls _).mono ?_); rintro e w2 ⟨rfl, hb⟩; have c0 := rect0 (HA1.out.below hb HA1.out.lt); have c1 := rect1 (HA1.out.below hb HA1.out.lt); have c2 := rect2 (HA1.out.below hb HA1.out.lt); have c3 := rect3 (HA1.out.below hb HA1.out.lt); have d0 := rect0 (HA3.out.below hb HA3.out.lt); have d1 := rect1 (HA3.out.below hb HA3.out.lt); have d2 := rect2 (HA3.out.below hb HA3.out.lt); have d3 := rect3 (HA3.out.below hb HA3.out.lt); have HB2 := Lib.hid (HB0.out.trans (hb.mono HB0.out.size)); clear hb))
    go_ret
    refine ⟨ret_bool ?_, HB2.out⟩
    rw [hr.out]
    simp [*]

theorem refHolds_err (a b c d : Nat) (n : Int) (m x1 x2 y1 y2 : Nat) (HB : Gives Try.prog 21 #[.agg (labc n m)] (.tuple #[.agg (rectc x1 x2 y1 y2), .int .i64 1])) : Gives Try.prog 25 #[.agg (rectc a b c d), .agg (labc n m)] (.bool false) := by
  intro w
  go_enter Try.func25, Try.ntmps25
  go_upto_region 1 with (fail)
  have A1 := (Blk.new w (rectc a b c d) 25).alloc (.cells (labc n m) 36)
  have A2 := Blk.new (w.alloc (.cells (rectc a b c d) 25)) (labc n m) 36
  have B0 := ((Below.refl w.heap.size w).alloc (Nat.le_refl _) (.cells (rectc a b c d) 25)).alloc (by simp) (.cells (labc n m) 36)
  simp only [World.size_alloc] at A1 A2 B0
  generalize World.alloc _ _ = W0 at *
  go_upto_region 2 with (first | (refine p_loadL rfl _ rfl _ rfl _ _ (by with_reducible exact A2) ?_) | (go_at_call 21; (with_reducible refine (HB.calls _).mono ?_); rintro e w1 ⟨rfl, hb⟩) | (refine wpList_store_newrow rfl 25 _ _ rfl (rectc x1 x2 y1 y2) rfl rfl infoRect (rect_all _ _ _ _) rfl ?_))
  replace B0 := (B0.trans (hb.mono B0.size)).alloc (Nat.le_trans B0.size hb.size) (.cells (rectc x1 x2 y1 y2) 25)
  clear hb A1 A2
  generalize w1.alloc _ = W1 at *
  go_wp2
  go_ret
  exact ⟨rfl, B0⟩
theorem refHolds_ok (a b c d : Nat) (n : Int) (m x1 x2 y1 y2 : Nat) (HB : Gives Try.prog 21 #[.agg (labc n m)] (.tuple #[.agg (rectc x1 x2 y1 y2), .int .i64 0])) : Gives Try.prog 25 #[.agg (rectc a b c d), .agg (labc n m)] (.bool (holdsB a b c d x1 x2 y1 y2)) := by
  intro w
  have HI := refIs4_any a b c d
  have hr : Hid (holdsB a b c d x1 x2 y1 y2 = (isR a b c d && decide (a ≤ x1) && decide (x2 ≤ b) && decide (c ≤ y1) && decide (y2 ≤ d))) := by
    unfold Hid holdsB; ac_rfl
  generalize holdsB a b c d x1 x2 y1 y2 = res at *
  generalize isR a b c d = r at *
  rcases (by cases r <;> simp <;> omega : (r = true ∧ a ≤ x1 ∧ x2 ≤ b ∧ c ≤ y1 ∧ y2 ≤ d) ∨ (r = true ∧ a ≤ x1 ∧ x2 ≤ b ∧ c ≤ y1 ∧ ¬ y2 ≤ d) ∨ (r = true ∧ a ≤ x1 ∧ x2 ≤ b ∧ ¬ c ≤ y1) ∨ (r = true ∧ a ≤ x1 ∧ ¬ x2 ≤ b) ∨ (r = true ∧ ¬ a ≤ x1) ∨ (r = false)) with ⟨rfl, h1, h2, h3, h4⟩ | ⟨rfl, h1, h2, h3, h4⟩ | ⟨rfl, h1, h2, h3⟩ | ⟨rfl, h1, h2⟩ | ⟨rfl, h1⟩ | rfl
  all_goals
    go_enter Try.func25, Try.ntmps25
    go_upto_region 1 with (fail)
    have A1 := (Blk.new w (rectc a b c d) 25).alloc (.cells (labc n m) 36)
    have A2 := Blk.new (w.alloc (.cells (rectc a b c d) 25)) (labc n m) 36
    have B0 := ((Below.refl w.heap.size w).alloc (Nat.le_refl _) (.cells (rectc a b c d) 25)).alloc (by simp) (.cells (labc n m) 36)
    simp only [World.size_alloc] at A1 A2 B0
    generalize World.alloc _ _ = W0 at *
    go_upto_region 2 with (first | (refine p_loadL rfl _ rfl _ rfl _ _ (by with_reducible exact A2) ?_) | (go_at_call 21; (with_reducible refine (HB.calls _).mono ?_); rintro e w1 ⟨rfl, hb⟩) | (refine wpList_store_newrow rfl 25 _ _ rfl (rectc x1 x2 y1 y2) rfl rfl infoRect (rect_all _ _ _ _) rfl ?_))
    replace A1 := (A1.below hb A1.lt).alloc (.cells (rectc x1 x2 y1 y2) 25)
    replace B0 := (B0.trans (hb.mono B0.size)).alloc (Nat.le_trans B0.size hb.size) (.cells (rectc x1 x2 y1 y2) 25)
    have A3 := Blk.new w1 (rectc x1 x2 y1 y2) 25
    clear hb A2
    generalize w1.heap.size = g1 at *
    generalize w1.alloc _ = W1 at *
    have HA1 := Lib.hid A1
    have HA3 := Lib.hid A3
    have HB0 := Lib.hid B0
    clear A1 A3 B0
    go_wp2_with (first | (go_guarded; refine o_loadR _ rfl _ rfl _ _ _ _ HA1.out ?_; simp only [Act.put, List.setIfInBounds_toArray, List.set_cons_succ, List.set_cons_zero]) | (go_at_call 17; (with_reducible refine (HI.calls _).mono ?_); rintro e w2 ⟨rfl, hb⟩; have c0 := rect0 (HA1.out.below hb HA1.out.lt); have c1 := rect1 (HA1.out.below hb HA1.out.lt); have c2 := rect2 (HA1.out.below hb HA1.out.lt); have c3 := rect3 (HA1.out.below hb HA1.out.lt); have d0 := rect0 (HA3.out.below hb HA3.out.lt); have d1 := rect1 (HA3.out.below hb HA3.out.lt); have d2 := rect2 (HA3.out.below hb HA3.out.lt); have d3 := rect3 (HA3.out.below hb HA3.out.lt); have HB2 := Lib.hid (HB0.out.trans (hb.mono HB0.out.size)); clear hb))
    go_ret
    refine ⟨ret_bool ?_, HB2.out⟩
    rw [hr.out]
    simp [*]

theorem holds_err (a b c d : Nat) (n : Int) (m : Nat) (HS : Gives Try.prog 35 #[.agg (labc n m)] (.tuple #[.int .u64 0, .int .u64 0, .int .i64 1])) : Gives Try.prog 24 #[.agg (rectc a b c d), .agg (labc n m)] (.bool false) := by
  intro w
  go_enter Try.func24, Try.ntmps24
  go_upto_region 1 with (fail)
  have A2 := Blk.new (w.alloc (.cells (rectc a b c d) 25)) (labc n m) 36
  have B0 := ((Below.refl w.heap.size w).alloc (Nat.le_refl _) (.cells (rectc a b c d) 25)).alloc (by simp) (.cells (labc n m) 36)
  simp only [World.size_alloc] at A2 B0
  generalize World.alloc _ _ = W0 at *
  go_upto_region 2 with (first | (refine p_loadL rfl _ rfl _ rfl _ _ (by with_reducible exact A2) ?_) | (go_at_call 35; (with_reducible refine (HS.calls _).mono ?_); rintro e w1 ⟨rfl, hb⟩))
  replace B0 := B0.trans (hb.mono B0.size)
  clear hb A2
  go_wp2
  go_ret
  exact ⟨rfl, B0⟩
theorem holds_ok (a b c d : Nat) (n : Int) (m lo hi : Nat) (hlo : lo < 18446744073709551616) (hhi : hi < 18446744073709551616) (HS : Gives Try.prog 35 #[.agg (labc n m)] (.tuple #[.int .u64 (lo : Int), .int .u64 (hi : Int), .int .i64 0])) :
    Gives Try.prog 24 #[.agg (rectc a b c d), .agg (labc n m)] (.bool (insideB a b c d lo && insideB a b c d hi)) := by
  intro w
  have H1 := inside_any a b c d lo hlo
  have H2 := inside_any a b c d hi hhi
  clear hlo hhi
  generalize insideB a b c d lo = r1 at *
  generalize insideB a b c d hi = r2 at *
  rcases (by cases r1 <;> simp : r1 = true ∨ r1 = false) with rfl | rfl
  all_goals
    go_enter Try.func24, Try.ntmps24
    go_upto_region 1 with (fail)
    have A1 := (Blk.new w (rectc a b c d) 25).alloc (.cells (labc n m) 36)
    have A2 := Blk.new (w.alloc (.cells (rectc a b c d) 25)) (labc n m) 36
    have B0 := ((Below.refl w.heap.size w).alloc (Nat.le_refl _) (.cells (rectc a b c d) 25)).alloc (by simp) (.cells (labc n m) 36)
    simp only [World.size_alloc] at A1 A2 B0
    generalize World.alloc _ _ = W0 at *
    go_upto_region 2 with (first | (refine p_loadL rfl _ rfl _ rfl _ _ (by with_reducible exact A2) ?_) | (go_at_call 35; (with_reducible refine (HS.calls _).mono ?_); rintro e w1 ⟨rfl, hb⟩))
    replace A1 := A1.below hb A1.lt
    replace B0 := B0.trans (hb.mono B0.size)
    clear hb A2
    have HA1 := Lib.hid A1
    have HB0 := Lib.hid B0
    clear A1 B0
  · go_wp2_with (first | (go_guarded; refine o_loadR _ rfl _ rfl _ _ _ _ HA1.out ?_; simp only [Act.put, List.setIfInBounds_toArray, List.set_cons_succ, List.set_cons_zero]) | (go_at_call 18; (with_reducible refine (H1.calls _).mono ?_); rintro e w2 ⟨rfl, hb⟩; replace HA1 := Lib.hid (HA1.out.below hb HA1.out.lt); replace HB0 := Lib.hid (HB0.out.trans (hb.mono HB0.out.size)); clear hb H1) | (go_at_call 18; (with_reducible refine (H2.calls _).mono ?_); rintro e w3 ⟨rfl, hb⟩; replace HB0 := Lib.hid (HB0.out.trans (hb.mono HB0.out.size)); clear hb))
    go_ret
    exact ⟨by simp, HB0.out⟩
  · go_wp2_with (first | (go_guarded; refine o_loadR _ rfl _ rfl _ _ _ _ HA1.out ?_; simp only [Act.put, List.setIfInBounds_toArray, List.set_cons_succ, List.set_cons_zero]) | (go_at_call 18; (with_reducible refine (H1.calls _).mono ?_); rintro e w2 ⟨rfl, hb⟩; replace HB0 := Lib.hid (HB0.out.trans (hb.mono HB0.out.size)); clear hb))
    go_ret
    exact ⟨by simp, HB0.out⟩
end Go.Proofs.Ytdhcilnkimmblaa
