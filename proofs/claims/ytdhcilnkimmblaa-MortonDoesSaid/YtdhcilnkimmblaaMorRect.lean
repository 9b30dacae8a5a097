/- Rectangles in memory; the calls Is and Inside, the program's and the document's. -/
import Derived.Test.YtdhcilnkimmblaaMorRef
import Derived.Test.YtdhcilnkimmblaaLabEq
import Derived.Deep.Cut
namespace Go.Proofs.Ytdhcilnkimmblaa
open Go.RowKit Go.Sort

/-- the cells of a rectangle -/
def rectc (a b c d : Nat) : Array Value := #[.int .u32 (a : Int), .int .u32 (b : Int), .int .u32 (c : Int), .int .u32 (d : Int)]
theorem infoRect : (Try.prog.info? 25).map (·.size) = some 4 := by kernel_rfl
theorem rect_all (a b c d : Nat) : (rectc a b c d).all (·.oneCell') = true := by simp [rectc, Value.oneCell']
theorem p_loadR {ops : Array Oper} {rest : List Oper} {o : Oper} {a : Act} {w : World} {Q : Exit → Act → World → Prop} (hgd : o.guard = none) (x : Operand) (ho : o.op = .load 25 x)
    (g : Nat) (hx : a.eval x = .pointer (some ⟨g, 0, none⟩)) (x1 x2 y1 y2 : Nat) (hg : Blk w g (rectc x1 x2 y1 y2) 25)
    (h : wpList Try.prog ops Q rest (a.put o.dst (.agg (rectc x1 x2 y1 y2))) w) : wpList Try.prog ops Q (o :: rest) a w :=
  wpList_load_row hgd 25 x ho g hx 25 (rectc x1 x2 y1 y2) (0, 0) _ hg Try.underlying25 rfl infoRect h
theorem o_loadR {o : Oper} {a : Act} {w : World} {K : Act → World → Prop} {Q : Exit → Act → World → Prop} (x : Operand) (ho : o.op = .load 25 x)
    (g : Nat) (hx : a.eval x = .pointer (some ⟨g, 0, none⟩)) (x1 x2 y1 y2 : Nat) (hg : Blk w g (rectc x1 x2 y1 y2) 25) (h : K (a.put o.dst (.agg (rectc x1 x2 y1 y2))) w) : o.wp Try.prog a w K Q :=
  wp_load_row 25 x ho g hx 25 _ (0, 0) _ hg Try.underlying25 rfl infoRect h
theorem q_loadR {W : World} {o : Oper} {a : Act} {K : Act → Prop} (x : Operand) (ho : o.op = .load 25 x) (g : Nat) (hx : a.eval x = .pointer (some ⟨g, 0, none⟩)) (x1 x2 y1 y2 : Nat)
    (hg : Blk W g (rectc x1 x2 y1 y2) 25) (hk : K (a.put o.dst (.agg (rectc x1 x2 y1 y2)))) : o.quiet Try.prog a (fun w' => ∃ p : Regrown, w' = grow (redrawn W p.d) p.os) K :=
  q_row 25 x ho g hx (rectc x1 x2 y1 y2) 25 _ hg Try.underlying25 rfl infoRect hk
theorem p_storeR {ops : Array Oper} {rest : List Oper} {o : Oper} {a : Act} {w : World} {Q : Exit → Act → World → Prop} (hgd : o.guard = none) (x y : Operand) (ho : o.op = .store 25 x y)
    (g : Nat) (hx : a.eval x = .pointer (some ⟨g, 0, none⟩)) (x1 x2 y1 y2 : Nat) (hy : a.eval y = .agg (rectc x1 x2 y1 y2)) (u1 u2 v1 v2 : Nat) (hg : Blk w g (rectc u1 u2 v1 v2) 25)
    (h : wpList Try.prog ops Q rest (a.put o.dst undef) (w.setRow g (rectc x1 x2 y1 y2))) : wpList Try.prog ops Q (o :: rest) a w :=
  wpList_store_row hgd 25 x y ho g (rectc x1 x2 y1 y2) hx hy 25 (rectc u1 u2 v1 v2) hg infoRect rfl (rect_all x1 x2 y1 y2) h
theorem rect0 {w : World} {g a b c d : Nat} {t : TypeId} (h : Blk w g (rectc a b c d) t) : w.cell? ⟨g, 0, none⟩ = some (.int .u32 (a : Int)) := h.cell 0
theorem rect1 {w : World} {g a b c d : Nat} {t : TypeId} (h : Blk w g (rectc a b c d) t) : w.cell? ⟨g, 1, none⟩ = some (.int .u32 (b : Int)) := h.cell 1
theorem rect2 {w : World} {g a b c d : Nat} {t : TypeId} (h : Blk w g (rectc a b c d) t) : w.cell? ⟨g, 2, none⟩ = some (.int .u32 (c : Int)) := h.cell 2
theorem rect3 {w : World} {g a b c d : Nat} {t : TypeId} (h : Blk w g (rectc a b c d) t) : w.cell? ⟨g, 3, none⟩ = some (.int .u32 (d : Int)) := h.cell 3
theorem rect00 : (#[Value.int IntKind.u32 0, Value.int IntKind.u32 0, Value.int IntKind.u32 0, Value.int IntKind.u32 0] : Array Value) = rectc 0 0 0 0 := rfl

/-- whether a rectangle is right -/
def isR (a b c d : Nat) : Bool := decide (a ≤ b) && decide (c ≤ d)
/-- whether a point is in a rectangle -/
def insideB (a b c d z : Nat) : Bool := isR a b c d && decide (a ≤ evX z) && decide (evX z ≤ b) && decide (c ≤ odY z) && decide (odY z ≤ d)
theorem isR_iff {a b c d : Nat} : isR a b c d = true ↔ a ≤ b ∧ c ≤ d := by simp [isR]
theorem insideB_iff {a b c d z : Nat} : insideB a b c d z = true ↔ (a ≤ b ∧ c ≤ d) ∧ (a ≤ evX z ∧ evX z ≤ b) ∧ c ≤ odY z ∧ odY z ≤ d := by simp [insideB, isR]; omega

theorem isM_any (a b c d : Nat) : Gives Try.prog 16 #[.agg (rectc a b c d)] (.bool (isR a b c d)) := by
  intro w
  have hr : Hid (isR a b c d = (decide (a ≤ b) && decide (c ≤ d))) := Lib.hid rfl
  rcases (by omega : a ≤ b ∧ c ≤ d ∨ (a ≤ b ∧ ¬ c ≤ d) ∨ ¬ a ≤ b) with ⟨h1, h2⟩ | ⟨h1, h2⟩ | h1
  all_goals
    go_enter Try.func16, Try.ntmps16
    go_upto_region 1 with (fail)
    have A1 := Blk.new w (rectc a b c d) 25
    have B1 : Hid (Below w.heap.size w (w.alloc (.cells (rectc a b c d) 25))) := (Below.refl _ _).alloc (Nat.le_refl _) _
    generalize w.alloc (.cells (rectc a b c d) 25) = W at *
    have c0 := rect0 A1
    have c1 := rect1 A1
    have c2 := rect2 A1
    have c3 := rect3 A1
    clear A1
    go_wp2
    go_ret
    refine ⟨ret_bool ?_, B1.out⟩
    rw [hr.out]
    simp [*]

theorem inside_any (a b c d z : Nat) (hz : z < 18446744073709551616) : Gives Try.prog 18 #[.agg (rectc a b c d), .int .u64 (z : Int)] (.bool (insideB a b c d z)) := by
  intro w
  have HA := fun w => apart_any z w hz
  have HI := isM_any a b c d
  have hr : Hid (insideB a b c d z = (isR a b c d && decide (a ≤ evX z) && decide (evX z ≤ b) && decide (c ≤ odY z) && decide (odY z ≤ d))) := Lib.hid rfl
  clear hz
  generalize insideB a b c d z = res at *
  generalize evX z = x at *
  generalize odY z = y at *
  generalize isR a b c d = r at *
  rcases (by cases r <;> simp <;> omega : r = true ∧ a ≤ x ∧ x ≤ b ∧ c ≤ y ∧ y ≤ d ∨ (r = true ∧ a ≤ x ∧ x ≤ b ∧ c ≤ y ∧ ¬ y ≤ d) ∨ (r = true ∧ a ≤ x ∧ x ≤ b ∧ ¬ c ≤ y) ∨ (r = true ∧ a ≤ x ∧ ¬ x ≤ b) ∨ (r = true ∧ ¬ a ≤ x) ∨ r = false) with ⟨rfl, h1, h2, h3, h4⟩ | ⟨rfl, h1, h2, h3, h4⟩ | ⟨rfl, h1, h2, h3⟩ | ⟨rfl, h1, h2⟩ | ⟨rfl, h1⟩ | rfl
  all_goals
    go_enter Try.func18, Try.ntmps18
    go_upto_region 1 with (fail)
    have A1 := Blk.new w (rectc a b c d) 25
    have B1 := (Below.refl w.heap.size w).alloc (Nat.le_refl _) (.cells (rectc a b c d) 25)
    generalize w.alloc (.cells (rectc a b c d) 25) = W at *
    go_upto_region 2 with (go_at_call 9; (with_reducible refine (HA _).mono ?_); rintro e w1 ⟨rfl, rfl⟩)
    have c0 := rect0 A1
    have c1 := rect1 A1
    have c2 := rect2 A1
    have c3 := rect3 A1
    have HA1 := Lib.hid A1
    have HB1 := Lib.hid B1
    clear A1 B1
    go_wp2_with (first | (refine p_loadR rfl _ rfl _ rfl _ _ _ _ HA1.out ?_) | (go_at_call 16; (with_reducible refine (HI.calls _).mono ?_); rintro e w2 ⟨rfl, hb⟩; replace c0 := rect0 (HA1.out.below hb HA1.out.lt); replace c1 := rect1 (HA1.out.below hb HA1.out.lt); replace c2 := rect2 (HA1.out.below hb HA1.out.lt); replace c3 := rect3 (HA1.out.below hb HA1.out.lt); have HB2 := Lib.hid (HB1.out.trans (hb.mono HB1.out.size)); clear hb))
    go_ret
    refine ⟨ret_bool ?_, HB2.out⟩
    rw [hr.out]
    simp [*]

theorem refIs4_any (a b c d : Nat) : Gives Try.prog 17 #[.agg (rectc a b c d)] (.bool (isR a b c d)) := by
  intro w
  have hr : Hid (isR a b c d = (decide (a ≤ b) && decide (c ≤ d))) := Lib.hid rfl
  rcases (by omega : a ≤ b ∧ c ≤ d ∨ (a ≤ b ∧ ¬ c ≤ d) ∨ ¬ a ≤ b) with ⟨h1, h2⟩ | ⟨h1, h2⟩ | h1
  all_goals
    go_enter Try.func17, Try.ntmps17
    go_upto_region 1 with (fail)
    have A1 := Blk.new w (rectc a b c d) 25
    have B1 : Hid (Below w.heap.size w (w.alloc (.cells (rectc a b c d) 25))) := (Below.refl _ _).alloc (Nat.le_refl _) _
    generalize w.alloc (.cells (rectc a b c d) 25) = W at *
    have c0 := rect0 A1
    have c1 := rect1 A1
    have c2 := rect2 A1
    have c3 := rect3 A1
    clear A1
    go_wp2
    go_ret
    refine ⟨ret_bool ?_, B1.out⟩
    rw [hr.out]
    simp [*]

theorem refInside_any (a b c d z : Nat) (hz : z < 18446744073709551616) : Gives Try.prog 19 #[.agg (rectc a b c d), .int .u64 (z : Int)] (.bool (insideB a b c d z)) := by
  intro w
  have HA := fun w => refApart_any z w hz
  have HI := refIs4_any a b c d
  have hr : Hid (insideB a b c d z = (isR a b c d && decide (a ≤ evX z) && decide (evX z ≤ b) && decide (c ≤ odY z) && decide (odY z ≤ d))) := Lib.hid rfl
  clear hz
  generalize insideB a b c d z = res at *
  generalize evX z = x at *
  generalize odY z = y at *
  generalize isR a b c d = r at *
  rcases (by cases r <;> simp <;> omega : r = true ∧ a ≤ x ∧ x ≤ b ∧ c ≤ y ∧ y ≤ d ∨ (r = true ∧ a ≤ x ∧ x ≤ b ∧ c ≤ y ∧ ¬ y ≤ d) ∨ (r = true ∧ a ≤ x ∧ x ≤ b ∧ ¬ c ≤ y) ∨ (r = true ∧ a ≤ x ∧ ¬ x ≤ b) ∨ (r = true ∧ ¬ a ≤ x) ∨ r = false) with ⟨rfl, h1, h2, h3, h4⟩ | ⟨rfl, h1, h2, h3, h4⟩ | ⟨rfl, h1, h2, h3⟩ | ⟨rfl, h1, h2⟩ | ⟨rfl, h1⟩ | rfl
  all_goals
    go_enter Try.func19, Try.ntmps19
    go_upto_region 1 with (fail)
    have A1 := Blk.new w (rectc a b c d) 25
    have B1 := (Below.refl w.heap.size w).alloc (Nat.le_refl _) (.cells (rectc a b c d) 25)
    generalize w.alloc (.cells (rectc a b c d) 25) = W at *
    go_upto_region 2 with (go_at_call 10; (with_reducible refine (HA _).mono ?_); rintro e w1 ⟨rfl, rfl⟩)
    have c0 := rect0 A1
    have c1 := rect1 A1
    have c2 := rect2 A1
    have c3 := rect3 A1
    have HA1 := Lib.hid A1
    have HB1 := Lib.hid B1
    clear A1 B1
    go_wp2_with (first | (refine p_loadR rfl _ rfl _ rfl _ _ _ _ HA1.out ?_) | (go_at_call 17; (with_reducible refine (HI.calls _).mono ?_); rintro e w2 ⟨rfl, hb⟩; replace c0 := rect0 (HA1.out.below hb HA1.out.lt); replace c1 := rect1 (HA1.out.below hb HA1.out.lt); replace c2 := rect2 (HA1.out.below hb HA1.out.lt); replace c3 := rect3 (HA1.out.below hb HA1.out.lt); have HB2 := Lib.hid (HB1.out.trans (hb.mono HB1.out.size)); clear hb))
    go_ret
    refine ⟨ret_bool ?_, HB2.out⟩
    rw [hr.out]
    simp [*]
end Go.Proofs.Ytdhcilnkimmblaa
