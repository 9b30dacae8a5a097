/- The document's rows that each statement asks first: they hold. -/
import Derived.Deep.WholeRow
import Derived.Test.YteljhengfeebfaaParseRef
import Derived.Test.YteljhengfeebfaaOpen
namespace Go.Proofs.Yteljhengfeebfaa
open Go.RowKit Go.Sort

/-- a place lies in a block -/
def At (w : World) (g n : Nat) : Prop := w.heap[g]? = some (.cells (row (dig 20 n)) 23 (0, 0))
theorem At.lt {w : World} {g n : Nat} (h : At w g n) : g < w.heap.size := by
  rcases Nat.lt_or_ge g w.heap.size with h' | h'
  · exact h'
  · unfold At at h; rw [Array.getElem?_eq_none h'] at h; cases h
theorem At.below {w w' : World} {g n : Nat} (h : At w g n) (hb : Below w.heap.size w w') : At w' g n := (hb.block g h.lt).trans h
theorem At.alloc {w : World} {g n : Nat} (h : At w g n) (o : Obj) : At (w.alloc o) g n := (Below.heap_alloc w o g h.lt).trans h
theorem At.new (w : World) (n : Nat) : At (w.alloc (.cells (row (dig 20 n)) 23)) w.heap.size n := heap_alloc_new _ _

theorem wpList_store_new {ops : Array Oper} {rest : List Oper} {o : Oper} {a : Act} {w : World} {Q : Exit → Act → World → Prop} {Z : Array Value} (hz : Z.size = 20) (hgd : o.guard = none) (x y : Operand) (ho : o.op = .store 23 x y)
    (n : Nat) (hx : a.eval x = .pointer (some ⟨w.heap.size, 0, none⟩)) (hy : a.eval y = idv n)
    (h : wpList Try.prog ops Q rest (a.put o.dst undef) (w.alloc (.cells (row (dig 20 n)) 23))) : wpList Try.prog ops Q (o :: rest) a (w.alloc (.cells Z 23)) := by
  refine wpList_store_row hgd 23 x y ho w.heap.size (row (dig 20 n)) hx hy 23 Z (heap_alloc_new _ _) (by rw [row_size, dig_length]; exact Try.info23) (by rw [row_size, dig_length, hz]) (row_one _) ?_
  rw [World.setRow_alloc_new]
  exact h

theorem small1 (w : World) : Calls Try.prog 26 #[.int .i64 1] w fun e w' => e = .returned (idv 1) ∧ Below w.heap.size w w' := small_all 1 w (by omega) (by decide +kernel)
theorem small5 (w : World) : Calls Try.prog 26 #[.int .i64 5] w fun e w' => e = .returned (idv 5) ∧ Below w.heap.size w w' := small_all 5 w (by omega) (by decide +kernel)
theorem small7 (w : World) : Calls Try.prog 26 #[.int .i64 7] w fun e w' => e = .returned (idv 7) ∧ Below w.heap.size w w' := small_all 7 w (by omega) (by decide +kernel)
theorem small9 (w : World) : Calls Try.prog 26 #[.int .i64 9] w fun e w' => e = .returned (idv 9) ∧ Below w.heap.size w w' := small_all 9 w (by omega) (by decide +kernel)
theorem small256 (w : World) : Calls Try.prog 26 #[.int .i64 256] w fun e w' => e = .returned (idv 256) ∧ Below w.heap.size w w' := small_all 256 w (by omega) (by decide +kernel)
theorem power8 (w : World) : Calls Try.prog 9 #[.int .i64 8] w fun e w' => e = .returned (.tuple #[idv 256, .int .i64 0]) ∧ Below w.heap.size w w' := power_yes 8 w (by omega)
theorem power160 (w : World) : Calls Try.prog 9 #[.int .i64 160] w fun e w' => e = .returned (.tuple #[idv 0, .int .i64 1]) ∧ Below w.heap.size w w' := power_no 160 w (by omega)

theorem zero_idv : (.agg #[Value.int IntKind.u8 0, Value.int IntKind.u8 0, Value.int IntKind.u8 0, Value.int IntKind.u8 0,
      Value.int IntKind.u8 0, Value.int IntKind.u8 0, Value.int IntKind.u8 0, Value.int IntKind.u8 0,
      Value.int IntKind.u8 0, Value.int IntKind.u8 0, Value.int IntKind.u8 0, Value.int IntKind.u8 0,
      Value.int IntKind.u8 0, Value.int IntKind.u8 0, Value.int IntKind.u8 0, Value.int IntKind.u8 0,
      Value.int IntKind.u8 0, Value.int IntKind.u8 0, Value.int IntKind.u8 0, Value.int IntKind.u8 0] : Value) = idv 0 := by
  rw [zeros, zero_row]; rfl
theorem built23 : Try.prog.built 23 [] = some (row (List.replicate 20 0)) := by kernel_rfl
theorem q_build {C : World → Prop} {o : Oper} {a : Act} {K : Act → Prop} (ho : o.op = .build 23 #[]) (hk : K (a.put o.dst (idv 0))) : o.quiet Try.prog a C K := by
  refine ⟨idv 0, ?_, hk⟩
  intro w' _
  have e := run_build (P := Try.prog) w' 23 #[] _ built23
  unfold Oper.quietAt execOp
  simp only [ho, List.map_toArray, List.map_nil, Sem.run_bind, e, Sem.run_pure, Result.andThen_ok]
  refine ⟨rfl, ?_⟩
  rw [zero_row]; rfl

theorem text_ff : textB (sub 0 1) = ⟨#[102, 102, 102, 102, 102, 102, 102, 102, 102, 102, 102, 102, 102, 102, 102, 102, 102, 102, 102, 102, 102, 102, 102, 102, 102, 102, 102, 102, 102, 102, 102, 102, 102, 102, 102, 102, 102, 102, 102, 102]⟩ := by decide +kernel
theorem open579 : openB 5 7 9 = true := by decide +kernel
theorem open975 : openB 9 7 5 = false := by decide +kernel
theorem half599 : halfB 5 9 9 = true := by decide +kernel
theorem eq256 : eqB 256 256 = true := by decide +kernel

theorem placed_all (w : World) : Calls Try.prog 11 #[] w fun e w' => e = .returned (.bool true) ∧ Below w.heap.size w w' := by
  go_enter Try.func11, Try.ntmps11
  go_upto_region 2 with (first | (go_at_call 26; refine (small1 _).mono ?_; rintro e w1 ⟨rfl, hb⟩) | (refine wpList_store_new rfl rfl _ _ rfl _ rfl rfl ?_))
  simp only [Act.put]
  have B1 := hb.trans ((Below.refl w.heap.size w1).alloc hb.size (.cells (row (dig 20 1)) 23))
  have A1 := At.new w1 1
  clear hb
  generalize w1.heap.size = g1 at *
  generalize w1.alloc _ = W1 at *
  go_upto_region 3 with (first | (go_at_call 26; refine (small5 _).mono ?_; rintro e w2 ⟨rfl, hb⟩) | (refine wpList_store_new rfl rfl _ _ rfl _ rfl rfl ?_))
  simp only [Act.put]
  have B2 := B1.trans ((hb.mono B1.size).trans ((Below.refl w.heap.size w2).alloc (Nat.le_trans B1.size hb.size) (.cells (row (dig 20 5)) 23)))
  replace A1 := (A1.below hb).alloc (.cells (row (dig 20 5)) 23)
  have A2 := At.new w2 5
  clear B1
  clear hb
  generalize w2.heap.size = g2 at *
  generalize w2.alloc _ = W2 at *
  go_upto_region 4 with (first | (go_at_call 26; refine (small7 _).mono ?_; rintro e w3 ⟨rfl, hb⟩) | (refine wpList_store_new rfl rfl _ _ rfl _ rfl rfl ?_))
  simp only [Act.put]
  have B3 := B2.trans ((hb.mono B2.size).trans ((Below.refl w.heap.size w3).alloc (Nat.le_trans B2.size hb.size) (.cells (row (dig 20 7)) 23)))
  replace A1 := (A1.below hb).alloc (.cells (row (dig 20 7)) 23)
  replace A2 := (A2.below hb).alloc (.cells (row (dig 20 7)) 23)
  have A3 := At.new w3 7
  clear B2
  clear hb
  generalize w3.heap.size = g3 at *
  generalize w3.alloc _ = W3 at *
  go_upto_region 5 with (first | (go_at_call 26; refine (small9 _).mono ?_; rintro e w4 ⟨rfl, hb⟩) | (refine wpList_store_new rfl rfl _ _ rfl _ rfl rfl ?_))
  simp only [Act.put]
  have B4 := B3.trans ((hb.mono B3.size).trans ((Below.refl w.heap.size w4).alloc (Nat.le_trans B3.size hb.size) (.cells (row (dig 20 9)) 23)))
  replace A1 := (A1.below hb).alloc (.cells (row (dig 20 9)) 23)
  replace A2 := (A2.below hb).alloc (.cells (row (dig 20 9)) 23)
  replace A3 := (A3.below hb).alloc (.cells (row (dig 20 9)) 23)
  have A4 := At.new w4 9
  clear B3
  clear hb
  generalize w4.heap.size = g4 at *
  generalize w4.alloc _ = W4 at *
  go_upto_region 6 with (first | (go_at_call 9; refine (power8 _).mono ?_; rintro e w5 ⟨rfl, hb⟩) | (refine wpList_store_new rfl rfl _ _ rfl _ rfl rfl ?_))
  have B5 := B4.trans ((hb.mono B4.size).trans ((Below.refl w.heap.size w5).alloc (Nat.le_trans B4.size hb.size) (.cells (row (dig 20 256)) 23)))
  replace A1 := (A1.below hb).alloc (.cells (row (dig 20 256)) 23)
  replace A2 := (A2.below hb).alloc (.cells (row (dig 20 256)) 23)
  replace A3 := (A3.below hb).alloc (.cells (row (dig 20 256)) 23)
  replace A4 := (A4.below hb).alloc (.cells (row (dig 20 256)) 23)
  have A5 := At.new w5 256
  clear B4
  clear hb
  generalize w5.heap.size = g5 at *
  generalize w5.alloc _ = W5 at *
  go_upto_region 7 with (first | (go_at_call 9; refine (power160 _).mono ?_; rintro e w6 ⟨rfl, hb⟩) | (refine wpList_store_new rfl rfl _ _ rfl _ rfl rfl ?_))
  have B6 := B5.trans ((hb.mono B5.size).trans ((Below.refl w.heap.size w6).alloc (Nat.le_trans B5.size hb.size) (.cells (row (dig 20 0)) 23)))
  replace A1 := (A1.below hb).alloc (.cells (row (dig 20 0)) 23)
  replace A2 := (A2.below hb).alloc (.cells (row (dig 20 0)) 23)
  replace A3 := (A3.below hb).alloc (.cells (row (dig 20 0)) 23)
  replace A4 := (A4.below hb).alloc (.cells (row (dig 20 0)) 23)
  replace A5 := (A5.below hb).alloc (.cells (row (dig 20 0)) 23)
  have A6 := At.new w6 0
  clear B5
  clear hb
  generalize w6.heap.size = g6 at *
  generalize w6.alloc _ = W6 at *
  have E1 := run_eql
  have E3 := run_guard
  have c14 := fun (d : Nat) (os : Array Obj) => Calls.regrown_of (minus_all 0 1 (grow (redrawn W6 d) os))
  have c24 := fun (d : Nat) (os : Array Obj) => Calls.regrown_of (text_all (sub 0 1) (grow (redrawn W6 d) os))
  have c18 := fun (d : Nat) (os : Array Obj) => Calls.regrown_of (open_all 5 7 9 (grow (redrawn W6 d) os))
  have d18 := fun (d : Nat) (os : Array Obj) => Calls.regrown_of (open_all 9 7 5 (grow (redrawn W6 d) os))
  have c20 := fun (d : Nat) (os : Array Obj) => Calls.regrown_of (half_all 5 9 9 (grow (redrawn W6 d) os))
  have c26 := fun (d : Nat) (os : Array Obj) => Calls.regrown_of (small256 (grow (redrawn W6 d) os))
  rw [text_ff] at c24
  rw [open579] at c18
  rw [open975] at d18
  rw [half599] at c20
  have C14 := Lib.hid c14
  have C24 := Lib.hid c24
  have C18 := Lib.hid c18
  have D18 := Lib.hid d18
  have C20 := Lib.hid c20
  have C26 := Lib.hid c26
  clear c14 c24 c18 d18 c20 c26
  have e256 := eq256
  refine wp_region_quiet_below (by kernel_rfl) (by kernel_rfl) ?_
  repeat (first
    | go_big_quiet_skip
    | (go_big_quiet_want
       first
       | (first | refine q_build rfl ?_ | refine q_load _ rfl _ _ rfl A1 ?_ | refine q_load _ rfl _ _ rfl A2 ?_ | refine q_load _ rfl _ _ rfl A3 ?_ | refine q_load _ rfl _ _ rfl A4 ?_ | refine q_load _ rfl _ _ rfl A5 ?_
          simp only [Act.put, List.setIfInBounds_toArray, List.set_cons_succ, List.set_cons_zero]
          go_big_quiet_on)
       | (go_big_quiet_op
          first | go_big_quiet_on | go_big_quiet_call (first | with_reducible exact C14.out _ _ | with_reducible exact C24.out _ _ | with_reducible exact C18.out _ _ | with_reducible exact D18.out _ _ | with_reducible exact C20.out _ _ | with_reducible exact C26.out _ _))))
  refine wpQuiet_nil ?_
  intro _ hw'
  obtain ⟨⟨dq, osq⟩, hw''⟩ := hw'
  subst hw''
  have HB : Hid (Below w.heap.size w (grow (redrawn W6 dq) osq)) := B6.trans ((below_regrown W6 dq osq).mono B6.size)
  go_wp2
  go_ret
  exact ⟨rfl, HB.out⟩
end Go.Proofs.Yteljhengfeebfaa
