/- Whether a peer is nearer than the first one; the first one, and whether a place is ahead of it; where a finger begins. -/
import Derived.Test.YtfajfmcabpmchaaTabTell
import Derived.Test.YtfajfmcabpmchaaPow
namespace Go.Proofs.Ytfajfmcabpmchaa
set_option maxRecDepth 100000
open Go Go.RowKit Go.Sort

theorem row_zero : (#[Value.int IntKind.u8 0, Value.int IntKind.u8 0, Value.int IntKind.u8 0, Value.int IntKind.u8 0, Value.int IntKind.u8 0, Value.int IntKind.u8 0, Value.int IntKind.u8 0, Value.int IntKind.u8 0, Value.int IntKind.u8 0, Value.int IntKind.u8 0, Value.int IntKind.u8 0, Value.int IntKind.u8 0, Value.int IntKind.u8 0, Value.int IntKind.u8 0, Value.int IntKind.u8 0, Value.int IntKind.u8 0, Value.int IntKind.u8 0, Value.int IntKind.u8 0, Value.int IntKind.u8 0, Value.int IntKind.u8 0] : Array Value) = row (dig 20 0) := rfl
/-- a contract that holds in all later worlds, and leaves all that was there -/
def GivesW (W : World) (f : FuncId) (args : Array Value) (v : Value) : Prop := ∀ w : World, Below W.heap.size W w → Calls Try.prog f args w fun e w' => e = .returned v ∧ Below w.heap.size w w'
theorem GivesW.grown {W : World} {f : FuncId} {args : Array Value} {v : Value} (h : GivesW W f args v) (d : Nat) (os : Array Obj) : Calls Try.prog f args (grow (redrawn W d) os) fun e w'' => e = .returned v ∧ ∃ p : Regrown, w'' = grow (redrawn W p.d) p.os :=
  Calls.regrown_of (h _ (below_regrown W d os))
theorem GivesW.of {W : World} {f : FuncId} {args : Array Value} {v : Value} (h : Gives Try.prog f args v) : GivesW W f args v := fun w _ => h w
theorem first_givesW {W : World} {s p : Pe} {u v : Value} {S : List Pe} (hS : Lies W u S) : GivesW W 48 #[.agg (tabA s p u v)] (.agg (peA (firstP s S))) := fun _ hb => first_any (hS.bel hb)
theorem run_fieldI (p : Pe) (w : World) : (Instr.field 28 (.agg (peA p)) 1).run Try.prog w = .ok (idv p.2) w := by kernel_rfl
theorem run_fieldA (p : Pe) (w : World) : (Instr.field 28 (.agg (peA p)) 0).run Try.prog w = .ok (.int .i64 p.1) w := by kernel_rfl
theorem range_row {w : World} {g o b : Nat} {cs : List Value} {row' : Array Value} (h : w.rangeAt g o cs) (hne : g ≠ b) : (w.setRow b row').rangeAt g o cs := fun j v hv =>
  (World.cell?_of_block (a := ⟨g, o + j, none⟩) (Go.setRow_other _ _ g row' hne)).trans (h j v hv)
theorem y_midI {ops : Array Oper} {S : World → Prop} {op : Oper} {a : Act} (hw : Region.wanted op (yielded ops a.tmps) = true) (x : Operand) (ho : op.op = .load 24 x)
    (b o : Nat) (hx : a.eval x = .pointer (some ⟨b, o, none⟩)) (n : Nat) (hS : ∀ w, S w → w.rangeAt b o (row (dig 20 n)).toList) : YieldsIf Try.prog ops S op (idv n) a := by
  have := yieldsIf_load_mid (P := Try.prog) hw 24 x ho b o hx (row (dig 20 n)).toList _ hS Try.underlying24 rfl (by rw [Array.length_toList, row_size, dig_length]; exact sizeId20)
  rwa [Array.toArray_toList] at this
theorem y_midP {ops : Array Oper} {S : World → Prop} {op : Oper} {a : Act} (hw : Region.wanted op (yielded ops a.tmps) = true) (x : Operand) (ho : op.op = .load 28 x)
    (b o : Nat) (hx : a.eval x = .pointer (some ⟨b, o, none⟩)) (p : Pe) (hS : ∀ w, S w → w.rangeAt b o (peC p)) : YieldsIf Try.prog ops S op (.agg (peA p)) a :=
  yieldsIf_load_mid (P := Try.prog) hw 28 x ho b o hx (peC p) _ hS Try.underlying28 rfl (by rw [peC_length]; exact sizeP)
theorem q_fieldI {C : World → Prop} {o : Oper} {a : Act} {K : Act → Prop} (x : Operand) (ho : o.op = .field 28 x 1) (p : Pe) (hx : a.eval x = .agg (peA p)) (hk : K (a.put o.dst (idv p.2))) : o.quiet Try.prog a C K := by
  refine ⟨idv p.2, ?_, hk⟩
  intro w' _
  unfold Oper.quietAt execOp
  simp only [ho, hx, Sem.run_bind, run_fieldI, Sem.run_pure, Result.andThen_ok]
  exact ⟨rfl, rfl⟩
theorem none_any (w : World) : Calls Try.prog 44 #[] w fun e w' => e = .returned (.agg (peA (-1, 0))) ∧ Below w.heap.size w w' := by
  have B0 := (Below.refl w.heap.size w).alloc (Nat.le_refl _) (.cells (peA (-1, 0)) 28)
  have X0 := Blk.new w (peA (-1, 0)) 28
  go_enter Try.func44, Try.ntmps44
  go_wp2_with (first | (refine p_buildNone rfl rfl ?_) | (refine p_storeP rfl rfl _ _ rfl (-1, 0) rfl rfl ?_))
  exact bodyPost_ret (results_cell_row Try.results44 _ _ w.heap.size 28 (peA (-1, 0)) (0, 0) _ rfl X0 Try.underlying28 rfl (by rw [peA_size]; exact sizeP)) rfl ⟨rfl, B0⟩
set_option maxHeartbeats 2000000 in
theorem done_any {w : World} {s p : Pe} {u v : Value} {S : List Pe} (id : Nat) (hS : Lies w u S) : Calls Try.prog 24 #[.agg (tabA s p u v), idv id] w fun e w' => e = .returned (.tuple #[.agg (peA (firstP s S)), .bool (halfB s.2 id (firstP s S).2)]) ∧ Below w.heap.size w w' := by
  have B0 := (((Below.refl w.heap.size w).alloc (Nat.le_refl _) (.cells (tabA s p u v) 43)).alloc (by simp) (.cells (row (dig 20 id)) 24)).alloc (by simp; omega) (.cells (peA (0, 0)) 28)
  have T0 : TB (((w.alloc (.cells (tabA s p u v) 43)).alloc (.cells (row (dig 20 id)) 24)).alloc (.cells (peA (0, 0)) 28)) w.heap.size s p u v := Blk.alloc (Blk.alloc (Blk.new ..) _) _
  have I0 : At (((w.alloc (.cells (tabA s p u v) 43)).alloc (.cells (row (dig 20 id)) 24)).alloc (.cells (peA (0, 0)) 28)) (w.heap.size + 1) id := by
    have := (At.new (w.alloc (.cells (tabA s p u v) 43)) id).alloc (.cells (peA (0, 0)) 28)
    rwa [World.size_alloc] at this
  have R0 : PB (((w.alloc (.cells (tabA s p u v) 43)).alloc (.cells (row (dig 20 id)) 24)).alloc (.cells (peA (0, 0)) 28)) (w.heap.size + 2) (0, 0) := by
    have := PB.new ((w.alloc (.cells (tabA s p u v) 43)).alloc (.cells (row (dig 20 id)) 24)) (0, 0)
    rwa [World.size_alloc, World.size_alloc] at this
  have hS0 := hS.bel B0
  have HF : Hid (∀ w', Lies w' u S → Calls Try.prog 48 #[.agg (tabA s p u v)] w' fun e w'' => e = .returned (.agg (peA (firstP s S))) ∧ Below w'.heap.size w' w'') := fun w' h => first_any h
  have HH := half_all s.2 id (firstP s S).2
  generalize halfB s.2 id (firstP s S).2 = hb at *
  generalize firstP s S = y at *
  have HE := Lib.hid (HH)
  clear HH hS
  rw [show idv id = .agg (row (dig 20 id)) from rfl]
  go_enter Try.func24, Try.ntmps24
  go_upto_region 1 with (fail)
  rw [peer_zero]
  generalize ((w.alloc _).alloc _).alloc _ = W at *
  generalize hg : w.heap.size = g at *
  have HL := Lib.hid hS0
  clear hS0
  go_upto_region 2 with (first
    | (refine p_midT rfl _ rfl g rfl T0 ?_)
    | (go_at_call 48; (with_reducible refine (HF.out _ HL.out).mono ?_); rintro e w1 ⟨rfl, k1⟩; have X1 := PB.new w1 y; have B1 := (Below.refl w1.heap.size w1).alloc (Nat.le_refl _) (.cells (peA y) 28); have k2 := step k1 B1)
    | (refine p_storeP rfl rfl _ _ rfl y rfl rfl ?_))
  have T1 := T0.bel k2
  have I1 := I0.below k2
  have R1 := R0.bel k2
  have B2 := B0.trans (k2.mono (hg ▸ B0.size))
  have hlt3 : g + 2 < w1.heap.size := Nat.lt_of_lt_of_le R0.lt k1.size
  clear T0 I0 R0 B0 k1 B1 k2
  have hgg : g + 2 < w1.heap.size := hlt3
  generalize w1.alloc _ = W1 at *
  generalize w1.heap.size = g1 at *
  have P1 := X1.range
  have P2 := X1.I
  have S1 := T1.sI
  have I2 := blk_range I1
  have HT1 := Lib.hid T1
  have hgg1 : g + 2 < g1 := hgg
  clear I1 T1
  refine wp_region_held_drew (S := (fun w9 => w9.rangeAt g1 0 (peC y) ∧ w9.rangeAt g 1 (row (dig 20 s.2)).toList ∧ w9.rangeAt (g + 1) 0 (row (dig 20 id)).toList ∧ w9.rangeAt g1 1 (row (dig 20 y.2)).toList)) (by kernel_rfl) ?_ (fun hHeld => ?_)
  · exact ⟨P1, S1, I2, P2⟩
  have RD : PB W1.drew (g + 2) (0, 0) := R1
  have BD := B2.trans ((drew_bel W1).mono (hg ▸ B2.size))
  clear R1 B2
  have lg1 : g1 < W1.drew.heap.size := X1.lt
  have lg : g < W1.drew.heap.size := HT1.out.lt
  have lg2 : g + 1 < W1.drew.heap.size := range_lt I2 (by intro h; have := congrArg List.length h; rw [Array.length_toList, row_size, dig_length] at this; simp at this)
  clear P1 S1 I2 P2
  generalize W1.drew = W2 at *
  refine wpAnyH_take (i := 1) (v := ?_) rfl (by kernel_rfl) (by kernel_rfl) (by kernel_rfl) (fun _ _ _ h => h) (Or.inl ⟨by rfl, ?_⟩) (by assumption) ?_
  rotate_left
  · intro w9 hSw
    (try dsimp only at hSw)
    go_simp
    (try with_reducible rfl)
  (try simp only [Act.put]); (try simp only [List.setIfInBounds_toArray]); (try simp only [List.set_cons_succ]); (try simp only [List.set_cons_zero])
  refine wpAnyH_take (i := 2) (v := ?_) rfl (by kernel_rfl) (by kernel_rfl) (by kernel_rfl) (fun _ _ _ h => h) (Or.inl ⟨by rfl, ?_⟩) (by assumption) ?_
  rotate_left
  · intro w9 hSw
    (try dsimp only at hSw)
    go_simp
    (try with_reducible rfl)
  (try simp only [Act.put]); (try simp only [List.setIfInBounds_toArray]); (try simp only [List.set_cons_succ]); (try simp only [List.set_cons_zero])
  refine wpAnyH_take (i := 5) (v := ?_) rfl (by kernel_rfl) (by kernel_rfl) (by kernel_rfl) (fun _ _ _ h => h) (Or.inl ⟨by rfl, ?_⟩) (by assumption) ?_
  rotate_left
  · intro w9 hSw
    (try dsimp only at hSw)
    go_simp
    (try with_reducible rfl)
  (try simp only [Act.put]); (try simp only [List.setIfInBounds_toArray]); (try simp only [List.set_cons_succ]); (try simp only [List.set_cons_zero])
  iterate 3
    (try dsimp only [List.getElem_toArray, List.getElem_cons_succ, List.getElem_cons_zero])
    (try simp only [Act.put]); (try simp only [List.setIfInBounds_toArray]); (try simp only [List.set_cons_succ]); (try simp only [List.set_cons_zero])
  refine wpAnyH_take (i := 0) (oi := { dst := some 9, op := .load 28 (.tmp 6), type := 28, pos := "table.go:189", after := #[], guard := none }) (v := .agg (peA y)) rfl (by kernel_rfl) (by kernel_rfl) (by kernel_rfl) (fun _ _ _ h => h) (y_midP (by rfl) (.tmp 6) rfl g1 0 rfl y (fun _ h => h.1)) (by assumption) ?_
  (try simp only [Act.put]); (try simp only [List.setIfInBounds_toArray]); (try simp only [List.set_cons_succ]); (try simp only [List.set_cons_zero])
  refine wpAnyH_take (i := 3) (oi := { dst := some 12, op := .load 24 (.tmp 11), type := 24, pos := "table.go:189", after := #[{ on := 2, ground := .data }], guard := none }) (v := idv s.2) rfl (by kernel_rfl) (by kernel_rfl) (by kernel_rfl) (fun _ _ _ h => h) (y_midI (by rfl) (.tmp 11) rfl g 1 rfl s.2 (fun _ h => h.2.1)) (by assumption) ?_
  (try simp only [Act.put]); (try simp only [List.setIfInBounds_toArray]); (try simp only [List.set_cons_succ]); (try simp only [List.set_cons_zero])
  refine wpAnyH_take (i := 4) (oi := { dst := some 13, op := .load 24 (.tmp 3), type := 24, pos := "table.go:189", after := #[], guard := none }) (v := idv id) rfl (by kernel_rfl) (by kernel_rfl) (by kernel_rfl) (fun _ _ _ h => h) (y_midI (by rfl) (.tmp 3) rfl (g + 1) 0 rfl id (fun _ h => h.2.2.1)) (by assumption) ?_
  (try simp only [Act.put]); (try simp only [List.setIfInBounds_toArray]); (try simp only [List.set_cons_succ]); (try simp only [List.set_cons_zero])
  refine wpAnyH_take (i := 6) (oi := { dst := some 15, op := .load 24 (.tmp 14), type := 24, pos := "table.go:189", after := #[{ on := 5, ground := .data }], guard := none }) (v := idv y.2) rfl (by kernel_rfl) (by kernel_rfl) (by kernel_rfl) (fun _ _ _ h => h) (y_midI (by rfl) (.tmp 14) rfl g1 1 rfl y.2 (fun _ h => h.2.2.2)) (by assumption) ?_
  (try simp only [Act.put]); (try simp only [List.setIfInBounds_toArray]); (try simp only [List.set_cons_succ]); (try simp only [List.set_cons_zero])
  refine wpAnyH_ready (rs := [7]) (by kernel_rfl) (by simp) ?_
  refine AllReadyH.cons rfl (fun K hK => ?_) ?_
  rotate_left
  · exact AllReadyH.nil
  go_simp
  go_wp2_with (go_at_call 49; (with_reducible refine (HE.out _).mono ?_); rintro e w3 ⟨rfl, k3⟩)
  refine hK.out _ _ ?_ (fun hHeld => ?_)
  · exact ⟨range_bel hHeld.1 k3 lg1, range_bel hHeld.2.1 k3 lg, range_bel hHeld.2.2.1 k3 lg2, range_bel hHeld.2.2.2 k3 lg1⟩
  clear hK K
  (try simp only [Act.put]); (try simp only [List.setIfInBounds_toArray]); (try simp only [List.set_cons_succ]); (try simp only [List.set_cons_zero])
  have R2 := RD.bel k3
  have B3 := BD.trans (k3.mono (hg ▸ BD.size))
  iterate 2
    (try dsimp only [List.getElem_toArray, List.getElem_cons_succ, List.getElem_cons_zero])
    (try simp only [Act.put]); (try simp only [List.setIfInBounds_toArray]); (try simp only [List.set_cons_succ]); (try simp only [List.set_cons_zero])
  refine wpAnyH_ready (rs := [8]) (by kernel_rfl) (by simp) ?_
  refine AllReadyH.cons rfl (fun K hK => ?_) ?_
  rotate_left
  · exact AllReadyH.nil
  rw [if_pos (by rfl)]
  refine wp_store_row 28 _ _ rfl (g + 2) (peA y) rfl rfl 28 (peA (0, 0)) R2 (by rw [peA_size]; exact sizeP) (by rw [peA_size, peA_size]) (peA_one _) ?_
  refine hK.out _ _ ?_ (fun hHeld => ?_)
  · exact ⟨range_row hHeld.1 (by omega), range_row hHeld.2.1 (by omega), range_row hHeld.2.2.1 (by omega), range_row hHeld.2.2.2 (by omega)⟩
  clear hK K
  (try simp only [Act.put]); (try simp only [List.setIfInBounds_toArray]); (try simp only [List.set_cons_succ]); (try simp only [List.set_cons_zero])
  refine wpAnyH_take (i := 9) (v := ?_) rfl (by kernel_rfl) (by kernel_rfl) (by kernel_rfl) (fun _ _ _ h => h) (Or.inl ⟨by rfl, ?_⟩) (by assumption) ?_
  rotate_left
  · intro w9 hSw
    (try dsimp only at hSw)
    go_simp
    (try with_reducible rfl)
  (try simp only [Act.put]); (try simp only [List.setIfInBounds_toArray]); (try simp only [List.set_cons_succ]); (try simp only [List.set_cons_zero])
  iterate 2
    (try dsimp only [List.getElem_toArray, List.getElem_cons_succ, List.getElem_cons_zero])
    (try simp only [Act.put]); (try simp only [List.setIfInBounds_toArray]); (try simp only [List.set_cons_succ]); (try simp only [List.set_cons_zero])
  refine wpAnyH_done (by kernel_rfl) ?_ _
  have BW : Below w.heap.size w (w3.setRow (g + 2) (peA y)) := bel_setRow (hg ▸ B3) (by omega) _
  clear hHeld B3 k3 BD RD HE HT1
  go_wp2
  exact bodyPost_ret (results_P2 Try.results24 _ _ (g + 2) _ rfl rfl (PB.set R2 y)) rfl ⟨rfl, BW⟩
end Go.Proofs.Ytfajfmcabpmchaa
