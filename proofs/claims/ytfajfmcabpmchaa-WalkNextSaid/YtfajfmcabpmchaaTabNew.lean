/- A new table. -/
import Derived.Test.YtfajfmcabpmchaaTabRep
import Derived.Test.YtfajfmcabpmchaaTabPut
namespace Go.Proofs.Ytfajfmcabpmchaa
set_option maxRecDepth 100000
open Go Go.RowKit Go.Sort

theorem o_sliceP {o : Oper} {a : Act} {w : World} {K : Act → World → Prop} {Q : Exit → Act → World → Prop} (x : Operand) (ho : o.op = .buildSlice 37 1 #[(0, x)])
    (p : Pe) (hx : a.eval x = .agg (peA p)) (h : K (a.put o.dst (.slice (some ⟨w.heap.size, 0, none⟩) 1 1)) (w.alloc (.cells (peA p) 28))) : o.wp Try.prog a w K Q := by
  unfold Oper.wp execOp
  simp only [ho, List.map_toArray, List.map_cons, List.map_nil, hx, Sem.run_bind, run_sliceP p.1 p.2 w, Sem.run_pure, Result.andThen_ok]
  exact h
theorem y_buildT {ops : Array Oper} {S : World → Prop} {op : Oper} {a : Act} (hw : Region.wanted op (yielded ops a.tmps) = true) (x y z : Operand) (ho : op.op = .build 43 #[(0, x), (1, y), (3, z)])
    (s p : Pe) (d : Option Addr) (n c : Nat) (hx : a.eval x = .agg (peA s)) (hy : a.eval y = .agg (peA p)) (hz : a.eval z = .slice d n c) : YieldsIf Try.prog ops S op (.agg (tabA s p nilS (.slice d n c))) a :=
  .inl ⟨hw, fun w _ => by
    have e := run_build (P := Try.prog) w 43 #[(0, .agg (peA s)), (1, .agg (peA p)), (3, .slice d n c)] _ (builtT3 s p d n c)
    unfold execOp
    simp only [ho, List.map_toArray, List.map_cons, List.map_nil, hx, hy, hz, Sem.run_bind, e, Sem.run_pure, Result.andThen_ok]⟩
/-- what a New answers -/
def NewP (B : Nat) (x : Pe) (ok : Bool) (e : Ending) (w' : World) : Prop :=
  (ok = false ∧ e = .returned (.tuple #[.agg (tabA (0, 0) (0, 0) nilS nilS), .int .i64 1])) ∨ (ok = true ∧ ∃ r2, e = .returned (.tuple #[.agg (tabA x (-1, 0) nilS r2), .int .i64 0]) ∧ Lies w' r2 (rep 160 (-1, 0)) ∧ ∃ b, r2 = .slice (some ⟨b, 0, none⟩) 160 160 ∧ B ≤ b ∧ Dat w' b 0 (fun' (rep 160 (-1, 0))) 160)
theorem new_one {w w1 : World} {g b : Nat} {x : Pe} (h : Lies w (.slice (some ⟨b, 0, none⟩) 160 160) (rep 160 (-1, 0))) (hd : Dat w b 0 (fun' (rep 160 (-1, 0))) 160) (hb : Below g w1 w) (hg : w1.heap.size = g) (hgb : g + 3 ≤ b) :
    NewP w1.heap.size x true (.returned (.tuple #[.agg (tabA x (-1, 0) nilS (.slice (some ⟨b, 0, none⟩) 160 160)), .int .i64 0])) (w.setRow (g + 1) (tabA x (-1, 0) nilS (.slice (some ⟨b, 0, none⟩) 160 160))) ∧ Below w1.heap.size w1 (w.setRow (g + 1) (tabA x (-1, 0) nilS (.slice (some ⟨b, 0, none⟩) 160 160))) :=
  ⟨.inr ⟨rfl, _, rfl, lies_set h (fun _ => by simp only [Value.ownBlock, ne_eq, Option.some.injEq]; omega) _, b, rfl, by omega, hd.kept ((grown_row w (g + 1) _).block b hd.lt (by simp; omega)) (grown_row w (g + 1) _).size⟩, by rw [hg]; exact bel_setRow hb (by omega) _⟩
set_option maxHeartbeats 4000000 in
theorem new_core {w : World} (x : Pe) (ok : Bool) (hI : Gives Try.prog 40 #[.int .i64 x.1] (.bool ok)) :
    Calls Try.prog 64 #[.agg (peA x)] w fun e w' => NewP w.heap.size x ok e w' ∧ Below w.heap.size w w' := by
  have B0 := ((Below.refl w.heap.size w).alloc (Nat.le_refl _) (.cells (peA x) 28)).alloc (by simp) (.cells (tabA (0, 0) (0, 0) nilS nilS) 43)
  have P0 : PB ((w.alloc (.cells (peA x) 28)).alloc (.cells (tabA (0, 0) (0, 0) nilS nilS) 43)) w.heap.size x := Blk.alloc (Blk.new ..) _
  have X0 : TB ((w.alloc (.cells (peA x) 28)).alloc (.cells (tabA (0, 0) (0, 0) nilS nilS) 43)) (w.heap.size + 1) (0, 0) (0, 0) nilS nilS := by
    have := TB.zero (w.alloc (.cells (peA x) 28))
    rwa [World.size_alloc] at this
  have HNN := Lib.hid none_any
  go_enter Try.func64, Try.ntmps64
  go_upto_region 1 with (fail)
  rw [tab_zero]
  generalize ((w.alloc _).alloc _) = W at *
  generalize hg : w.heap.size = g at *
  have c0 := P0.A
  have hsW : g + 2 ≤ W.heap.size := X0.lt
  cases ok
  · go_wp2_with (first
      | (go_at_call 40; (with_reducible refine (hI.calls _).mono ?_); rintro e w1 ⟨rfl, k1⟩; have x1 := X0.bel k1; have b1 := belTo hg B0 k1; clear k1)
      | (refine p_build0 rfl rfl ?_)
      | (refine p_putT rfl _ _ rfl (g + 1) rfl rfl rfl rfl x1 ?_))
    exact bodyPost_ret (results_T2 Try.results64 _ _ (g + 1) _ rfl rfl (x1.set _ _ _ _)) rfl ⟨.inl ⟨rfl, rfl⟩, by (try rw [hg]); exact bel_setRow b1 (by omega) _⟩
  go_upto_region 4 with (first
    | (go_at_call 40; (with_reducible refine (hI.calls _).mono ?_); rintro e w1 ⟨rfl, k1⟩; have x1 := X0.bel k1; have p1 := P0.bel k1; have b1 := belTo hg B0 k1; have hs1 := k1.size; clear k1)
    | (go_at_call 44; (with_reducible refine (HNN.out _).mono ?_); rintro e w2 ⟨rfl, k2⟩; have x2 := x1.bel k2; have p2 := p1.bel k2; have b2 := belTo hg b1 k2; have hs2 := k2.size; clear k2)
    | (refine p_storeP rfl rfl _ _ rfl (-1, 0) rfl rfl ?_))
  (try simp only [Act.put])
  have B3 := (Below.refl w2.heap.size w2).alloc (Nat.le_refl _) (.cells (peA (-1, 0)) 28)
  have N3 := PB.new w2 (-1, 0)
  have X3 := x2.bel B3
  have P3 := p2.bel B3
  have b3 := belTo hg b2 B3
  have hg2 : g + 2 ≤ w2.heap.size := by omega
  clear x1 p1 b1 x2 p2 b2 B3 P0 X0 B0 c0 hs1 hs2 hsW hI
  generalize w2.alloc _ = W3 at *
  generalize w2.heap.size = g2 at *
  have HP := Lib.hid P3
  have HNB := Lib.hid N3
  refine wp_region_held_drew (S := (fun w9 => w9.rangeAt g 0 (peC x) ∧ w9.rangeAt g2 0 (peC (-1, 0)))) (by kernel_rfl) ?_ (fun hHeld => ?_)
  · exact ⟨HP.out.range, HNB.out.range⟩
  have P4 := HP.out.bel (drew_bel W3)
  have N4 := HNB.out.bel (drew_bel W3)
  have X4 := X3.bel (drew_bel W3)
  have b4 := belTo hg b3 (drew_bel W3)
  clear P3 N3 HP HNB X3 b3
  generalize World.drew W3 = W4 at *
  refine wpAnyH_take (i := 0) (oi := { dst := some 11, op := .load 28 (.tmp 1), type := 28, pos := "table.go:20", after := #[], guard := none }) (v := .agg (peA x)) rfl (by kernel_rfl) (by kernel_rfl) (by kernel_rfl) (fun _ _ _ h => h) (y_midP (by rfl) (.tmp 1) rfl g 0 rfl x (fun _ h => h.1)) (by assumption) ?_
  (try simp only [Act.put]); (try simp only [List.setIfInBounds_toArray]); (try simp only [List.set_cons_succ]); (try simp only [List.set_cons_zero])
  refine wpAnyH_take (i := 1) (oi := { dst := some 12, op := .load 28 (.tmp 4), type := 28, pos := "table.go:20", after := #[], guard := none }) (v := .agg (peA (-1, 0))) rfl (by kernel_rfl) (by kernel_rfl) (by kernel_rfl) (fun _ _ _ h => h) (y_midP (by rfl) (.tmp 4) rfl g2 0 rfl (-1, 0) (fun _ h => h.2)) (by assumption) ?_
  (try simp only [Act.put]); (try simp only [List.setIfInBounds_toArray]); (try simp only [List.set_cons_succ]); (try simp only [List.set_cons_zero])
  refine wpAnyH_take (i := 2) (oi := { dst := some 13, op := .load 28 (.tmp 4), type := 28, pos := "table.go:20", after := #[], guard := none }) (v := .agg (peA (-1, 0))) rfl (by kernel_rfl) (by kernel_rfl) (by kernel_rfl) (fun _ _ _ h => h) (y_midP (by rfl) (.tmp 4) rfl g2 0 rfl (-1, 0) (fun _ h => h.2)) (by assumption) ?_
  (try simp only [Act.put]); (try simp only [List.setIfInBounds_toArray]); (try simp only [List.set_cons_succ]); (try simp only [List.set_cons_zero])
  iterate 2
    (try dsimp only [List.getElem_toArray, List.getElem_cons_succ, List.getElem_cons_zero])
    (try simp only [Act.put]); (try simp only [List.setIfInBounds_toArray]); (try simp only [List.set_cons_succ]); (try simp only [List.set_cons_zero])
  have B5 := (Below.refl W4.heap.size W4).alloc (Nat.le_refl _) (.cells (peA (-1, 0)) 28)
  have P5 := P4.bel B5
  have N5 := N4.bel B5
  have X5 := X4.bel B5
  have b5 := belTo hg b4 B5
  have S5 := (PB.new W4 (-1, 0)).range
  have hg5 : g2 + 1 ≤ W4.heap.size := N4.lt
  refine wpAnyH_ready (rs := [3]) (by kernel_rfl) (by simp) ?_
  refine AllReadyH.cons rfl (fun K hK => ?_) ?_
  rotate_left
  · exact AllReadyH.nil
  rw [if_pos (by rfl)]
  refine o_sliceP _ rfl (-1, 0) rfl ?_
  refine hK.out _ _ ?_ (fun hHeld => ?_)
  · exact ⟨P5.range, N5.range⟩
  clear hK K
  (try simp only [Act.put]); (try simp only [List.setIfInBounds_toArray]); (try simp only [List.set_cons_succ]); (try simp only [List.set_cons_zero])
  clear P4 N4 X4 b4 B5
  generalize hg4 : W4.heap.size = g4 at *
  generalize W4.alloc _ = W5 at *
  have R5 := repeat_any (c0 := 1) (-1, 0) S5
  have hs5 : g4 + 1 ≤ W5.heap.size := range_lt S5 (pe_ne _)
  refine wpAnyH_ready (rs := [4]) (by kernel_rfl) (by simp) ?_
  refine AllReadyH.cons rfl (fun K hK => ?_) ?_
  rotate_left
  · exact AllReadyH.nil
  go_simp
  go_wp2_with (go_at_call 85; (with_reducible refine R5.mono ?_); rintro e w6 ⟨b, rfl, ⟨l6, d6⟩, hb6, k6⟩; have P6 := P5.bel k6; have N6 := N5.bel k6; have X6 := X5.bel k6; have b6 := belTo hg b5 k6; have hs6 := k6.size)
  refine hK.out _ _ ?_ (fun hHeld => ?_)
  · exact ⟨P6.range, N6.range⟩
  clear hK K
  (try simp only [Act.put]); (try simp only [List.setIfInBounds_toArray]); (try simp only [List.set_cons_succ]); (try simp only [List.set_cons_zero])
  iterate 2
    (try dsimp only [List.getElem_toArray, List.getElem_cons_succ, List.getElem_cons_zero])
    (try simp only [Act.put]); (try simp only [List.setIfInBounds_toArray]); (try simp only [List.set_cons_succ]); (try simp only [List.set_cons_zero])
  refine wpAnyH_take (i := 5) (oi := { dst := some 16, op := .build 43 #[(0, .tmp 11), (1, .tmp 12), (3, .tmp 15)], type := 43, pos := "table.go:20", after := #[{ on := 0, ground := .data }, { on := 1, ground := .data }, { on := 4, ground := .data }], guard := none }) (v := .agg (tabA x (-1, 0) nilS (.slice (some ⟨b, 0, none⟩) 160 160))) rfl (by kernel_rfl) (by kernel_rfl) (by kernel_rfl) (fun _ _ _ h => h) (y_buildT (by rfl) (.tmp 11) (.tmp 12) (.tmp 15) rfl x (-1, 0) _ 160 160 rfl rfl rfl) (by assumption) ?_
  (try simp only [Act.put]); (try simp only [List.setIfInBounds_toArray]); (try simp only [List.set_cons_succ]); (try simp only [List.set_cons_zero])
  iterate 2
    (try dsimp only [List.getElem_toArray, List.getElem_cons_succ, List.getElem_cons_zero])
    (try simp only [Act.put]); (try simp only [List.setIfInBounds_toArray]); (try simp only [List.set_cons_succ]); (try simp only [List.set_cons_zero])
  have P7 := pb_row P6 (tabA x (-1, 0) nilS (.slice (some ⟨b, 0, none⟩) 160 160)) (show g ≠ g + 1 by omega)
  have N7 := pb_row N6 (tabA x (-1, 0) nilS (.slice (some ⟨b, 0, none⟩) 160 160)) (show g2 ≠ g + 1 by omega)
  refine wpAnyH_ready (rs := [6]) (by kernel_rfl) (by simp) ?_
  refine AllReadyH.cons rfl (fun K hK => ?_) ?_
  rotate_left
  · exact AllReadyH.nil
  rw [if_pos (by rfl)]
  refine wp_store_row 43 _ _ rfl (g + 1) (tabA x (-1, 0) nilS (.slice (some ⟨b, 0, none⟩) 160 160)) rfl rfl 43 (tabA (0, 0) (0, 0) nilS nilS) X6 (by rw [tabA_size]; exact sizeT) (by rw [tabA_size, tabA_size]) (tabA_one rfl rfl) ?_
  refine hK.out _ _ ?_ (fun hHeld => ?_)
  · exact ⟨P7.range, N7.range⟩
  clear hK K
  (try simp only [Act.put]); (try simp only [List.setIfInBounds_toArray]); (try simp only [List.set_cons_succ]); (try simp only [List.set_cons_zero])
  refine wpAnyH_take (i := 7) (v := ?_) rfl (by kernel_rfl) (by kernel_rfl) (by kernel_rfl) (fun _ _ _ h => h) (Or.inl ⟨by rfl, ?_⟩) (by assumption) ?_
  rotate_left
  · intro w9 hSw
    (try dsimp only at hSw)
    go_simp
    (try with_reducible rfl)
  (try simp only [Act.put]); (try simp only [List.setIfInBounds_toArray]); (try simp only [List.set_cons_succ]); (try simp only [List.set_cons_zero])
  iterate 2
    (try dsimp only [List.getElem_toArray, List.getElem_cons_succ, List.getElem_cons_zero])
    (try simp only [Act.put]); (try simp only [List.setIfInBounds_toArray]); (try simp only [List.set_cons_succ]); (try simp only [List.set_cons_zero])
  refine wpAnyH_done (by kernel_rfl) ?_ _
  clear hHeld
  go_wp2
  exact bodyPost_ret (results_T2 Try.results64 _ _ (g + 1) _ rfl rfl (X6.set _ _ _ _)) rfl (new_one l6 d6 b6 hg (by omega))
theorem new_any {w : World} (x : Pe) : Calls Try.prog 64 #[.agg (peA x)] w fun e w' => NewP w.heap.size x (addrB x.1) e w' ∧ Below w.heap.size w w' :=
  new_core x _ fun w => (isAddr_any x.1 w).mono fun _ _ ⟨h1, h2⟩ => ⟨h1, h2 ▸ Below.refl _ _⟩
end Go.Proofs.Ytfajfmcabpmchaa
