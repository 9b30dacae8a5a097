/- .. and a look. -/
import Derived.Test.YtbjjbcjapkmnfaaBagStep2
import Derived.Deep.RegionHeld
namespace Go.Proofs.Ytbjjbcjapkmnfaa
open Go Go.RowKit Go.Sort
theorem x_eqlM {o : Oper} {a : Act} (w : World) (u v : Operand) (ho : o.op = .binOp .eql 33 u v 33)
    (m : Ml) (hx : a.eval u = .agg (mlC m)) (hy : a.eval v = .agg (mlC m)) : (execOp a.eval o).run Try.prog w = .ok (.value (.bool true)) w := by
  unfold execOp
  simp only [ho, hx, hy, Sem.run_bind, run_eqGuard_agg w .eql 33 u v _ _ guardM, run_eql_ml, Sem.run_pure, Result.andThen_ok]
/-- what stays in the last region of a step -/
def SB (B : Nat) (w0 : World) (g h M : Nat) (K : List Ml) (v : Value) (q q3 q5 : Nat) (s : Stp) (x : Ml) (w : World) : Prop := PB B w0 w g h M K K v q s ∧ Blk w q3 (mlC x) 33 ∧ Blk w q5 (mlC x) 33
theorem SB.cells {B : Nat} {w0 w : World} {g h M : Nat} {K : List Ml} {v : Value} {q q3 q5 : Nat} {s : Stp} {x : Ml} (t : SB B w0 g h M K v q q3 q5 s x w) : BoxC w q s ∧ (w.cell? ⟨q3, 0, none⟩ = some (.int .i64 x.fr) ∧ w.cell? ⟨q3, 1, none⟩ = some (.int .i64 x.to) ∧ w.cell? ⟨q3, 2, none⟩ = some (.string x.bd)) ∧ w.cell? ⟨q5, 0, none⟩ = some (.int .i64 x.fr) ∧ w.cell? ⟨q5, 1, none⟩ = some (.int .i64 x.to) ∧ w.cell? ⟨q5, 2, none⟩ = some (.string x.bd) :=
  ⟨t.1.cells, ⟨t.2.1.cell 0, t.2.1.cell 1, t.2.1.cell 2⟩, t.2.2.cell 0, t.2.2.cell 1, t.2.2.cell 2⟩
theorem SB.bel {B : Nat} {w0 w w' : World} {g h M : Nat} {K : List Ml} {v : Value} {q q3 q5 : Nat} {s : Stp} {x : Ml} (t : SB B w0 g h M K v q q3 q5 s x w) (hb : Below w.heap.size w w') : SB B w0 g h M K v q q3 q5 s x w' :=
  ⟨t.1.bel hb, t.2.1.below hb t.2.1.lt, t.2.2.below hb t.2.2.lt⟩
section
variable {B : Nat} {w0 : World} {g h M : Nat} {K : List Ml} {v : Value}

set_option maxRecDepth 100000 in
set_option maxHeartbeats 4000000 in
theorem step_look (w : World) (t : Pr B w0 w g h M K K v) (_ : M ≤ 1000) (hT : Short K) (kind : Int) (m : Ml) (i : Int) (k0 : ¬ kind = 0) (k1 : ¬ kind = 1) (k2 : ¬ kind = 2) (k3 : ¬ kind = 3) :
    Calls Try.prog 10 #[.pointer (some ⟨g, 0, none⟩), .pointer (some ⟨h, 0, none⟩), .agg #[.int .i64 kind, .int .i64 m.fr, .int .i64 m.to, .string m.bd, .int .i64 i]] w (StepP B w0 g h M) := by
  have t1 := t.box ⟨kind, m, i⟩
  clear t
  go_enter Try.func10, Try.ntmps10
  go_upto_region 1 with (fail)
  have T1 : Hid (PB B w0 (w.alloc (.cells #[.int .i64 kind, .int .i64 m.fr, .int .i64 m.to, .string m.bd, .int .i64 i] 35)) g h M K K v w.heap.size ⟨kind, m, i⟩) := t1
  clear t1
  generalize w.alloc _ = W at *
  generalize w.heap.size = q at *
  have z0 : (kind == 0) = false := by simp [k0]
  have z1 : (kind == 1) = false := by simp [k1]
  have z2 : (kind == 2) = false := by simp [k2]
  have z3 : (kind == 3) = false := by simp [k3]
  clear k0 k1 k2 k3
  have HK := Lib.hid hT
  have HP := Lib.hid (hb_at T1.out.pr.has i)
  have HQ : Hid (∀ w', PB B w0 w' g h M K K v q ⟨kind, m, i⟩ → _) := fun w' t' => pr_rat t'.pr i
  generalize atV K i = x at *
  generalize atE K i = er at *
  have zr : (er == er) = true := by simp
  obtain ⟨c0, c1, c2, c3, c4⟩ := T1.out.cells
  clear hT
  go_upto_region 13 with (first
    | (go_at_call 15; (with_reducible refine HP.out.mono ?_); rintro e w2 ⟨rfl, b2⟩; have T2 := Lib.hid (T1.out.bel b2); clear b2)
    | (refine p_storeM rfl _ _ rfl w2.heap.size rfl x rfl mlE rfl (Blk.new w2 mlE _) ?_))
  have b3 : Below w2.heap.size w2 ((w2.alloc (.cells mlE 33)).setRow w2.heap.size (mlC x)) := bel_setRow ((Below.refl _ _).alloc (Nat.le_refl _) _) (Nat.le_refl _) _
  have T3 := Lib.hid (T2.out.bel b3)
  have E3 := Lib.hid ((Blk.new w2 mlE 33).setRow (mlC x))
  clear b3 T2 T1 HP c0 c1 c2 c3 c4
  generalize w2.heap.size = q3 at *
  generalize World.setRow _ _ _ = W3 at *
  obtain ⟨c0, c1, c2, c3, c4⟩ := T3.out.cells
  have HQ2 := Lib.hid (HQ.out _ T3.out)
  go_upto_region 14 with (first
    | (go_at_call 23; (with_reducible refine HQ2.out.mono ?_); rintro e w4 ⟨rfl, b4⟩; have T4 := Lib.hid (T3.out.bel b4); have E4 := Lib.hid (E3.out.below b4 E3.out.lt); clear b4)
    | (refine p_storeM rfl _ _ rfl w4.heap.size rfl x rfl mlE rfl (Blk.new w4 mlE _) ?_))
  have b5 : Below w4.heap.size w4 ((w4.alloc (.cells mlE 33)).setRow w4.heap.size (mlC x)) := bel_setRow ((Below.refl _ _).alloc (Nat.le_refl _) _) (Nat.le_refl _) _
  have T5 := Lib.hid (T4.out.bel b5)
  have E5 := E4.out.below b5 E4.out.lt
  have F5 := (Blk.new w4 mlE 33).setRow (mlC x)
  clear b5 T4 T3 E4 E3 HQ HQ2 c0 c1 c2 c3 c4
  generalize w4.heap.size = q5 at *
  generalize World.setRow _ _ _ = W5 at *
  have hlen : (toL K m.to 0).length ≤ 1000000 := Nat.le_trans (toL_le _ _ _) T5.out.pr.rb.len
  have S6 : SB B w0 g h M K v q q3 q5 ⟨kind, m, i⟩ x W5.drew := ⟨T5.out.bel (drew_bel W5), E5, F5⟩
  have H6 := Lib.hid S6
  have HA := Lib.hid (hb_to S6.1.pr.has m.to)
  have HRTo := Lib.hid (fun (w' : World) (t' : SB B w0 g h M K v q q3 q5 ⟨kind, m, i⟩ x w') => pr_rto t'.1.pr m.to)
  clear S6 E5 F5
  refine wp_region_held_drew (S := SB B w0 g h M K v q q3 q5 ⟨kind, m, i⟩ x) (by kernel_rfl) H6.out (fun _ => ?_)
  refine wpAnyH_take (i := 0) (oi := { dst := some 88, op := Op.load 33 (Operand.tmp 11), type := 33, pos := "law.go:58", after := #[], guard := none }) (v := ?_) rfl (by kernel_rfl) (by kernel_rfl) (by kernel_rfl) (fun _ _ _ h => h) (Or.inl ⟨by rfl, ?_⟩) H6.out ?_
  rotate_left
  · intro w9 h9
    obtain ⟨⟨y0, y1, y2, y3, y4⟩, ⟨y5, y6, y7⟩, y8, y9, y10⟩ := SB.cells h9
    clear h9
    go_simp
    (try with_reducible rfl)
  (try simp only [Act.put]); (try simp only [List.setIfInBounds_toArray]); (try simp only [List.set_cons_succ]); (try simp only [List.set_cons_zero])
  refine wpAnyH_take (i := 1) (oi := { dst := some 89, op := Op.load 33 (Operand.tmp 13), type := 33, pos := "law.go:58", after := #[], guard := none }) (v := ?_) rfl (by kernel_rfl) (by kernel_rfl) (by kernel_rfl) (fun _ _ _ h => h) (Or.inl ⟨by rfl, ?_⟩) H6.out ?_
  rotate_left
  · intro w9 h9
    obtain ⟨⟨y0, y1, y2, y3, y4⟩, ⟨y5, y6, y7⟩, y8, y9, y10⟩ := SB.cells h9
    clear h9
    go_simp
    (try with_reducible rfl)
  (try simp only [Act.put]); (try simp only [List.setIfInBounds_toArray]); (try simp only [List.set_cons_succ]); (try simp only [List.set_cons_zero])
  refine wpAnyH_take (i := 2) (oi := { dst := some 90, op := Op.binOp BinOp.eql 33 (Operand.tmp 88) (Operand.tmp 89) 33, type := 4, pos := "law.go:58", after := #[{ on := 0, ground := Ground.data }, { on := 1, ground := Ground.data }], guard := none }) (v := .bool true) rfl (by kernel_rfl) (by kernel_rfl) (by kernel_rfl) (fun _ _ _ h => h) (Or.inl ⟨by rfl, ?_⟩) H6.out ?_
  · intro w9 _
    refine x_eqlM w9 (.tmp 88) (.tmp 89) ?_ x ?_ ?_
    all_goals rfl
  (try simp only [Act.put]); (try simp only [List.setIfInBounds_toArray]); (try simp only [List.set_cons_succ]); (try simp only [List.set_cons_zero])
  refine wpAnyH_take (i := 3) (oi := { dst := some 91, op := Op.move (Operand.tmp 90), type := 4, pos := "law.go:58", after := #[{ on := 2, ground := Ground.data }], guard := none }) (v := .bool true) rfl (by kernel_rfl) (by kernel_rfl) (by kernel_rfl) (fun _ _ _ h => h) (Or.inl ⟨by rfl, ?_⟩) H6.out ?_
  · intro w9 h9
    obtain ⟨⟨y0, y1, y2, y3, y4⟩, ⟨y5, y6, y7⟩, y8, y9, y10⟩ := SB.cells h9
    clear h9
    go_simp
    (try with_reducible rfl)
  (try simp only [Act.put]); (try simp only [List.setIfInBounds_toArray]); (try simp only [List.set_cons_succ]); (try simp only [List.set_cons_zero])
  refine wpAnyH_take (i := 4) (oi := { dst := some 92, op := Op.move (Operand.tmp 12), type := 25, pos := "law.go:58", after := #[{ on := 3, ground := Ground.guard }], guard := some (3, true) }) (v := ?_) rfl (by kernel_rfl) (by kernel_rfl) (by kernel_rfl) (fun _ _ _ h => h) (Or.inl ⟨by rfl, ?_⟩) H6.out ?_
  rotate_left
  · intro w9 h9
    obtain ⟨⟨y0, y1, y2, y3, y4⟩, ⟨y5, y6, y7⟩, y8, y9, y10⟩ := SB.cells h9
    clear h9
    go_simp
    (try with_reducible rfl)
  (try simp only [Act.put]); (try simp only [List.setIfInBounds_toArray]); (try simp only [List.set_cons_succ]); (try simp only [List.set_cons_zero])
  refine wpAnyH_take (i := 5) (oi := { dst := some 93, op := Op.move (Operand.tmp 14), type := 25, pos := "law.go:58", after := #[{ on := 3, ground := Ground.guard }], guard := some (3, true) }) (v := ?_) rfl (by kernel_rfl) (by kernel_rfl) (by kernel_rfl) (fun _ _ _ h => h) (Or.inl ⟨by rfl, ?_⟩) H6.out ?_
  rotate_left
  · intro w9 h9
    obtain ⟨⟨y0, y1, y2, y3, y4⟩, ⟨y5, y6, y7⟩, y8, y9, y10⟩ := SB.cells h9
    clear h9
    go_simp
    (try with_reducible rfl)
  (try simp only [Act.put]); (try simp only [List.setIfInBounds_toArray]); (try simp only [List.set_cons_succ]); (try simp only [List.set_cons_zero])
  refine wpAnyH_take (i := 6) (oi := { dst := some 94, op := Op.binOp BinOp.eql 25 (Operand.tmp 92) (Operand.tmp 93) 25, type := 4, pos := "law.go:58", after := #[{ on := 4, ground := Ground.data }, { on := 5, ground := Ground.data }, { on := 3, ground := Ground.guard }], guard := some (3, true) }) (v := .bool true) rfl (by kernel_rfl) (by kernel_rfl) (by kernel_rfl) (fun _ _ _ h => h) (Or.inl ⟨by rfl, ?_⟩) H6.out ?_
  · intro w9 h9
    obtain ⟨⟨y0, y1, y2, y3, y4⟩, ⟨y5, y6, y7⟩, y8, y9, y10⟩ := SB.cells h9
    clear h9
    go_simp
    (try with_reducible rfl)
  (try simp only [Act.put]); (try simp only [List.setIfInBounds_toArray]); (try simp only [List.set_cons_succ]); (try simp only [List.set_cons_zero])
  refine wpAnyH_take (i := 7) (oi := { dst := some 95, op := Op.pick (Operand.tmp 91) (Operand.tmp 94) (Operand.const (Value.bool false)), type := 4, pos := "law.go:58", after := #[{ on := 3, ground := Ground.data }, { on := 6, ground := Ground.data }], guard := none }) (v := .bool true) rfl (by kernel_rfl) (by kernel_rfl) (by kernel_rfl) (fun _ _ _ h => h) (Or.inl ⟨by rfl, ?_⟩) H6.out ?_
  · intro w9 h9
    obtain ⟨⟨y0, y1, y2, y3, y4⟩, ⟨y5, y6, y7⟩, y8, y9, y10⟩ := SB.cells h9
    clear h9
    go_simp
    (try with_reducible rfl)
  (try simp only [Act.put]); (try simp only [List.setIfInBounds_toArray]); (try simp only [List.set_cons_succ]); (try simp only [List.set_cons_zero])
  refine wpAnyH_take (i := 8) (oi := { dst := some 96, op := Op.move (Operand.tmp 95), type := 4, pos := "law.go:58", after := #[{ on := 7, ground := Ground.data }, { on := 3, ground := Ground.chain }], guard := none }) (v := .bool true) rfl (by kernel_rfl) (by kernel_rfl) (by kernel_rfl) (fun _ _ _ h => h) (Or.inl ⟨by rfl, ?_⟩) H6.out ?_
  · intro w9 h9
    obtain ⟨⟨y0, y1, y2, y3, y4⟩, ⟨y5, y6, y7⟩, y8, y9, y10⟩ := SB.cells h9
    clear h9
    go_simp
    (try with_reducible rfl)
  (try simp only [Act.put]); (try simp only [List.setIfInBounds_toArray]); (try simp only [List.set_cons_succ]); (try simp only [List.set_cons_zero])
  refine wpAnyH_take (i := 9) (oi := { dst := some 97, op := Op.move (Operand.tmp 0), type := 24, pos := "law.go:58", after := #[{ on := 8, ground := Ground.guard }], guard := some (8, true) }) (v := ?_) rfl (by kernel_rfl) (by kernel_rfl) (by kernel_rfl) (fun _ _ _ h => h) (Or.inl ⟨by rfl, ?_⟩) H6.out ?_
  rotate_left
  · intro w9 h9
    obtain ⟨⟨y0, y1, y2, y3, y4⟩, ⟨y5, y6, y7⟩, y8, y9, y10⟩ := SB.cells h9
    clear h9
    go_simp
    (try with_reducible rfl)
  (try simp only [Act.put]); (try simp only [List.setIfInBounds_toArray]); (try simp only [List.set_cons_succ]); (try simp only [List.set_cons_zero])
  refine wpAnyH_take (i := 10) (oi := { dst := some 98, op := Op.fieldAddr 35 (Operand.tmp 5) 1, type := 0, pos := "law.go:58", after := #[{ on := 8, ground := Ground.guard }], guard := some (8, true) }) (v := ?_) rfl (by kernel_rfl) (by kernel_rfl) (by kernel_rfl) (fun _ _ _ h => h) (Or.inl ⟨by rfl, ?_⟩) H6.out ?_
  rotate_left
  · intro w9 h9
    obtain ⟨⟨y0, y1, y2, y3, y4⟩, ⟨y5, y6, y7⟩, y8, y9, y10⟩ := SB.cells h9
    clear h9
    go_simp
    (try with_reducible rfl)
  (try simp only [Act.put]); (try simp only [List.setIfInBounds_toArray]); (try simp only [List.set_cons_succ]); (try simp only [List.set_cons_zero])
  refine wpAnyH_take (i := 11) (oi := { dst := some 99, op := Op.fieldAddr 33 (Operand.tmp 98) 1, type := 0, pos := "law.go:58", after := #[{ on := 10, ground := Ground.data }, { on := 8, ground := Ground.guard }], guard := some (8, true) }) (v := ?_) rfl (by kernel_rfl) (by kernel_rfl) (by kernel_rfl) (fun _ _ _ h => h) (Or.inl ⟨by rfl, ?_⟩) H6.out ?_
  rotate_left
  · intro w9 h9
    obtain ⟨⟨y0, y1, y2, y3, y4⟩, ⟨y5, y6, y7⟩, y8, y9, y10⟩ := SB.cells h9
    clear h9
    go_simp
    (try with_reducible rfl)
  (try simp only [Act.put]); (try simp only [List.setIfInBounds_toArray]); (try simp only [List.set_cons_succ]); (try simp only [List.set_cons_zero])
  refine wpAnyH_take (i := 12) (oi := { dst := some 100, op := Op.load 3 (Operand.tmp 99), type := 3, pos := "law.go:58", after := #[{ on := 11, ground := Ground.data }, { on := 8, ground := Ground.guard }], guard := some (8, true) }) (v := ?_) rfl (by kernel_rfl) (by kernel_rfl) (by kernel_rfl) (fun _ _ _ h => h) (Or.inl ⟨by rfl, ?_⟩) H6.out ?_
  rotate_left
  · intro w9 h9
    obtain ⟨⟨y0, y1, y2, y3, y4⟩, ⟨y5, y6, y7⟩, y8, y9, y10⟩ := SB.cells h9
    clear h9
    go_simp
    (try with_reducible rfl)
  (try simp only [Act.put]); (try simp only [List.setIfInBounds_toArray]); (try simp only [List.set_cons_succ]); (try simp only [List.set_cons_zero])
  refine wpAnyH_take (i := 14) (oi := { dst := some 102, op := Op.move (Operand.tmp 1), type := 28, pos := "law.go:58", after := #[{ on := 8, ground := Ground.guard }], guard := some (8, true) }) (v := ?_) rfl (by kernel_rfl) (by kernel_rfl) (by kernel_rfl) (fun _ _ _ h => h) (Or.inl ⟨by rfl, ?_⟩) H6.out ?_
  rotate_left
  · intro w9 h9
    obtain ⟨⟨y0, y1, y2, y3, y4⟩, ⟨y5, y6, y7⟩, y8, y9, y10⟩ := SB.cells h9
    clear h9
    go_simp
    (try with_reducible rfl)
  (try simp only [Act.put]); (try simp only [List.setIfInBounds_toArray]); (try simp only [List.set_cons_succ]); (try simp only [List.set_cons_zero])
  refine wpAnyH_take (i := 15) (oi := { dst := some 103, op := Op.fieldAddr 35 (Operand.tmp 5) 1, type := 0, pos := "law.go:58", after := #[{ on := 8, ground := Ground.guard }], guard := some (8, true) }) (v := ?_) rfl (by kernel_rfl) (by kernel_rfl) (by kernel_rfl) (fun _ _ _ h => h) (Or.inl ⟨by rfl, ?_⟩) H6.out ?_
  rotate_left
  · intro w9 h9
    obtain ⟨⟨y0, y1, y2, y3, y4⟩, ⟨y5, y6, y7⟩, y8, y9, y10⟩ := SB.cells h9
    clear h9
    go_simp
    (try with_reducible rfl)
  (try simp only [Act.put]); (try simp only [List.setIfInBounds_toArray]); (try simp only [List.set_cons_succ]); (try simp only [List.set_cons_zero])
  refine wpAnyH_take (i := 16) (oi := { dst := some 104, op := Op.fieldAddr 33 (Operand.tmp 103) 1, type := 0, pos := "law.go:58", after := #[{ on := 15, ground := Ground.data }, { on := 8, ground := Ground.guard }], guard := some (8, true) }) (v := ?_) rfl (by kernel_rfl) (by kernel_rfl) (by kernel_rfl) (fun _ _ _ h => h) (Or.inl ⟨by rfl, ?_⟩) H6.out ?_
  rotate_left
  · intro w9 h9
    obtain ⟨⟨y0, y1, y2, y3, y4⟩, ⟨y5, y6, y7⟩, y8, y9, y10⟩ := SB.cells h9
    clear h9
    go_simp
    (try with_reducible rfl)
  (try simp only [Act.put]); (try simp only [List.setIfInBounds_toArray]); (try simp only [List.set_cons_succ]); (try simp only [List.set_cons_zero])
  refine wpAnyH_take (i := 17) (oi := { dst := some 105, op := Op.load 3 (Operand.tmp 104), type := 3, pos := "law.go:58", after := #[{ on := 16, ground := Ground.data }, { on := 8, ground := Ground.guard }], guard := some (8, true) }) (v := ?_) rfl (by kernel_rfl) (by kernel_rfl) (by kernel_rfl) (fun _ _ _ h => h) (Or.inl ⟨by rfl, ?_⟩) H6.out ?_
  rotate_left
  · intro w9 h9
    obtain ⟨⟨y0, y1, y2, y3, y4⟩, ⟨y5, y6, y7⟩, y8, y9, y10⟩ := SB.cells h9
    clear h9
    go_simp
    (try with_reducible rfl)
  (try simp only [Act.put]); (try simp only [List.setIfInBounds_toArray]); (try simp only [List.set_cons_succ]); (try simp only [List.set_cons_zero])
  refine wpAnyH_ready (rs := [13]) (by kernel_rfl) (by simp) (AllReadyH.cons (o := { dst := some 101, op := Op.call { callee := Callee.value (Operand.func 17), args := #[Operand.tmp 97, Operand.tmp 100], argTypes := #[24, 3] }, type := 47, pos := "law.go:58", after := #[{ on := 9, ground := Ground.data }, { on := 12, ground := Ground.data }, { on := 8, ground := Ground.chain }, { on := 8, ground := Ground.guard }], guard := some (8, true) }) rfl (fun P1 hP => ?_) AllReadyH.nil)
  go_simp
  (with_reducible refine HA.out.mono ?_)
  rintro e w8 ⟨s1, n1, rfl, i1, b8⟩
  have H8 := Lib.hid (H6.out.bel b8)
  have I1 := Lib.hid i1
  have HB := Lib.hid (HRTo.out _ H8.out)
  clear i1 b8 HA HRTo
  go_simp
  refine hP.out _ _ H8.out (fun _ => ?_)
  clear hP P1
  (try simp only [Act.put]); (try simp only [List.setIfInBounds_toArray]); (try simp only [List.set_cons_succ]); (try simp only [List.set_cons_zero])
  refine wpAnyH_ready (rs := [18]) (by kernel_rfl) (by simp) (AllReadyH.cons (o := { dst := some 106, op := Op.call { callee := Callee.value (Operand.func 25), args := #[Operand.tmp 102, Operand.tmp 105], argTypes := #[28, 3] }, type := 47, pos := "law.go:58", after := #[{ on := 14, ground := Ground.data }, { on := 17, ground := Ground.data }, { on := 13, ground := Ground.chain }, { on := 8, ground := Ground.guard }], guard := some (8, true) }) rfl (fun P1 hP => ?_) AllReadyH.nil)
  go_simp
  (with_reducible refine HB.out.mono ?_)
  rintro e w9 ⟨s2, n2, rfl, i2, b9⟩
  have H9 := Lib.hid (H8.out.bel b9)
  have HI := Lib.hid (ints_same (I1.out.bel b9) i2 hlen)
  clear i2 b9 HB
  go_simp
  refine hP.out _ _ H9.out (fun _ => ?_)
  clear hP P1
  (try simp only [Act.put]); (try simp only [List.setIfInBounds_toArray]); (try simp only [List.set_cons_succ]); (try simp only [List.set_cons_zero])
  refine wpAnyH_ready (rs := [19]) (by kernel_rfl) (by simp) (AllReadyH.cons (o := { dst := some 107, op := Op.call { callee := Callee.value (Operand.func 24), args := #[Operand.tmp 101, Operand.tmp 106], argTypes := #[47, 47] }, type := 4, pos := "law.go:58", after := #[{ on := 13, ground := Ground.data }, { on := 18, ground := Ground.data }, { on := 18, ground := Ground.chain }, { on := 8, ground := Ground.guard }], guard := some (8, true) }) rfl (fun P1 hP => ?_) AllReadyH.nil)
  go_simp
  (with_reducible refine HI.out.mono ?_)
  rintro e w10 ⟨rfl, b10⟩
  have H10 := Lib.hid (H9.out.bel b10)
  clear b10
  go_simp
  refine hP.out _ _ H10.out (fun _ => ?_)
  clear hP P1
  (try simp only [Act.put]); (try simp only [List.setIfInBounds_toArray]); (try simp only [List.set_cons_succ]); (try simp only [List.set_cons_zero])
  refine wpAnyH_take (i := 20) (oi := { dst := some 108, op := Op.pick (Operand.tmp 96) (Operand.tmp 107) (Operand.const (Value.bool false)), type := 4, pos := "law.go:58", after := #[{ on := 8, ground := Ground.data }, { on := 19, ground := Ground.data }], guard := none }) (v := .bool true) rfl (by kernel_rfl) (by kernel_rfl) (by kernel_rfl) (fun _ _ _ h => h) (Or.inl ⟨by rfl, ?_⟩) H10.out ?_
  · intro w9 h9
    obtain ⟨⟨y0, y1, y2, y3, y4⟩, ⟨y5, y6, y7⟩, y8, y9, y10⟩ := SB.cells h9
    clear h9
    go_simp
    (try with_reducible rfl)
  (try simp only [Act.put]); (try simp only [List.setIfInBounds_toArray]); (try simp only [List.set_cons_succ]); (try simp only [List.set_cons_zero])
  refine wpAnyH_take (i := 21) (oi := { dst := some 6, op := Op.assign (Operand.tmp 108), type := 4, pos := "law.go:58", after := #[{ on := 20, ground := Ground.data }, { on := 19, ground := Ground.chain }, { on := 0, ground := Ground.phase }, { on := 1, ground := Ground.phase }, { on := 2, ground := Ground.phase }, { on := 3, ground := Ground.phase }, { on := 4, ground := Ground.phase }, { on := 5, ground := Ground.phase }, { on := 6, ground := Ground.phase }, { on := 7, ground := Ground.phase }, { on := 8, ground := Ground.phase }, { on := 9, ground := Ground.phase }, { on := 10, ground := Ground.phase }, { on := 11, ground := Ground.phase }, { on := 12, ground := Ground.phase }, { on := 13, ground := Ground.phase }, { on := 14, ground := Ground.phase }, { on := 15, ground := Ground.phase }, { on := 16, ground := Ground.phase }, { on := 17, ground := Ground.phase }, { on := 18, ground := Ground.phase }, { on := 19, ground := Ground.phase }, { on := 20, ground := Ground.phase }], guard := none }) (v := .bool true) rfl (by kernel_rfl) (by kernel_rfl) (by kernel_rfl) (fun _ _ _ h => h) (Or.inl ⟨by rfl, ?_⟩) H10.out ?_
  · intro w9 h9
    obtain ⟨⟨y0, y1, y2, y3, y4⟩, ⟨y5, y6, y7⟩, y8, y9, y10⟩ := SB.cells h9
    clear h9
    go_simp
    (try with_reducible rfl)
  (try simp only [Act.put]); (try simp only [List.setIfInBounds_toArray]); (try simp only [List.set_cons_succ]); (try simp only [List.set_cons_zero])
  refine wpAnyH_done (by kernel_rfl) ?_ _
  go_wp2
  go_ret
  exact StepP.mk H10.out.1 HK.out

theorem step_any (w : World) (t : Pr B w0 w g h M K K v) (hM : M ≤ 1000) (hT : Short K) (s : Stp) :
    Calls Try.prog 10 #[.pointer (some ⟨g, 0, none⟩), .pointer (some ⟨h, 0, none⟩), .agg #[.int .i64 s.kind, .int .i64 s.m.fr, .int .i64 s.m.to, .string s.m.bd, .int .i64 s.i]] w (StepP B w0 g h M) := by
  obtain ⟨kind, m, i⟩ := s
  by_cases k0 : kind = 0
  · subst k0; exact step_put w t hM hT m i
  by_cases k1 : kind = 1
  · subst k1; exact step_take w t hM hT m i
  by_cases k2 : kind = 2
  · subst k2; exact step_twice w t hM hT m i
  by_cases k3 : kind = 3
  · subst k3; exact step_lose w t hM hT m i
  exact step_look w t hM hT kind m i k0 k1 k2 k3
end
end Go.Proofs.Ytbjjbcjapkmnfaa
