/- The document's row: a letter, its bytes, and what is read of them. -/
import Derived.Test.YtplcdjmidelboaaLetSame
import Derived.Test.YtplcdjmidelboaaLetGet4
import Derived.Test.YtplcdjmidelboaaLetPut2
import Derived.Test.YtplcdjmidelboaaLetRef
import Derived.Test.YtplcdjmidelboaaLetBack
namespace Go.Proofs.Ytplcdjmidelboaa
set_option maxRecDepth 100000
open Go Go.RowKit Go.Sort

theorem belTo {g : Nat} {w W X : World} (hg : w.heap.size = g) (h : Below g w W) (k : Below W.heap.size W X) : Below g w X := h.trans (k.mono (hg ▸ h.size))
def rowL : Lt := { kind := 6, fr := (5, 0), req := 7, id := 0, avoid := [], done := false, peer := noP, peers := [] }
theorem ltm_nil {l : Lt} (w : World) (ha : l.avoid = []) (hp : l.peers = []) : LtM w l nilS nilS := ⟨by rw [ha]; exact nums_nil w, by rw [hp]; exact lies_nil w⟩
theorem rowL_wf : rowL.Wf := ⟨by decide, M_pos, by decide, M_pos, M_pos, fun x hx => by cases hx⟩
theorem rowL_isR : rightB rowL = true := by kernel_rfl
theorem rowL_right : Right rowL := (rightB_iff rowL_wf).1 rowL_isR
theorem zeroL_no : rightB zeroL = false := by kernel_rfl
theorem zeroL_wf : zeroL.Wf := ⟨by decide, M_pos, by decide, M_pos, M_pos, fun x hx => by cases hx⟩
theorem rowS : txt (putN rowL) = (⟨#[1, 6, 1, 5]⟩ ++ ⟨#[0, 0, 0, 0, 0, 0, 0, 0, 0, 0, 0, 0, 0, 0, 0, 0, 0, 0, 0, 0]⟩ ++ ⟨#[1, 7]⟩ : ByteArray) := by decide +kernel
theorem builtRow (p q : Pe) : Try.prog.built 30 [(0, .int .i64 6), (1, .agg (peA p)), (2, .int .u64 7), (6, .agg (peA q))] = some (ltA { zeroL with kind := 6, fr := p, req := 7, peer := q } nilS nilS) := by kernel_rfl
theorem built5 : Try.prog.built 25 [(0, .int .i64 5)] = some (peA (5, 0)) := by kernel_rfl
theorem p_build5 {ops : Array Oper} {rest : List Oper} {o : Oper} {a : Act} {w : World} {Q : Exit → Act → World → Prop} (hgd : o.guard = none) (ho : o.op = .build 25 #[(0, .const (.int .i64 5))])
    (h : wpList Try.prog ops Q rest (a.put o.dst (.agg (peA (5, 0)))) w) : wpList Try.prog ops Q (o :: rest) a w := by
  refine wpList_plain hgd fun K hK => ?_
  have e := run_build (P := Try.prog) w 25 #[(0, .int .i64 5)] _ built5
  unfold Oper.wp execOp
  simp only [ho, List.map_toArray, List.map_cons, List.map_nil, Act.eval, Sem.run_bind, e, Sem.run_pure, Result.andThen_ok]
  exact hK _ _ h
theorem p_buildRow {ops : Array Oper} {rest : List Oper} {o : Oper} {a : Act} {w : World} {Q : Exit → Act → World → Prop} (hgd : o.guard = none) (y z : Operand) (ho : o.op = .build 30 #[(0, .const (.int .i64 6)), (1, y), (2, .const (.int .u64 7)), (6, z)])
    (p q : Pe) (hy : a.eval y = .agg (peA p)) (hz : a.eval z = .agg (peA q)) (h : wpList Try.prog ops Q rest (a.put o.dst (.agg (ltA { zeroL with kind := 6, fr := p, req := 7, peer := q } nilS nilS))) w) : wpList Try.prog ops Q (o :: rest) a w := by
  refine wpList_plain hgd fun K hK => ?_
  have e := run_build (P := Try.prog) w 30 #[(0, .int .i64 6), (1, .agg (peA p)), (2, .int .u64 7), (6, .agg (peA q))] _ (builtRow p q)
  unfold Oper.wp execOp
  have e6 : a.eval (.const (.int .i64 6)) = .int .i64 6 := rfl
  have e7 : a.eval (.const (.int .u64 7)) = .int .u64 7 := rfl
  simp only [ho, List.map_toArray, List.map_cons, List.map_nil, hy, hz, e6, e7, Sem.run_bind, e, Sem.run_pure, Result.andThen_ok]
  exact hK _ _ h
theorem p_build0L {ops : Array Oper} {rest : List Oper} {o : Oper} {a : Act} {w : World} {Q : Exit → Act → World → Prop} (hgd : o.guard = none) (ho : o.op = .build 30 #[])
    (h : wpList Try.prog ops Q rest (a.put o.dst (.agg (ltA zeroL nilS nilS))) w) : wpList Try.prog ops Q (o :: rest) a w := by
  refine wpList_plain hgd fun K hK => ?_
  have e := run_build (P := Try.prog) w 30 #[] _ built0
  unfold Oper.wp execOp
  simp only [ho, List.map_toArray, List.map_nil, Sem.run_bind, e, Sem.run_pure, Result.andThen_ok]
  exact hK _ _ h
theorem sameL_self {l : Lt} (h : l.Wf) : sameL l l = true := (sameL_iff h h).2 rfl
/-- a letter that was got stands below -/
theorem LtM.one1 {w : World} {l : Lt} {u v : Value} (h : LtM w l u v) : u.oneCell' = true := h.a.one
theorem LtM.one2 {w : World} {l : Lt} {u v : Value} (h : LtM w l u v) : v.oneCell' = true := by obtain ⟨a, c, rfl⟩ := h.p.form; rfl

set_option maxHeartbeats 4000000 in
theorem lettered_any (w : World) : Calls Try.prog 11 #[] w fun e w' => e = .returned (.bool true) ∧ Below w.heap.size w w' := by
  have hS : bytesN (txt (putN rowL)) = putN rowL := bytesN_txt _ (putN_lt rowL_right rowL_wf)
  have HP : Hid (∀ W, Calls Try.prog 9 #[.agg (ltA rowL nilS nilS)] W fun e w' => e = .returned (.tuple #[.string (⟨#[1, 6, 1, 5]⟩ ++ ⟨#[0, 0, 0, 0, 0, 0, 0, 0, 0, 0, 0, 0, 0, 0, 0, 0, 0, 0, 0, 0]⟩ ++ ⟨#[1, 7]⟩), .int .i64 0]) ∧ Below W.heap.size W w') := fun W => by
    rw [← rowS]; exact put_yes (ltm_nil W rfl rfl) rowL_wf (by decide) (by decide) rowL_right
  have HG : Hid (∀ W, Calls Try.prog 14 #[.string (⟨#[1, 6, 1, 5]⟩ ++ ⟨#[0, 0, 0, 0, 0, 0, 0, 0, 0, 0, 0, 0, 0, 0, 0, 0, 0, 0, 0, 0]⟩ ++ ⟨#[1, 7]⟩)] W fun e w' => ∃ u v, e = .returned (.tuple #[.agg (ltA rowL u v), .int .i64 0]) ∧ LtM w' rowL u v ∧ Below W.heap.size W w') := fun W => by
    rw [← rowS]
    refine (Get_any _ W (by rw [txt_size]; decide +kernel)).mono fun e w' h => ?_
    obtain ⟨u, v, h1, h2⟩ := h.ok rowL (by rw [hS]; exact getN_put rowL_right rowL_wf)
    exact ⟨u, v, h1, h2, h.below⟩
  have HZ : Hid (∀ W, Calls Try.prog 9 #[.agg (ltA zeroL nilS nilS)] W fun e w' => e = .returned (.tuple #[.string ⟨#[]⟩, .int .i64 1]) ∧ Below W.heap.size W w') := fun W => put_no (ltm_nil W rfl rfl) (by decide) (by decide) (by decide) zeroL_no
  have HI : Hid (∀ W, Calls Try.prog 12 #[.agg (ltA rowL nilS nilS)] W fun e w' => e = .returned (.bool true) ∧ Below W.heap.size W w') := fun W => by rw [← rowL_isR]; exact is_any (ltm_nil W rfl rfl) (by decide) (by decide) (by decide)
  have HM : Hid (∀ W u v, LtM W rowL u v → Calls Try.prog 16 #[.agg (ltA rowL nilS nilS), .agg (ltA rowL u v)] W fun e w' => e = .returned (.bool true) ∧ Below W.heap.size W w') := fun W u v h => by
    rw [← sameL_self rowL_wf]; exact same_any (ltm_nil W rfl rfl) h rowL_wf rowL_wf (by decide) (by decide) (by decide) (by decide)
  have hcat : ∀ (A B C : ByteArray), ((A ++ B ++ C).toList == (A ++ B ++ C).toList) = true := fun _ _ _ => beq_self_eq_true _
  clear hS
  have hB0 := Below.refl w.heap.size w
  obtain ⟨g, hg⟩ : ∃ g, w.heap.size = g := ⟨_, rfl⟩
  rw [hg] at hB0
  go_enter Try.func11, Try.ntmps11
  go_upto_region 2 with (first
    | (refine p_build5 rfl rfl ?_)
    | (go_at_call 31; (with_reducible refine (refnone_any _).mono ?_); rintro e w1 ⟨rfl, k1⟩; have b1 := belTo hg hB0 k1)
    | (refine p_buildRow rfl _ _ rfl (5, 0) (-1, 0) rfl rfl ?_)
    | ((with_reducible show wpList _ _ _ (Oper.mk _ (Op.store _ _ _) _ _ _ _ :: _) _ _); refine p_newL rfl rfl _ _ rfl rfl rfl rfl rfl ?_))
  have L0 := LB.new w1 rowL nilS nilS
  have kk := (Below.refl w1.heap.size w1).alloc (Nat.le_refl _) (.cells (ltA rowL nilS nilS) 30)
  have b2 := belTo hg b1 kk
  clear hB0 b1 kk k1
  rw [show ({ kind := 6, fr := (5, 0), req := 7, id := zeroL.id, avoid := zeroL.avoid, done := zeroL.done, peer := (-1, 0), peers := zeroL.peers } : Lt) = rowL from rfl]
  generalize w1.heap.size = q at *
  generalize w1.alloc _ = W at *
  go_upto_region 4 with (first
    | (refine p_midL rfl _ rfl q rfl L0 ?_)
    | (go_at_call 9; (with_reducible refine (HP.out _).mono ?_); rintro e w2 ⟨rfl, k2⟩; have b3 := belTo hg b2 k2; have L2 := L0.bel k2))
  clear b2 k2 L0 HP
  go_upto_region 5 with (first
    | (go_at_call 14; (with_reducible refine (HG.out _).mono ?_); rintro e w3 ⟨u, v, rfl, M3, k3⟩; have b4 := belTo hg b3 k3; have L3 := L2.bel k3; have o1 := M3.one1; have o2 := M3.one2)
    | ((with_reducible show wpList _ _ _ (Oper.mk _ (Op.store _ _ _) _ _ _ _ :: _) _ _); refine p_newL rfl rfl _ _ rfl rfl rfl o1 o2 ?_))
  have R0 := LB.new w3 rowL u v
  have kk := (Below.refl w3.heap.size w3).alloc (Nat.le_refl _) (.cells (ltA rowL u v) 30)
  have b5 := belTo hg b4 kk
  have L4 := L3.bel kk
  have M4 := M3.bel kk
  clear b3 b4 kk k3 L3 M3 L2 HG o1 o2
  generalize w3.heap.size = z at *
  generalize w3.alloc _ = X at *
  go_upto_region 6 with (first
    | (refine p_build0L rfl rfl ?_)
    | (go_at_call 9; (with_reducible refine (HZ.out _).mono ?_); rintro e w4 ⟨rfl, k4⟩; have b6 := belTo hg b5 k4; have L5 := L4.bel k4; have M5 := M4.bel k4; have R5 := R0.bel k4))
  clear b5 k4 L4 M4 R0 HZ
  go_wp2_with (first
    | go_big_skip
    | (go_guarded; refine o_midL _ rfl q rfl L5 ?_; simp only [Act.put, List.setIfInBounds_toArray, List.set_cons_succ, List.set_cons_zero])
    | (go_guarded; refine o_midL _ rfl z rfl R5 ?_; simp only [Act.put, List.setIfInBounds_toArray, List.set_cons_succ, List.set_cons_zero])
    | (go_at_call 16; (with_reducible refine (HM.out _ _ _ M5).mono ?_); rintro e w6 ⟨rfl, k6⟩; have b7 := belTo hg b6 k6; have L6 := L5.bel k6)
    | (go_guarded; refine o_midL _ rfl q rfl L6 ?_; simp only [Act.put, List.setIfInBounds_toArray, List.set_cons_succ, List.set_cons_zero])
    | (go_at_call 12; (with_reducible refine (HI.out _).mono ?_); rintro e w7 ⟨rfl, k7⟩; have b8 := belTo hg b7 k7))
  go_ret
  exact ⟨rfl, by (try rw [hg]); exact b8⟩
end Go.Proofs.Ytplcdjmidelboaa
