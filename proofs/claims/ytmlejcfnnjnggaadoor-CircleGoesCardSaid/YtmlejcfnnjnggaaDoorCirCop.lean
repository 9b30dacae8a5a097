/- Copies, the ends of an arc, and no peer. -/
import Derived.Test.YtmlejcfnnjnggaaDoorCirOwn
namespace Go.Proofs.YtmlejcfnnjnggaaDoor
set_option maxRecDepth 100000
open Go Go.RowKit Go.Sort

theorem p_min {P : Program} {ops : Array Oper} {rest : List Oper} {o : Oper} {a : Act} {w : World} {Q : Exit → Act → World → Prop} (hgd : o.guard = none) (x y : Operand) (t1 t2 : TypeId)
    (ho : o.op = .call { callee := .builtin .min, args := #[x, y], argTypes := #[t1, t2] }) (X Y : Int) (hx : a.eval x = .int .i64 X) (hy : a.eval y = .int .i64 Y) (k : Nat) (hk : (if Y < X then Y else X) = (k : Int))
    (h : wpList P ops Q rest (a.put o.dst (.int .i64 (k : Int))) w) : wpList P ops Q (o :: rest) a w := by
  refine wpList_plain hgd fun K hK => ?_
  have hr := run_min_int2 (P := P) w #[t1, t2] o.type .i64 .i64 X Y
  rw [hk] at hr
  unfold Oper.wp
  simp [execOp, ho, resolve, invoke, builtin, hx, hy, hr, Result.andThen]
  exact hK _ _ h
set_option maxHeartbeats 2000000 in
theorem Copies_yes {w : World} {v : Value} {L : List Pe} (id : Nat) (r : Int) (hL : Lies w v L) (hw : Wf L) (hid : id < M) (hC : Circ L) (h1 : 1 ≤ r) (h8 : r ≤ 8) :
    Calls Tryd.prog 16 #[v, idv id, .int .i64 r] w fun e w' => ∃ u, e = .returned (.tuple #[u, .int .i64 0]) ∧ Row w.heap.size w' u (copyN L id (min r.toNat L.length)) ∧ Below w.heap.size w w' := by
  obtain ⟨a, c, rfl⟩ := hL.form
  obtain ⟨h0, hn⟩ := hC.pos
  have h16 := hC.1.2
  have B0 : Below w.heap.size w (w.alloc (.cells (row (dig 20 id)) 32)) := (Below.refl w.heap.size w).alloc (Nat.le_refl _) _
  have I0 := At.new w id
  have hI := is_any (hL.bel B0) hw hn
  rw [isB_yes hC] at hI
  have HI := Lib.hid hI
  have HO : Hid (∀ w1, Below (w.alloc (.cells (row (dig 20 id)) 32)).heap.size (w.alloc (.cells (row (dig 20 id)) 32)) w1 → Calls Tryd.prog 39 #[.slice a L.length c, idv id] w1 fun e w' => e = .returned (.int .i64 (ownN L id : Nat)) ∧ Below w1.heap.size w1 w') :=
    fun w1 hb => owner_any id ((hL.bel B0).bel hb) hC.rise hw hid h0 hn
  have hlt := own_lt h0 id
  have HR : Hid (∀ (q : Nat) (w1 : World), q ≤ 8 → Calls Tryd.prog 40 #[.slice a L.length c, .int .i64 ((ownN L id : Nat) + (q : Int))] w1 fun e w' => e = .returned (.int .i64 (((ownN L id + q) % L.length : Nat) : Int)) ∧ w1 = w') := fun q w1 hq => by
    rw [← Int.natCast_add]
    exact round_any a L.length c (ownN L id + q) h0 (by omega) w1
  have HS : Hid (∀ k, ints (copyN L id k) ++ [.int .i64 (((ownN L id + k) % L.length : Nat) : Int)] = ints (copyN L id (k + 1))) := fun k => by rw [ints_snoc, copyN_succ]
  have HCL : Hid (∀ k, (copyN L id k).length = k) := copyN_len L id
  have HC0 : Hid (copyN L id 0 = []) := rfl
  obtain ⟨k, hk⟩ : ∃ k, k = min r.toNat L.length := ⟨_, rfl⟩
  rw [← hk]
  have hmin : (if (L.length : Int) < r then (L.length : Int) else r) = (k : Int) := by
    rw [hk, Nat.min_def]; split <;> split <;> omega
  have hk8 : k ≤ 8 := by omega
  have HMin := Lib.hid hmin
  have HB := Lib.hid B0
  have d1 : decide (r < 1) = false := decide_eq_false (by omega)
  have d2 : decide (8 < r) = false := decide_eq_false (by omega)
  clear hL hw h0 hn hC hI B0 hid h1 h8 hk hmin
  have hlen16 : ((ownN L id : Nat) : Int) < 16 := by omega
  have hpos : (0 : Int) ≤ ((ownN L id : Nat) : Int) := by omega
  clear hlt h16
  generalize hp : ownN L id = p at *
  generalize hcp : copyN L id = cp at *
  clear hp hcp
  generalize L.length = n at *
  rw [show idv id = .agg (row (dig 20 id)) from rfl]
  go_enter Tryd.func16, Tryd.ntmps16
  go_upto_region 1 with (fail)
  generalize w.alloc _ = W at *
  go_wp2_with (first
    | (go_at_call 12; (with_reducible refine HI.out.mono ?_); rintro e w1 ⟨rfl, hb⟩; have I1 := I0.below hb)
    | (refine p_load rfl _ rfl _ rfl id I1 ?_)
    | (go_at_call 39; (with_reducible refine (HO.out _ hb).mono ?_); rintro e w2 ⟨rfl, hb2⟩)
    | (refine p_min rfl _ _ _ _ rfl _ _ rfl rfl k HMin.out ?_))
  have HB2 := Lib.hid (step (step HB.out hb) hb2)
  clear I0 I1 hb hb2 HI HO HB
  go_loopw [9, 29] (fun v i wr => ∃ q : Nat, q ≤ k ∧ i = .int .i64 (q : Int) ∧ wr.ownsRow w.heap.size 3 1 v q (ints (cp q)) ∧ Below w.heap.size w wr) (fun _ i _ => k - (intOf i).toNat)
  case atStart => exact ⟨0, by omega, rfl, by rw [HC0.out]; exact World.ownsRow_nil _ _ _ _, HB2.out⟩
  case round =>
    obtain ⟨q, hq, rfl, hO, hB⟩ := hrel
    have HO := Lib.hid hO
    have HB := Lib.hid hB
    clear hO hB
    by_cases hlt : q < k
    · have HR2 := Lib.hid (HR.out q wr (by omega))
      have HS2 := Lib.hid (HS.out q)
      have hq8 : (q : Int) < 8 := by omega
      generalize (p + q) % n = x at *
      go_wp2_with (first
        | (go_at_call 40; (with_reducible refine HR2.out.mono ?_); rintro e w3 ⟨rfl, rfl⟩)
        | (refine wpList_append1 rfl _ _ 22 rfl w.heap.size 3 (.int .i64 0) 8 Tryd.underlying22 infoN rfl _ q _ rfl HO.out (.int .i64 (x : Int)) rfl rfl (by omega) (by omega) HB.out HB.out.size ?_; intro v' w' hO' B'))
      rw [HS2.out] at hO'
      exact ⟨⟨q + 1, by omega, by go_num, hO', B'⟩, by simp [intOf]; omega⟩
    · obtain rfl : k = q := by omega
      go_wp2
      go_ret2
      refine ⟨_, rfl, ?_, HB.out⟩
      unfold Row
      rw [HCL.out]
      exact HO.out
end Go.Proofs.YtmlejcfnnjnggaaDoor
