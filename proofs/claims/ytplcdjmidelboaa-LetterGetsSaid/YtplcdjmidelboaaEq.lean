/- Two places are compared: what '==' and '!=' tell of two arrays of twenty bytes. -/
import Derived.Test.YtplcdjmidelboaaMem
namespace Go.Proofs.Ytplcdjmidelboaa
open Go.RowKit
theorem info5 : (Try.prog.info? 5).map (·.size) = some 1 := by kernel_rfl
theorem run_part5 (l : List Nat) (i : Nat) (h : i < l.length) (w : World) : (Go.part 5 (row l) i).run Try.prog w = .ok (.int .u8 ((l[i] : Nat) : Int)) w := by
  have ha : (isAgg 5).run Try.prog w = .ok false w := by
    unfold isAgg
    rw [Sem.run_bind, run_underlying Try.underlying5 w]
    rfl
  have hg : (row l)[i]? = some (.int .u8 ((l[i] : Nat) : Int)) := by rw [row_get, List.getElem?_eq_getElem h]; rfl
  simp [Go.part, ha, hg]
theorem run_equalIn_row (d : Nat) (l m : List Nat) (hl : l.length = 20) (hm : m.length = 20) (w : World) : (Op.equalIn (d + 2) 23 (.agg (row l)) (.agg (row m))).run Try.prog w = .ok (l == m) w := by
  rw [Op.equalIn]
  simp only [Sem.run_bind, run_underlying Try.underlying23, Result.andThen_ok]
  have hs : (sizeOf 5).run Try.prog w = .ok 1 w := by
    have := info5
    cases hq : Try.prog.info? 5 with
    | none => simp [hq] at this
    | some i => simp [hq] at this; simp [sizeOf, typeInfo, hq, this]
  simp only [hs, Result.andThen_ok]
  rw [Std.Legacy.Range.forIn_eq_forIn_range']
  simp only [Nat.mul_one, Std.Legacy.Range.size, Nat.sub_zero, Nat.add_sub_cancel, Nat.div_one]
  have key : ∀ k s, s + k = 20 → (forIn (List.range' s k) ((none, ()) : Option Bool × Unit) fun i __s => do
            let __do_lift ← Go.part 5 (row l) i
            let __do_lift_1 ← Go.part 5 (row m) i
            let __do_lift ← Op.equalIn (d + 1) 5 __do_lift __do_lift_1
            if (!__do_lift) = true then pure (ForInStep.done (some false, ())) else pure (ForInStep.yield (none, ()))).run Try.prog w
      = .ok (if l.drop s = m.drop s then (none, ()) else (some false, ())) w := by
    intro k
    induction k with
    | zero =>
      intro s hs
      rw [List.drop_of_length_le (by omega), List.drop_of_length_le (by omega)]
      simp
    | succ k ih =>
      intro s hs
      rw [List.range'_succ, List.forIn_cons]
      simp only [Sem.run_bind, run_part5 l s (by omega) w, run_part5 m s (by omega) w, Result.andThen_ok, run_equalIn_int w d 5 .u8 .u8 _ _ Try.underlying5]
      have hc : (l.drop s = m.drop s) = (l[s] = m[s] ∧ l.drop (s + 1) = m.drop (s + 1)) := by
        rw [List.drop_eq_getElem_cons (show s < l.length by omega), List.drop_eq_getElem_cons (show s < m.length by omega), List.cons.injEq]
      by_cases e : l[s] = m[s]
      · have e' : (((l[s] : Nat) : Int) == ((m[s] : Nat) : Int)) = true := by rw [e]; exact beq_self_eq_true _
        simp only [e', Bool.not_true, Bool.false_eq_true, if_false, Sem.run_pure, Result.andThen_ok]
        rw [ih (s + 1) (by omega)]
        simp only [hc, e, true_and]
      · have e' : (((l[s] : Nat) : Int) == ((m[s] : Nat) : Int)) = false := by rw [beq_eq_false_iff_ne]; omega
        simp only [e', Bool.not_false, if_true, Sem.run_pure, Result.andThen_ok]
        simp only [hc, e, false_and, if_false]
  rw [key 20 0 (by omega)]
  simp only [List.drop_zero, Result.andThen_ok]
  by_cases e : l = m
  · simp [e]
  · simp [e]

theorem beq_dig {a b : Nat} (ha : a < M) (hb : b < M) : (dig 20 a == dig 20 b) = decide (a = b) := by
  rw [Bool.eq_iff_iff, beq_iff_eq, decide_eq_true_iff]
  constructor
  · intro h
    have h2 := dig_inj h
    unfold M at ha hb
    rwa [Nat.mod_eq_of_lt ha, Nat.mod_eq_of_lt hb] at h2
  · rintro rfl; rfl

theorem run_eql_id (a b : Nat) (ha : a < M) (hb : b < M) (w : World) : (binOp .eql 23 (idv a) (idv b)).run Try.prog w = .ok (.bool (decide (a = b))) w := by
  unfold idv
  rw [run_eql_struct, run_equalIn_row 9998 _ _ (dig_length _ _) (dig_length _ _), beq_dig ha hb]
  rfl
theorem run_neq_id (a b : Nat) (ha : a < M) (hb : b < M) (w : World) : (binOp .neq 23 (idv a) (idv b)).run Try.prog w = .ok (.bool (!decide (a = b))) w := by
  unfold idv
  rw [run_neq_struct, run_equalIn_row 9998 _ _ (dig_length _ _) (dig_length _ _), beq_dig ha hb]
  rfl
theorem guard23 : Try.prog.eqGuardType Try.prog.depth 23 = false := by kernel_rfl
end Go.Proofs.Ytplcdjmidelboaa
