/- Go's errors.Is, at an error that is a code. -/
import Derived.Test.YtgpmfiphebmldaaDoorBlaStd
namespace Go.Proofs.YtgpmfiphebmldaaDoor
open Go.RowKit Go.Extern.Stop Go.Stop Go.Extern

theorem i_comparable (w : World) : (callFunc 98 #[.agg #[.pointer (some ⟨4, 59, none⟩)]]).run Tryd.prog w = .ok (.value (.bool true)) w := by kernel_rfl
theorem i_method (v : Value) (w : World) : (Go.method 260 100 v "Comparable").run Tryd.prog w = .ok (98, v) w := by kernel_rfl
theorem i_comp : (Tryd.prog.info? 59).map (·.comparable) = some true := by kernel_rfl
theorem i_noIs (v : Value) (xT : TypeId) (w : World) : (Instr.typeAssert (.iface 59 v) xT 111 true).run Tryd.prog w = .ok (.tuple #[.nilIface, .bool false]) w := run_typeAssert_lacksB Tryd.underlying111 (by kernel_rfl) (by kernel_rfl) v xT w
theorem i_noUnwrap (v : Value) (xT : TypeId) (w : World) : (Instr.typeAssert (.iface 59 v) xT 107 true).run Tryd.prog w = .ok (.tuple #[.nilIface, .bool false]) w := run_typeAssert_lacksB Tryd.underlying107 (by kernel_rfl) (by kernel_rfl) v xT w
theorem i_noUnwraps (v : Value) (xT : TypeId) (w : World) : (Instr.typeAssert (.iface 59 v) xT 109 true).run Tryd.prog w = .ok (.tuple #[.nilIface, .bool false]) w := run_typeAssert_lacksB Tryd.underlying109 (by kernel_rfl) (by kernel_rfl) v xT w
theorem i_eql (c d : Int) (w : World) : (binOp .eql 30 (.iface 59 (.int .i64 c)) (.iface 59 (.int .i64 d))).run Tryd.prog w = .ok (.bool (c == d)) w := by
  obtain ⟨i, hi, hcmp⟩ := Option.map_eq_some_iff.1 i_comp
  simp only [binOp]
  have h : ∀ k : Nat, (Op.equalIn (k + 2) 30 (.iface 59 (.int .i64 c)) (.iface 59 (.int .i64 d))).run Tryd.prog w = .ok (c == d) w := fun k => by
    simp [Op.equalIn, run_underlying Tryd.underlying30, run_underlying Tryd.underlying59, typeInfo, hi, hcmp]
  simp [Op.equal, Op.maxDepth, h 9998]
theorem is_nil (d : Int) (w : World) : Calls Tryd.prog 33 #[.nilIface, .iface 59 (.int .i64 d)] w fun e w' => e = .returned (.bool false) ∧ w' = w := by
  have hn := run_eql_iface_nil_left (P := Tryd.prog) w 59 (.int .i64 d) Tryd.underlying30
  go_enter Tryd.func33, Tryd.ntmps33
  go_wp2
  go_ret
  exact ⟨rfl, rfl⟩
theorem is_code (c d : Int) (w : World) : Calls Tryd.prog 33 #[.iface 59 (.int .i64 c), .iface 59 (.int .i64 d)] w fun e w' => e = .returned (.bool (c == d)) ∧ w' = w := by
  have h8 := @run_callFunc_extern Tryd.prog 44 _ ReflectliteType.typeOf Tryd.func44 (by kernel_rfl) (by kernel_rfl) (by kernel_rfl) (by kernel_rfl)
  have tT := a_typeOf
  have cT := i_comparable
  have mR := i_method
  have nE := i_noIs
  have uE := i_noUnwrap
  have vE := i_noUnwraps
  have heq := i_eql
  by_cases h : (c == d) = true
  · rw [h]
    go_enter Tryd.func33, Tryd.ntmps33
    go_wp2
    refine wp_loop_rounds 1 ?_
    rw [rounds_succ]
    go_wp2
    go_ret
    exact ⟨rfl, rfl⟩
  · rw [Bool.not_eq_true] at h
    rw [h]
    go_enter Tryd.func33, Tryd.ntmps33
    go_wp2
    refine wp_loop_rounds 1 ?_
    rw [rounds_succ]
    go_wp2
    go_ret
    exact ⟨rfl, rfl⟩
end Go.Proofs.YtgpmfiphebmldaaDoor
