/- What stands around a call that may panic, where it does not; find at a code; New, Wrap. -/
import Derived.Test.YtgpmfiphebmldaaDoorBlaIs
import Derived.Test.YtgpmfiphebmldaaDoorBlaMem
import Derived.Defers
import Derived.Recover
namespace Go.Proofs.YtgpmfiphebmldaaDoor
open Go.RowKit

theorem hmf (fn : Fn) (first cap : Array Value) (w : World) : (Instr.makeFunc fn first cap).run Tryd.prog w = .ok (.func fn first cap) w := rfl

/-! an error held against nil -/
theorem er_eql {w0 : World} {p : Nat → Prop} {v : Value} {t : ET} (h : Er w0 p v t) (w : World) : (binOp .eql 30 v .nilIface).run Tryd.prog w = .ok (.bool false) w := by cases h <;> kernel_rfl
theorem er_neq {w0 : World} {p : Nat → Prop} {v : Value} {t : ET} (h : Er w0 p v t) (w : World) : (binOp .neq 30 v .nilIface).run Tryd.prog w = .ok (.bool true) w := by cases h <;> kernel_rfl
theorem er_guard {w0 : World} {p : Nat → Prop} {v : Value} {t : ET} (h : Er w0 p v t) (o : BinOp) (x : Operand) (w : World) : (eqGuard o 30 x (.const .nilIface) v .nilIface).run Tryd.prog w = .ok () w := by cases h <;> cases o <;> kernel_rfl
theorem eo_eql {w0 : World} {p : Nat → Prop} {v : Value} {o : Option ET} (h : Eo w0 p v o) (w : World) : (binOp .eql 30 v .nilIface).run Tryd.prog w = .ok (.bool o.isNone) w := by
  cases o with
  | none => cases h; kernel_rfl
  | some t => exact er_eql h w
theorem eo_neq {w0 : World} {p : Nat → Prop} {v : Value} {o : Option ET} (h : Eo w0 p v o) (w : World) : (binOp .neq 30 v .nilIface).run Tryd.prog w = .ok (.bool o.isSome) w := by
  cases o with
  | none => cases h; kernel_rfl
  | some t => exact er_neq h w
theorem eo_guard {w0 : World} {p : Nat → Prop} {v : Value} {o : Option ET} (h : Eo w0 p v o) (b : BinOp) (x : Operand) (w : World) : (eqGuard b 30 x (.const .nilIface) v .nilIface).run Tryd.prog w = .ok () w := by
  cases o with
  | none => cases h; cases b <;> cases x <;> kernel_rfl
  | some t => exact er_guard h b x w

/-! what a type switch finds -/
theorem t_cc (v : Value) (xT : TypeId) (w : World) : (Instr.typeAssert (.iface 59 v) xT 59 true).run Tryd.prog w = .ok (.tuple #[v, .bool true]) w := by kernel_rfl
theorem t_cw (v : Value) (xT : TypeId) (w : World) : (Instr.typeAssert (.iface 59 v) xT 66 true).run Tryd.prog w = .ok (.tuple #[.pointer none, .bool false]) w := by kernel_rfl
theorem t_cj (v : Value) (xT : TypeId) (w : World) : (Instr.typeAssert (.iface 59 v) xT 75 true).run Tryd.prog w = .ok (.tuple #[.pointer none, .bool false]) w := by kernel_rfl
theorem t_wc (v : Value) (xT : TypeId) (w : World) : (Instr.typeAssert (.iface 66 v) xT 59 true).run Tryd.prog w = .ok (.tuple #[.int .i64 0, .bool false]) w := by kernel_rfl
theorem t_ww (v : Value) (xT : TypeId) (w : World) : (Instr.typeAssert (.iface 66 v) xT 66 true).run Tryd.prog w = .ok (.tuple #[v, .bool true]) w := by kernel_rfl
theorem t_wj (v : Value) (xT : TypeId) (w : World) : (Instr.typeAssert (.iface 66 v) xT 75 true).run Tryd.prog w = .ok (.tuple #[.pointer none, .bool false]) w := by kernel_rfl
theorem t_jc (v : Value) (xT : TypeId) (w : World) : (Instr.typeAssert (.iface 75 v) xT 59 true).run Tryd.prog w = .ok (.tuple #[.int .i64 0, .bool false]) w := by kernel_rfl
theorem t_jw (v : Value) (xT : TypeId) (w : World) : (Instr.typeAssert (.iface 75 v) xT 66 true).run Tryd.prog w = .ok (.tuple #[.pointer none, .bool false]) w := by kernel_rfl
theorem t_jj (v : Value) (xT : TypeId) (w : World) : (Instr.typeAssert (.iface 75 v) xT 75 true).run Tryd.prog w = .ok (.tuple #[v, .bool true]) w := by kernel_rfl
theorem t_nc (xT : TypeId) (w : World) : (Instr.typeAssert .nilIface xT 59 true).run Tryd.prog w = .ok (.tuple #[.int .i64 0, .bool false]) w := by kernel_rfl
theorem t_nw (xT : TypeId) (w : World) : (Instr.typeAssert .nilIface xT 66 true).run Tryd.prog w = .ok (.tuple #[.pointer none, .bool false]) w := by kernel_rfl
theorem t_nj (xT : TypeId) (w : World) : (Instr.typeAssert .nilIface xT 75 true).run Tryd.prog w = .ok (.tuple #[.pointer none, .bool false]) w := by kernel_rfl

theorem idle_b (w : World) : CallsD Tryd.prog 50 #[] .returning w fun e u' w' => e = .returned (.tuple #[]) ∧ u' = .returning ∧ w' = w := by
  refine callsD_of_wpS Tryd.func50 rfl fun c₀ cs hu => ?_
  apply wpS_region
  simp [wpOpsS, go_sem, recoverD, hu, Tryd.ntmps50, bodyPostS, results, Tryd.results50]
  cases c₀
  simp_all

theorem guarded_any (a b : Value) (w : World) (R : Bool → World → Prop) (h : Calls Tryd.prog 39 #[a, b] w fun e w' => ∃ r, e = .returned (.bool r) ∧ R r w') :
    Calls Tryd.prog 38 #[.func (.func 39) #[] #[a, b]] w fun e w' => ∃ r, e = .returned (.bool r) ∧ R r w' := by
  go_enter_defers Tryd.func38, Tryd.ntmps38
  go_wp2_with (go_at_call 39; refine h.mono ?_; rintro e w' ⟨r, rfl, hR⟩)
  refine leaves_cons (f := 50) (args := #[]) (by simp) (by simp [go_sem]) ?_
  refine (idle_b _).mono ?_
  rintro e u' w'' ⟨rfl, rfl, rfl⟩
  exact ⟨_, results_tmp rfl _ _ _, r, rfl, hR⟩
end Go.Proofs.YtgpmfiphebmldaaDoor
