/- What stands around a call that may throw an error: what is thrown is told, and nothing beside it. -/
import Derived.Test.YtkicndengkcojaaRecMem
namespace Go.Proofs.Ytkicndengkcojaa
set_option maxRecDepth 100000
open Go Go.RowKit Go.Sort

theorem run_thrown (n : Int) (w : World) : (Instr.typeAssert (.iface 29 (.int .i64 n)) 20 29 false).run Try.prog w = .ok (.int .i64 n) w := by kernel_rfl
theorem run_some_thrown (n : Int) (w : World) : (binOp .neq 20 (.iface 29 (.int .i64 n)) .nilIface).run Try.prog w = .ok (.bool true) w := by kernel_rfl
theorem run_none_thrown (w : World) : (binOp .neq 20 .nilIface .nilIface).run Try.prog w = .ok (.bool false) w := by kernel_rfl

theorem catchS_thrown (p : Addr) (n : Nat) (x : Value) (w : World) (hc : w.cell? p = some x) (hz : w.frozen? p = false) :
    CallsD Try.prog 74 #[.pointer (some p)] (.panicking [{ v := .iface 29 (.int .i64 (n : Int)), recovered := false }]) w fun e u' w' =>
      e = .returned (.tuple #[]) ∧ u' = .panicking [{ v := .iface 29 (.int .i64 (n : Int)), recovered := true }] ∧ w' = w.setCell p (.int .i64 (n : Int)) := by
  have h1 := run_thrown n
  have h2 := run_some_thrown n
  refine callsD_of_wpS Try.func74 rfl fun c₀ cs hu => ?_
  apply wpS_seq
  apply wpS_region
  simp [wpOpsS, go_sem, recoverD, hu, Try.ntmps74, Exit.thenS]
  apply wpS_seq
  apply wpS_region
  simp [wpOpsS, go_sem, h2, Exit.thenS]
  refine wpS_cond (t := true) (by simp [Act.eval, Array.replicate]) ?_
  simp only [if_true]
  apply wpS_region
  simp [wpOpsS, go_sem, hc, hz, h1, bodyPostS, results, Try.results74]
theorem catchS_idle (p : Addr) (w : World) :
    CallsD Try.prog 74 #[.pointer (some p)] .returning w fun e u' w' => e = .returned (.tuple #[]) ∧ u' = .returning ∧ w' = w := by
  have h2 := run_none_thrown
  refine callsD_of_wpS Try.func74 rfl fun c₀ cs hu => ?_
  apply wpS_seq
  apply wpS_region
  simp [wpOpsS, go_sem, recoverD, hu, Try.ntmps74, Exit.thenS]
  apply wpS_seq
  apply wpS_region
  simp [wpOpsS, go_sem, h2, Exit.thenS]
  refine wpS_cond (t := false) (by simp [Act.eval, Array.replicate]) ?_
  simp only [Bool.false_eq_true, if_false]
  refine wpS_of_wp (wp_skip ?_)
  cases c₀
  simp_all [bodyPostS, results, Try.results74]

theorem catchR_thrown (p : Addr) (n : Nat) (x : Value) (w : World) (hc : w.cell? p = some x) (hz : w.frozen? p = false) :
    CallsD Try.prog 83 #[.pointer (some p)] (.panicking [{ v := .iface 29 (.int .i64 (n : Int)), recovered := false }]) w fun e u' w' =>
      e = .returned (.tuple #[]) ∧ u' = .panicking [{ v := .iface 29 (.int .i64 (n : Int)), recovered := true }] ∧ w' = w.setCell p (.int .i64 (n : Int)) := by
  have h1 := run_thrown n
  have h2 := run_some_thrown n
  refine callsD_of_wpS Try.func83 rfl fun c₀ cs hu => ?_
  apply wpS_seq
  apply wpS_region
  simp [wpOpsS, go_sem, recoverD, hu, Try.ntmps83, Exit.thenS]
  apply wpS_seq
  apply wpS_region
  simp [wpOpsS, go_sem, h2, Exit.thenS]
  refine wpS_cond (t := true) (by simp [Act.eval, Array.replicate]) ?_
  simp only [if_true]
  apply wpS_region
  simp [wpOpsS, go_sem, hc, hz, h1, bodyPostS, results, Try.results83]
theorem catchR_idle (p : Addr) (w : World) :
    CallsD Try.prog 83 #[.pointer (some p)] .returning w fun e u' w' => e = .returned (.tuple #[]) ∧ u' = .returning ∧ w' = w := by
  have h2 := run_none_thrown
  refine callsD_of_wpS Try.func83 rfl fun c₀ cs hu => ?_
  apply wpS_seq
  apply wpS_region
  simp [wpOpsS, go_sem, recoverD, hu, Try.ntmps83, Exit.thenS]
  apply wpS_seq
  apply wpS_region
  simp [wpOpsS, go_sem, h2, Exit.thenS]
  refine wpS_cond (t := false) (by simp [Act.eval, Array.replicate]) ?_
  simp only [Bool.false_eq_true, if_false]
  refine wpS_of_wp (wp_skip ?_)
  cases c₀
  simp_all [bodyPostS, results, Try.results83]

theorem catchT_thrown (p : Addr) (n : Nat) (x : Value) (w : World) (hc : w.cell? p = some x) (hz : w.frozen? p = false) :
    CallsD Try.prog 99 #[.pointer (some p)] (.panicking [{ v := .iface 29 (.int .i64 (n : Int)), recovered := false }]) w fun e u' w' =>
      e = .returned (.tuple #[]) ∧ u' = .panicking [{ v := .iface 29 (.int .i64 (n : Int)), recovered := true }] ∧ w' = w.setCell p (.int .i64 (n : Int)) := by
  have h1 := run_thrown n
  have h2 := run_some_thrown n
  refine callsD_of_wpS Try.func99 rfl fun c₀ cs hu => ?_
  apply wpS_seq
  apply wpS_region
  simp [wpOpsS, go_sem, recoverD, hu, Try.ntmps99, Exit.thenS]
  apply wpS_seq
  apply wpS_region
  simp [wpOpsS, go_sem, h2, Exit.thenS]
  refine wpS_cond (t := true) (by simp [Act.eval, Array.replicate]) ?_
  simp only [if_true]
  apply wpS_region
  simp [wpOpsS, go_sem, hc, hz, h1, bodyPostS, results, Try.results99]
theorem catchT_idle (p : Addr) (w : World) :
    CallsD Try.prog 99 #[.pointer (some p)] .returning w fun e u' w' => e = .returned (.tuple #[]) ∧ u' = .returning ∧ w' = w := by
  have h2 := run_none_thrown
  refine callsD_of_wpS Try.func99 rfl fun c₀ cs hu => ?_
  apply wpS_seq
  apply wpS_region
  simp [wpOpsS, go_sem, recoverD, hu, Try.ntmps99, Exit.thenS]
  apply wpS_seq
  apply wpS_region
  simp [wpOpsS, go_sem, h2, Exit.thenS]
  refine wpS_cond (t := false) (by simp [Act.eval, Array.replicate]) ?_
  simp only [Bool.false_eq_true, if_false]
  refine wpS_of_wp (wp_skip ?_)
  cases c₀
  simp_all [bodyPostS, results, Try.results99]

theorem load_err (w : World) (g : Nat) (n : Int) (hc : w.cell? ⟨g, 0, none⟩ = some (.int .i64 n)) : (loadVar 29 ⟨g, 0, none⟩).run Try.prog w = .ok (.int .i64 n) w := by
  simp [go_sem, hc]
theorem results_recc {fn : Func} {p q : Tmp} (h : fn.results = #[.cell p 27, .cell q 29]) (tmps : Array Value) (w : World) (g g2 : Nat) (r : Rc) (u : Value) (n : Int)
    (hp : tmps.getD p undef = .pointer (some ⟨g, 0, none⟩)) (hq : tmps.getD q undef = .pointer (some ⟨g2, 0, none⟩)) (hg : Blk w g (recC r u) 27) (hc : w.cell? ⟨g2, 0, none⟩ = some (.int .i64 n)) :
    (results fn tmps).run Try.prog w = .ok (.tuple #[.agg (recC r u), .int .i64 n]) w := by
  have hp' : tmps[p]?.getD undef = .pointer (some ⟨g, 0, none⟩) := by simpa using hp
  have hq' : tmps[q]?.getD undef = .pointer (some ⟨g2, 0, none⟩) := by simpa using hq
  have h2 := load_err w g2 n hc
  simp [results, h, hp', hq', asAddr, run_loadVar_row w g 27 27 (recC r u) (0, 0) _ hg Try.underlying27 rfl infoRec, h2]
/-- the cells of two records -/
def two (a : Rc) (u : Value) (b : Rc) (v : Value) : Array Value := #[.int .i64 a.kind, u, .int .i64 a.nl, .int .u64 (a.nb : Int), .int .u64 (a.mark : Int), .int .i64 b.kind, v, .int .i64 b.nl, .int .u64 (b.nb : Int), .int .u64 (b.mark : Int)]
theorem zero_two : (#[.int .i64 0, .slice none 0 0, .int .i64 0, .int .u64 0, .int .u64 0, .int .i64 0, .slice none 0 0, .int .i64 0, .int .u64 0, .int .u64 0] : Array Value) = two zeroR (.slice none 0 0) zeroR (.slice none 0 0) := rfl
theorem infoTwo : (Try.prog.info? 90).map (·.size) = some 10 := by kernel_rfl
theorem two_one {a : Rc} {u : Value} {b : Rc} {v : Value} (h : u.oneCell' = true) (h' : v.oneCell' = true) : (two a u b v).all (·.oneCell') = true := by cases u <;> cases v <;> simp_all [two, Value.oneCell']
theorem noIt_two (a : Rc) (u : Value) (b : Rc) (v : Value) : NoIt (two a u b v) := by
  intro o k s h1 h2
  match o, h1, h2 with
  | 0, h1, h2 => simp [two] at h1
  | 1, h1, h2 => simp [two] at h2
  | 2, h1, h2 => simp [two] at h1
  | 3, h1, h2 => simp [two] at h2
  | 4, h1, h2 => simp [two] at h2
  | 5, h1, h2 => simp [two] at h1
  | 6, h1, h2 => simp [two] at h2
  | 7, h1, h2 => simp [two] at h1
  | 8, h1, h2 => simp [two] at h2
  | 9, h1, h2 => simp [two] at h2
  | o + 10, h1, h2 => simp [two] at h1
theorem p_storeT {ops : Array Oper} {rest : List Oper} {o : Oper} {a : Act} {w : World} {Q : Exit → Act → World → Prop} (hgd : o.guard = none) (x y : Operand) (ho : o.op = .store 90 x y)
    (g : Nat) (hx : a.eval x = .pointer (some ⟨g, 0, none⟩)) (r : Rc) (u : Value) (q : Rc) (v : Value) (hy : a.eval y = .agg (two r u q v)) (hu : u.oneCell' = true) (hv : v.oneCell' = true) (r' : Rc) (u' : Value) (q' : Rc) (v' : Value) (hg : Blk w g (two r' u' q' v') 90)
    (h : wpList Try.prog ops Q rest (a.put o.dst undef) (w.setRow g (two r u q v))) : wpList Try.prog ops Q (o :: rest) a w :=
  wpList_store_row hgd 90 x y ho g (two r u q v) hx hy 90 (two r' u' q' v') hg infoTwo rfl (two_one hu hv) h
theorem results_twoc {fn : Func} {p q : Tmp} (h : fn.results = #[.cell p 90, .cell q 29]) (tmps : Array Value) (w : World) (g g2 : Nat) (r : Rc) (u : Value) (b : Rc) (v : Value) (n : Int)
    (hp : tmps.getD p undef = .pointer (some ⟨g, 0, none⟩)) (hq : tmps.getD q undef = .pointer (some ⟨g2, 0, none⟩)) (hg : Blk w g (two r u b v) 90) (hc : w.cell? ⟨g2, 0, none⟩ = some (.int .i64 n)) :
    (results fn tmps).run Try.prog w = .ok (.tuple #[.agg (two r u b v), .int .i64 n]) w := by
  have hp' : tmps[p]?.getD undef = .pointer (some ⟨g, 0, none⟩) := by simpa using hp
  have hq' : tmps[q]?.getD undef = .pointer (some ⟨g2, 0, none⟩) := by simpa using hq
  have h2 := load_err w g2 n hc
  simp [results, h, hp', hq', asAddr, run_loadVar_row w g 90 90 (two r u b v) (0, 0) _ hg Try.underlying90 rfl infoTwo, h2]

theorem guardS_ok (cap : Array Value) (s : ByteArray) (w : World) (HF : Hid (∀ w1, Below w.heap.size w w1 → Calls Try.prog 33 cap w1 fun e w' => e = .returned (.string s) ∧ Below w1.heap.size w1 w')) :
    Calls Try.prog 32 #[.func (.func 33) #[] cap] w fun e w' => e = .returned (.tuple #[.string s, .int .i64 0]) ∧ Below w.heap.size w w' := by
  have hmf : ∀ (fn : Fn) (first cap : Array Value) (w : World), (Instr.makeFunc fn first cap).run Try.prog w = .ok (.func fn first cap) w := fun _ _ _ _ => rfl
  go_enter_defers Try.func32, Try.ntmps32
  go_upto_region 1 with (fail)
  have A0 := Blk.new w #[.int .i64 0] 29
  have B0 := (Below.refl w.heap.size w).alloc (Nat.le_refl _) (.cells #[.int .i64 0] 29)
  generalize w.alloc _ = W at *
  go_wp2_with (go_at_call 33; (with_reducible refine (HF.out _ B0).mono ?_); rintro e w1 ⟨rfl, hb1⟩; have A1 := A0.below hb1 A0.lt; have c0 : w1.cell? ⟨w.heap.size, 0, none⟩ = some (.int .i64 0) := A1.cell 0; have f0 : w1.frozen? ⟨w.heap.size, 0, none⟩ = false := A1.free 0)
  have A2 := A1.put 0 (.int .i64 0)
  have B2 := (B0.trans (hb1.mono B0.size)).setCell (p := ⟨w.heap.size, 0, none⟩) (Nat.le_refl _) (.int .i64 0)
  generalize w1.setCell _ _ = W2 at *
  have c2 : W2.cell? ⟨w.heap.size, 0, none⟩ = some (.int .i64 0) := A2.cell 0
  refine leaves_cons (f := 74) (args := #[.pointer (some ⟨w.heap.size, 0, none⟩)]) (by simp) (by simp [go_sem]) ?_
  refine (catchS_idle ⟨w.heap.size, 0, none⟩ _).mono ?_
  rintro e u' w'' ⟨rfl, rfl, rfl⟩
  simp [Leaves, settle, results, Try.results32, go_sem, c2]
  exact B2
theorem guardS_no (cap : Array Value) (n : Nat) (w : World) (HF : Hid (∀ w1, Below w.heap.size w w1 → Calls Try.prog 33 cap w1 fun e w' => e = Pan n ∧ Below w1.heap.size w1 w')) :
    Calls Try.prog 32 #[.func (.func 33) #[] cap] w fun e w' => e = .returned (.tuple #[.string ⟨#[]⟩, .int .i64 (n : Int)]) ∧ Below w.heap.size w w' := by
  have hmf : ∀ (fn : Fn) (first cap : Array Value) (w : World), (Instr.makeFunc fn first cap).run Try.prog w = .ok (.func fn first cap) w := fun _ _ _ _ => rfl
  go_enter_defers Try.func32, Try.ntmps32
  go_upto_region 1 with (fail)
  have A0 := Blk.new w #[.int .i64 0] 29
  have B0 := (Below.refl w.heap.size w).alloc (Nat.le_refl _) (.cells #[.int .i64 0] 29)
  generalize w.alloc _ = W at *
  go_wp2_with (go_at_call 33; (with_reducible refine (HF.out _ B0).mono ?_); rintro e w1 ⟨he, hb1⟩; rw [pan_eq] at he; subst he)
  rename_i w1
  have A1 := A0.below hb1 A0.lt
  have A2 := A1.put 0 (.int .i64 (n : Int))
  have B2 := (B0.trans (hb1.mono B0.size)).setCell (p := ⟨w.heap.size, 0, none⟩) (Nat.le_refl _) (.int .i64 (n : Int))
  have c2 : (w1.setCell ⟨w.heap.size, 0, none⟩ (.int .i64 (n : Int))).cell? ⟨w.heap.size, 0, none⟩ = some (.int .i64 (n : Int)) := A2.cell 0
  refine leaves_cons (f := 74) (args := #[.pointer (some ⟨w.heap.size, 0, none⟩)]) (by simp) (by simp [go_sem]) ?_
  refine (catchS_thrown ⟨w.heap.size, 0, none⟩ n _ _ (A1.cell 0) (A1.free 0)).mono ?_
  rintro e u' w'' ⟨rfl, rfl, rfl⟩
  generalize w1.setCell _ _ = W2 at *
  simp [Leaves, settle, results, Try.results32, go_sem, c2]
  exact B2

theorem guardGet_ok (cap : Array Value) (r : Rc) (w : World) (HF : Hid (∀ w1, Below w.heap.size w w1 → Calls Try.prog 44 cap w1 fun e w' => ∃ u, e = .returned (.agg (recC r u)) ∧ Told w' u r.items ∧ Below w1.heap.size w1 w')) :
    Calls Try.prog 43 #[.func (.func 44) #[] cap] w fun e w' => ∃ u, e = .returned (.tuple #[.agg (recC r u), .int .i64 0]) ∧ Told w' u r.items ∧ Below w.heap.size w w' := by
  have hmf : ∀ (fn : Fn) (first cap : Array Value) (w : World), (Instr.makeFunc fn first cap).run Try.prog w = .ok (.func fn first cap) w := fun _ _ _ _ => rfl
  go_enter_defers Try.func43, Try.ntmps43
  go_upto_region 1 with (fail)
  rw [zero_rec]
  have Z0 := (Blk.new w (recC zeroR (.slice none 0 0)) 27).alloc (.cells #[.int .i64 0] 29)
  have A0 := Blk.new (w.alloc (.cells (recC zeroR (.slice none 0 0)) 27)) #[.int .i64 0] 29
  have B0 := ((Below.refl w.heap.size w).alloc (Nat.le_refl _) (.cells (recC zeroR (.slice none 0 0)) 27)).alloc (by simp) (.cells #[.int .i64 0] 29)
  simp only [World.size_alloc] at A0
  generalize (w.alloc _).alloc _ = W at *
  go_wp2_with (first
    | (go_at_call 44; (with_reducible refine (HF.out _ B0).mono ?_); rintro e w1 ⟨u, rfl, ht, hb1⟩; have A1 := A0.below hb1 A0.lt; have Z1 := Z0.below hb1 Z0.lt; have c0 : (w1.setRow w.heap.size (recC r u)).cell? ⟨w.heap.size + 1, 0, none⟩ = some (.int .i64 0) := (A1.setRow_other w.heap.size (recC r u) (by omega)).cell 0; have f0 : (w1.setRow w.heap.size (recC r u)).frozen? ⟨w.heap.size + 1, 0, none⟩ = false := (A1.setRow_other w.heap.size (recC r u) (by omega)).free 0)
    | (refine p_storeR rfl _ _ rfl _ rfl r u rfl (told_one ht) zeroR (.slice none 0 0) Z1 ?_))
  have A2 := (A1.setRow_other w.heap.size (recC r u) (by omega)).put 0 (.int .i64 0)
  have Z2 := (Z1.setRow (recC r u)).other (w.heap.size + 1) 0 (.int .i64 0) (by omega)
  have B1 := B0.trans (hb1.mono B0.size)
  have T2 := told_setCell (told_setRow ht Z1 (noIt_rec _ _) (recC r u)) (A1.setRow_other w.heap.size (recC r u) (by omega)) (noIt_int _) 0 (.int .i64 0)
  have B2 := (bel_setRow B1 (Nat.le_refl _) (recC r u)).setCell (p := ⟨w.heap.size + 1, 0, none⟩) (by simp) (.int .i64 0)
  generalize (w1.setRow _ _).setCell _ _ = W2 at *
  have c2 : W2.cell? ⟨w.heap.size + 1, 0, none⟩ = some (.int .i64 0) := A2.cell 0
  refine leaves_cons (f := 83) (args := #[.pointer (some ⟨w.heap.size + 1, 0, none⟩)]) (by simp) (by simp [go_sem]) ?_
  refine (catchR_idle ⟨w.heap.size + 1, 0, none⟩ _).mono ?_
  rintro e u' w'' ⟨rfl, rfl, rfl⟩
  exact ⟨_, results_recc Try.results43 _ _ w.heap.size (w.heap.size + 1) _ _ _ rfl rfl Z2 c2, u, rfl, T2, B2⟩

theorem guardGet_no (cap : Array Value) (n : Nat) (w : World) (HF : Hid (∀ w1, Below w.heap.size w w1 → Calls Try.prog 44 cap w1 fun e w' => e = Pan n ∧ Below w1.heap.size w1 w')) :
    Calls Try.prog 43 #[.func (.func 44) #[] cap] w fun e w' => e = .returned (.tuple #[.agg (recC zeroR (.slice none 0 0)), .int .i64 (n : Int)]) ∧ Below w.heap.size w w' := by
  have hmf : ∀ (fn : Fn) (first cap : Array Value) (w : World), (Instr.makeFunc fn first cap).run Try.prog w = .ok (.func fn first cap) w := fun _ _ _ _ => rfl
  go_enter_defers Try.func43, Try.ntmps43
  go_upto_region 1 with (fail)
  rw [zero_rec]
  have Z0 := (Blk.new w (recC zeroR (.slice none 0 0)) 27).alloc (.cells #[.int .i64 0] 29)
  have A0 := Blk.new (w.alloc (.cells (recC zeroR (.slice none 0 0)) 27)) #[.int .i64 0] 29
  have B0 := ((Below.refl w.heap.size w).alloc (Nat.le_refl _) (.cells (recC zeroR (.slice none 0 0)) 27)).alloc (by simp) (.cells #[.int .i64 0] 29)
  simp only [World.size_alloc] at A0
  generalize (w.alloc _).alloc _ = W at *
  go_wp2_with (go_at_call 44; (with_reducible refine (HF.out _ B0).mono ?_); rintro e w1 ⟨he, hb1⟩; rw [pan_eq] at he; subst he)
  rename_i w1
  have A1 := A0.below hb1 A0.lt
  have Z1 := Z0.below hb1 Z0.lt
  have A2 := A1.put 0 (.int .i64 (n : Int))
  have Z2 := Z1.other (w.heap.size + 1) 0 (.int .i64 (n : Int)) (by omega)
  have B2 := (B0.trans (hb1.mono B0.size)).setCell (p := ⟨w.heap.size + 1, 0, none⟩) (by simp) (.int .i64 (n : Int))
  have c2 : (w1.setCell ⟨w.heap.size + 1, 0, none⟩ (.int .i64 (n : Int))).cell? ⟨w.heap.size + 1, 0, none⟩ = some (.int .i64 (n : Int)) := A2.cell 0
  refine leaves_cons (f := 83) (args := #[.pointer (some ⟨w.heap.size + 1, 0, none⟩)]) (by simp) (by simp [go_sem]) ?_
  refine (catchR_thrown ⟨w.heap.size + 1, 0, none⟩ n _ _ (A1.cell 0) (A1.free 0)).mono ?_
  rintro e u' w'' ⟨rfl, rfl, rfl⟩
  exact ⟨_, results_recc Try.results43 _ _ w.heap.size (w.heap.size + 1) _ _ _ rfl rfl Z2 c2, rfl, B2⟩

theorem guardWith_ok (cap : Array Value) (r : Rc) (w : World) (HF : Hid (∀ w1, Below w.heap.size w w1 → Calls Try.prog 53 cap w1 fun e w' => ∃ u, e = .returned (.agg (recC r u)) ∧ Told w' u r.items ∧ Below w1.heap.size w1 w')) :
    Calls Try.prog 43 #[.func (.func 53) #[] cap] w fun e w' => ∃ u, e = .returned (.tuple #[.agg (recC r u), .int .i64 0]) ∧ Told w' u r.items ∧ Below w.heap.size w w' := by
  have hmf : ∀ (fn : Fn) (first cap : Array Value) (w : World), (Instr.makeFunc fn first cap).run Try.prog w = .ok (.func fn first cap) w := fun _ _ _ _ => rfl
  go_enter_defers Try.func43, Try.ntmps43
  go_upto_region 1 with (fail)
  rw [zero_rec]
  have Z0 := (Blk.new w (recC zeroR (.slice none 0 0)) 27).alloc (.cells #[.int .i64 0] 29)
  have A0 := Blk.new (w.alloc (.cells (recC zeroR (.slice none 0 0)) 27)) #[.int .i64 0] 29
  have B0 := ((Below.refl w.heap.size w).alloc (Nat.le_refl _) (.cells (recC zeroR (.slice none 0 0)) 27)).alloc (by simp) (.cells #[.int .i64 0] 29)
  simp only [World.size_alloc] at A0
  generalize (w.alloc _).alloc _ = W at *
  go_wp2_with (first
    | (go_at_call 53; (with_reducible refine (HF.out _ B0).mono ?_); rintro e w1 ⟨u, rfl, ht, hb1⟩; have A1 := A0.below hb1 A0.lt; have Z1 := Z0.below hb1 Z0.lt; have c0 : (w1.setRow w.heap.size (recC r u)).cell? ⟨w.heap.size + 1, 0, none⟩ = some (.int .i64 0) := (A1.setRow_other w.heap.size (recC r u) (by omega)).cell 0; have f0 : (w1.setRow w.heap.size (recC r u)).frozen? ⟨w.heap.size + 1, 0, none⟩ = false := (A1.setRow_other w.heap.size (recC r u) (by omega)).free 0)
    | (refine p_storeR rfl _ _ rfl _ rfl r u rfl (told_one ht) zeroR (.slice none 0 0) Z1 ?_))
  have A2 := (A1.setRow_other w.heap.size (recC r u) (by omega)).put 0 (.int .i64 0)
  have Z2 := (Z1.setRow (recC r u)).other (w.heap.size + 1) 0 (.int .i64 0) (by omega)
  have B1 := B0.trans (hb1.mono B0.size)
  have T2 := told_setCell (told_setRow ht Z1 (noIt_rec _ _) (recC r u)) (A1.setRow_other w.heap.size (recC r u) (by omega)) (noIt_int _) 0 (.int .i64 0)
  have B2 := (bel_setRow B1 (Nat.le_refl _) (recC r u)).setCell (p := ⟨w.heap.size + 1, 0, none⟩) (by simp) (.int .i64 0)
  generalize (w1.setRow _ _).setCell _ _ = W2 at *
  have c2 : W2.cell? ⟨w.heap.size + 1, 0, none⟩ = some (.int .i64 0) := A2.cell 0
  refine leaves_cons (f := 83) (args := #[.pointer (some ⟨w.heap.size + 1, 0, none⟩)]) (by simp) (by simp [go_sem]) ?_
  refine (catchR_idle ⟨w.heap.size + 1, 0, none⟩ _).mono ?_
  rintro e u' w'' ⟨rfl, rfl, rfl⟩
  exact ⟨_, results_recc Try.results43 _ _ w.heap.size (w.heap.size + 1) _ _ _ rfl rfl Z2 c2, u, rfl, T2, B2⟩

theorem guardWith_no (cap : Array Value) (n : Nat) (w : World) (HF : Hid (∀ w1, Below w.heap.size w w1 → Calls Try.prog 53 cap w1 fun e w' => e = Pan n ∧ Below w1.heap.size w1 w')) :
    Calls Try.prog 43 #[.func (.func 53) #[] cap] w fun e w' => e = .returned (.tuple #[.agg (recC zeroR (.slice none 0 0)), .int .i64 (n : Int)]) ∧ Below w.heap.size w w' := by
  have hmf : ∀ (fn : Fn) (first cap : Array Value) (w : World), (Instr.makeFunc fn first cap).run Try.prog w = .ok (.func fn first cap) w := fun _ _ _ _ => rfl
  go_enter_defers Try.func43, Try.ntmps43
  go_upto_region 1 with (fail)
  rw [zero_rec]
  have Z0 := (Blk.new w (recC zeroR (.slice none 0 0)) 27).alloc (.cells #[.int .i64 0] 29)
  have A0 := Blk.new (w.alloc (.cells (recC zeroR (.slice none 0 0)) 27)) #[.int .i64 0] 29
  have B0 := ((Below.refl w.heap.size w).alloc (Nat.le_refl _) (.cells (recC zeroR (.slice none 0 0)) 27)).alloc (by simp) (.cells #[.int .i64 0] 29)
  simp only [World.size_alloc] at A0
  generalize (w.alloc _).alloc _ = W at *
  go_wp2_with (go_at_call 53; (with_reducible refine (HF.out _ B0).mono ?_); rintro e w1 ⟨he, hb1⟩; rw [pan_eq] at he; subst he)
  rename_i w1
  have A1 := A0.below hb1 A0.lt
  have Z1 := Z0.below hb1 Z0.lt
  have A2 := A1.put 0 (.int .i64 (n : Int))
  have Z2 := Z1.other (w.heap.size + 1) 0 (.int .i64 (n : Int)) (by omega)
  have B2 := (B0.trans (hb1.mono B0.size)).setCell (p := ⟨w.heap.size + 1, 0, none⟩) (by simp) (.int .i64 (n : Int))
  have c2 : (w1.setCell ⟨w.heap.size + 1, 0, none⟩ (.int .i64 (n : Int))).cell? ⟨w.heap.size + 1, 0, none⟩ = some (.int .i64 (n : Int)) := A2.cell 0
  refine leaves_cons (f := 83) (args := #[.pointer (some ⟨w.heap.size + 1, 0, none⟩)]) (by simp) (by simp [go_sem]) ?_
  refine (catchR_thrown ⟨w.heap.size + 1, 0, none⟩ n _ _ (A1.cell 0) (A1.free 0)).mono ?_
  rintro e u' w'' ⟨rfl, rfl, rfl⟩
  exact ⟨_, results_recc Try.results43 _ _ w.heap.size (w.heap.size + 1) _ _ _ rfl rfl Z2 c2, rfl, B2⟩

theorem guardUnion_ok (cap : Array Value) (r : Rc) (w : World) (HF : Hid (∀ w1, Below w.heap.size w w1 → Calls Try.prog 70 cap w1 fun e w' => ∃ u, e = .returned (.agg (recC r u)) ∧ Told w' u r.items ∧ Below w1.heap.size w1 w')) :
    Calls Try.prog 43 #[.func (.func 70) #[] cap] w fun e w' => ∃ u, e = .returned (.tuple #[.agg (recC r u), .int .i64 0]) ∧ Told w' u r.items ∧ Below w.heap.size w w' := by
  have hmf : ∀ (fn : Fn) (first cap : Array Value) (w : World), (Instr.makeFunc fn first cap).run Try.prog w = .ok (.func fn first cap) w := fun _ _ _ _ => rfl
  go_enter_defers Try.func43, Try.ntmps43
  go_upto_region 1 with (fail)
  rw [zero_rec]
  have Z0 := (Blk.new w (recC zeroR (.slice none 0 0)) 27).alloc (.cells #[.int .i64 0] 29)
  have A0 := Blk.new (w.alloc (.cells (recC zeroR (.slice none 0 0)) 27)) #[.int .i64 0] 29
  have B0 := ((Below.refl w.heap.size w).alloc (Nat.le_refl _) (.cells (recC zeroR (.slice none 0 0)) 27)).alloc (by simp) (.cells #[.int .i64 0] 29)
  simp only [World.size_alloc] at A0
  generalize (w.alloc _).alloc _ = W at *
  go_wp2_with (first
    | (go_at_call 70; (with_reducible refine (HF.out _ B0).mono ?_); rintro e w1 ⟨u, rfl, ht, hb1⟩; have A1 := A0.below hb1 A0.lt; have Z1 := Z0.below hb1 Z0.lt; have c0 : (w1.setRow w.heap.size (recC r u)).cell? ⟨w.heap.size + 1, 0, none⟩ = some (.int .i64 0) := (A1.setRow_other w.heap.size (recC r u) (by omega)).cell 0; have f0 : (w1.setRow w.heap.size (recC r u)).frozen? ⟨w.heap.size + 1, 0, none⟩ = false := (A1.setRow_other w.heap.size (recC r u) (by omega)).free 0)
    | (refine p_storeR rfl _ _ rfl _ rfl r u rfl (told_one ht) zeroR (.slice none 0 0) Z1 ?_))
  have A2 := (A1.setRow_other w.heap.size (recC r u) (by omega)).put 0 (.int .i64 0)
  have Z2 := (Z1.setRow (recC r u)).other (w.heap.size + 1) 0 (.int .i64 0) (by omega)
  have B1 := B0.trans (hb1.mono B0.size)
  have T2 := told_setCell (told_setRow ht Z1 (noIt_rec _ _) (recC r u)) (A1.setRow_other w.heap.size (recC r u) (by omega)) (noIt_int _) 0 (.int .i64 0)
  have B2 := (bel_setRow B1 (Nat.le_refl _) (recC r u)).setCell (p := ⟨w.heap.size + 1, 0, none⟩) (by simp) (.int .i64 0)
  generalize (w1.setRow _ _).setCell _ _ = W2 at *
  have c2 : W2.cell? ⟨w.heap.size + 1, 0, none⟩ = some (.int .i64 0) := A2.cell 0
  refine leaves_cons (f := 83) (args := #[.pointer (some ⟨w.heap.size + 1, 0, none⟩)]) (by simp) (by simp [go_sem]) ?_
  refine (catchR_idle ⟨w.heap.size + 1, 0, none⟩ _).mono ?_
  rintro e u' w'' ⟨rfl, rfl, rfl⟩
  exact ⟨_, results_recc Try.results43 _ _ w.heap.size (w.heap.size + 1) _ _ _ rfl rfl Z2 c2, u, rfl, T2, B2⟩

theorem guardUnion_no (cap : Array Value) (n : Nat) (w : World) (HF : Hid (∀ w1, Below w.heap.size w w1 → Calls Try.prog 70 cap w1 fun e w' => e = Pan n ∧ Below w1.heap.size w1 w')) :
    Calls Try.prog 43 #[.func (.func 70) #[] cap] w fun e w' => e = .returned (.tuple #[.agg (recC zeroR (.slice none 0 0)), .int .i64 (n : Int)]) ∧ Below w.heap.size w w' := by
  have hmf : ∀ (fn : Fn) (first cap : Array Value) (w : World), (Instr.makeFunc fn first cap).run Try.prog w = .ok (.func fn first cap) w := fun _ _ _ _ => rfl
  go_enter_defers Try.func43, Try.ntmps43
  go_upto_region 1 with (fail)
  rw [zero_rec]
  have Z0 := (Blk.new w (recC zeroR (.slice none 0 0)) 27).alloc (.cells #[.int .i64 0] 29)
  have A0 := Blk.new (w.alloc (.cells (recC zeroR (.slice none 0 0)) 27)) #[.int .i64 0] 29
  have B0 := ((Below.refl w.heap.size w).alloc (Nat.le_refl _) (.cells (recC zeroR (.slice none 0 0)) 27)).alloc (by simp) (.cells #[.int .i64 0] 29)
  simp only [World.size_alloc] at A0
  generalize (w.alloc _).alloc _ = W at *
  go_wp2_with (go_at_call 70; (with_reducible refine (HF.out _ B0).mono ?_); rintro e w1 ⟨he, hb1⟩; rw [pan_eq] at he; subst he)
  rename_i w1
  have A1 := A0.below hb1 A0.lt
  have Z1 := Z0.below hb1 Z0.lt
  have A2 := A1.put 0 (.int .i64 (n : Int))
  have Z2 := Z1.other (w.heap.size + 1) 0 (.int .i64 (n : Int)) (by omega)
  have B2 := (B0.trans (hb1.mono B0.size)).setCell (p := ⟨w.heap.size + 1, 0, none⟩) (by simp) (.int .i64 (n : Int))
  have c2 : (w1.setCell ⟨w.heap.size + 1, 0, none⟩ (.int .i64 (n : Int))).cell? ⟨w.heap.size + 1, 0, none⟩ = some (.int .i64 (n : Int)) := A2.cell 0
  refine leaves_cons (f := 83) (args := #[.pointer (some ⟨w.heap.size + 1, 0, none⟩)]) (by simp) (by simp [go_sem]) ?_
  refine (catchR_thrown ⟨w.heap.size + 1, 0, none⟩ n _ _ (A1.cell 0) (A1.free 0)).mono ?_
  rintro e u' w'' ⟨rfl, rfl, rfl⟩
  exact ⟨_, results_recc Try.results43 _ _ w.heap.size (w.heap.size + 1) _ _ _ rfl rfl Z2 c2, rfl, B2⟩

theorem guardHalves_ok (cap : Array Value) (r b : Rc) (w : World) (HF : Hid (∀ w1, Below w.heap.size w w1 → Calls Try.prog 64 cap w1 fun e w' => ∃ u v, e = .returned (.agg (two r u b v)) ∧ Told w' u r.items ∧ Told w' v b.items ∧ Below w1.heap.size w1 w')) :
    Calls Try.prog 63 #[.func (.func 64) #[] cap] w fun e w' => ∃ u v, e = .returned (.tuple #[.agg (two r u b v), .int .i64 0]) ∧ Told w' u r.items ∧ Told w' v b.items ∧ Below w.heap.size w w' := by
  have hmf : ∀ (fn : Fn) (first cap : Array Value) (w : World), (Instr.makeFunc fn first cap).run Try.prog w = .ok (.func fn first cap) w := fun _ _ _ _ => rfl
  go_enter_defers Try.func63, Try.ntmps63
  go_upto_region 1 with (fail)
  rw [zero_two]
  have Z0 := (Blk.new w (two zeroR (.slice none 0 0) zeroR (.slice none 0 0)) 90).alloc (.cells #[.int .i64 0] 29)
  have A0 := Blk.new (w.alloc (.cells (two zeroR (.slice none 0 0) zeroR (.slice none 0 0)) 90)) #[.int .i64 0] 29
  have B0 := ((Below.refl w.heap.size w).alloc (Nat.le_refl _) (.cells (two zeroR (.slice none 0 0) zeroR (.slice none 0 0)) 90)).alloc (by simp) (.cells #[.int .i64 0] 29)
  simp only [World.size_alloc] at A0
  generalize (w.alloc _).alloc _ = W at *
  go_wp2_with (first
    | (go_at_call 64; (with_reducible refine (HF.out _ B0).mono ?_); rintro e w1 ⟨u, v, rfl, ht, ht2, hb1⟩; have A1 := A0.below hb1 A0.lt; have Z1 := Z0.below hb1 Z0.lt; have c0 : (w1.setRow w.heap.size (two r u b v)).cell? ⟨w.heap.size + 1, 0, none⟩ = some (.int .i64 0) := (A1.setRow_other w.heap.size (two r u b v) (by omega)).cell 0; have f0 : (w1.setRow w.heap.size (two r u b v)).frozen? ⟨w.heap.size + 1, 0, none⟩ = false := (A1.setRow_other w.heap.size (two r u b v) (by omega)).free 0)
    | (refine p_storeT rfl _ _ rfl _ rfl r u b v rfl (told_one ht) (told_one ht2) zeroR (.slice none 0 0) zeroR (.slice none 0 0) Z1 ?_))
  have A2 := (A1.setRow_other w.heap.size (two r u b v) (by omega)).put 0 (.int .i64 0)
  have Z2 := (Z1.setRow (two r u b v)).other (w.heap.size + 1) 0 (.int .i64 0) (by omega)
  have B1 := B0.trans (hb1.mono B0.size)
  have T2 := told_setCell (told_setRow ht Z1 (noIt_two _ _ _ _) (two r u b v)) (A1.setRow_other w.heap.size (two r u b v) (by omega)) (noIt_int _) 0 (.int .i64 0)
  have U2 := told_setCell (told_setRow ht2 Z1 (noIt_two _ _ _ _) (two r u b v)) (A1.setRow_other w.heap.size (two r u b v) (by omega)) (noIt_int _) 0 (.int .i64 0)
  have B2 := (bel_setRow B1 (Nat.le_refl _) (two r u b v)).setCell (p := ⟨w.heap.size + 1, 0, none⟩) (by simp) (.int .i64 0)
  generalize (w1.setRow _ _).setCell _ _ = W2 at *
  have c2 : W2.cell? ⟨w.heap.size + 1, 0, none⟩ = some (.int .i64 0) := A2.cell 0
  refine leaves_cons (f := 99) (args := #[.pointer (some ⟨w.heap.size + 1, 0, none⟩)]) (by simp) (by simp [go_sem]) ?_
  refine (catchT_idle ⟨w.heap.size + 1, 0, none⟩ _).mono ?_
  rintro e u' w'' ⟨rfl, rfl, rfl⟩
  exact ⟨_, results_twoc Try.results63 _ _ w.heap.size (w.heap.size + 1) _ _ _ _ _ rfl rfl Z2 c2, u, v, rfl, T2, U2, B2⟩

theorem guardHalves_no (cap : Array Value) (n : Nat) (w : World) (HF : Hid (∀ w1, Below w.heap.size w w1 → Calls Try.prog 64 cap w1 fun e w' => e = Pan n ∧ Below w1.heap.size w1 w')) :
    Calls Try.prog 63 #[.func (.func 64) #[] cap] w fun e w' => e = .returned (.tuple #[.agg (two zeroR (.slice none 0 0) zeroR (.slice none 0 0)), .int .i64 (n : Int)]) ∧ Below w.heap.size w w' := by
  have hmf : ∀ (fn : Fn) (first cap : Array Value) (w : World), (Instr.makeFunc fn first cap).run Try.prog w = .ok (.func fn first cap) w := fun _ _ _ _ => rfl
  go_enter_defers Try.func63, Try.ntmps63
  go_upto_region 1 with (fail)
  rw [zero_two]
  have Z0 := (Blk.new w (two zeroR (.slice none 0 0) zeroR (.slice none 0 0)) 90).alloc (.cells #[.int .i64 0] 29)
  have A0 := Blk.new (w.alloc (.cells (two zeroR (.slice none 0 0) zeroR (.slice none 0 0)) 90)) #[.int .i64 0] 29
  have B0 := ((Below.refl w.heap.size w).alloc (Nat.le_refl _) (.cells (two zeroR (.slice none 0 0) zeroR (.slice none 0 0)) 90)).alloc (by simp) (.cells #[.int .i64 0] 29)
  simp only [World.size_alloc] at A0
  generalize (w.alloc _).alloc _ = W at *
  go_wp2_with (go_at_call 64; (with_reducible refine (HF.out _ B0).mono ?_); rintro e w1 ⟨he, hb1⟩; rw [pan_eq] at he; subst he)
  rename_i w1
  have A1 := A0.below hb1 A0.lt
  have Z1 := Z0.below hb1 Z0.lt
  have A2 := A1.put 0 (.int .i64 (n : Int))
  have Z2 := Z1.other (w.heap.size + 1) 0 (.int .i64 (n : Int)) (by omega)
  have B2 := (B0.trans (hb1.mono B0.size)).setCell (p := ⟨w.heap.size + 1, 0, none⟩) (by simp) (.int .i64 (n : Int))
  have c2 : (w1.setCell ⟨w.heap.size + 1, 0, none⟩ (.int .i64 (n : Int))).cell? ⟨w.heap.size + 1, 0, none⟩ = some (.int .i64 (n : Int)) := A2.cell 0
  refine leaves_cons (f := 99) (args := #[.pointer (some ⟨w.heap.size + 1, 0, none⟩)]) (by simp) (by simp [go_sem]) ?_
  refine (catchT_thrown ⟨w.heap.size + 1, 0, none⟩ n _ _ (A1.cell 0) (A1.free 0)).mono ?_
  rintro e u' w'' ⟨rfl, rfl, rfl⟩
  exact ⟨_, results_twoc Try.results63 _ _ w.heap.size (w.heap.size + 1) _ _ _ _ _ rfl rfl Z2 c2, rfl, B2⟩
end Go.Proofs.Ytkicndengkcojaa
