/- One of a script, answered by both maps. -/
import Derived.Test.YtbjlappppbaohaaSorTwo
namespace Go.Proofs.Ytbjlappppbaohaa
open Go Go.RowKit Go.Sort

/-- what a step leaves -/
def StepP (B : Nat) (w0 : World) (g h n : Nat) (e : Ending) (w' : World) : Prop := e = .returned (.bool true) ∧ ∃ M, Two B w0 w' g h M M ∧ M.length ≤ n + 1
theorem StepP.mk {B : Nat} {w0 w' : World} {g h n : Nat} {M : List It} (t : Two B w0 w' g h M M) (hl : M.length ≤ n + 1) : StepP B w0 g h n (.returned (.bool true)) w' := ⟨rfl, M, t, hl⟩
section
variable {B : Nat} {w0 : World} {g h : Nat} {L : List It}

set_option maxRecDepth 100000 in
set_option maxHeartbeats 2000000 in
theorem step_put (w : World) (t : Two B w0 w g h L L) (hl : L.length + 1 ≤ 1000000) (key : Nat) (val : ByteArray) (hi : Nat) (most : Int) (hk : key < 18446744073709551616) :
    Calls Try.prog 10 #[.pointer (some ⟨g, 0, none⟩), .pointer (some ⟨h, 0, none⟩), .agg #[.int .i64 0, .int .u64 (key : Int), .string val, .int .u64 (hi : Int), .int .i64 most]] w (StepP B w0 g h L.length) := by
  have t1 := t.box ⟨0, key, val, hi, most⟩
  have hst : Sorted L := by obtain ⟨v, u, P⟩ := t; exact P.m.sorted
  have hpl := put_len_le hst key val
  clear hst
  clear t
  go_enter Try.func10, Try.ntmps10
  go_upto_region 1 with (fail)
  have T1 : Hid (TwoB B w0 (w.alloc (.cells #[.int .i64 0, .int .u64 (key : Int), .string val, .int .u64 (hi : Int), .int .i64 most] 33)) g h L L w.heap.size ⟨0, key, val, hi, most⟩) := t1
  clear t1
  generalize w.alloc _ = W at *
  generalize w.heap.size = q at *
  obtain ⟨c0, c1, c2, _, _⟩ := T1.out.cells
  have zs : (((valL L key).toList == (valL L key).toList) = true) := by simp
  by_cases h64 : val.size ≤ 64
  · have HP := Lib.hid (t_put T1.out key val h64 hl hk)
    go_upto_region 4 with (go_at_call 15; (with_reducible refine HP.out.mono ?_); rintro e w2 ⟨rfl, t2⟩; have T2 := Lib.hid t2; clear t2)
    obtain ⟨c0, c1, c2, _, _⟩ := T2.out.cells
    have HQ := Lib.hid (t_rput T2.out key val h64 hl hk)
    go_wp2_with (go_at_call 22; (with_reducible refine HQ.out.mono ?_); rintro e w3 ⟨rfl, t3⟩; have T3 := Lib.hid t3; clear t3)
    go_ret
    exact StepP.mk T3.out.two hpl
  · have HP := Lib.hid (put_big g key val (by omega))
    have HQ := Lib.hid (refput_big h key val (by omega))
    clear zs
    go_wp2_with (first
      | (go_at_call 15; (with_reducible refine (HP.out _).mono ?_); rintro e w2 ⟨rfl, rfl⟩)
      | (go_at_call 22; (with_reducible refine (HQ.out _).mono ?_); rintro e w2 ⟨rfl, rfl⟩))
    go_ret
    exact StepP.mk T1.out.two (by omega)

set_option maxRecDepth 100000 in
set_option maxHeartbeats 2000000 in
theorem step_drop (w : World) (t : Two B w0 w g h L L) (key : Nat) (val : ByteArray) (hi : Nat) (most : Int) :
    Calls Try.prog 10 #[.pointer (some ⟨g, 0, none⟩), .pointer (some ⟨h, 0, none⟩), .agg #[.int .i64 1, .int .u64 (key : Int), .string val, .int .u64 (hi : Int), .int .i64 most]] w (StepP B w0 g h L.length) := by
  have t1 := t.box ⟨1, key, val, hi, most⟩
  have hpl := drop_len_le L key
  clear t
  go_enter Try.func10, Try.ntmps10
  go_upto_region 1 with (fail)
  have T1 : Hid (TwoB B w0 (w.alloc (.cells #[.int .i64 1, .int .u64 (key : Int), .string val, .int .u64 (hi : Int), .int .i64 most] 33)) g h L L w.heap.size ⟨1, key, val, hi, most⟩) := t1
  clear t1
  generalize w.alloc _ = W at *
  generalize w.heap.size = q at *
  obtain ⟨c0, c1, c2, _, _⟩ := T1.out.cells
  have zs : (((valL L key).toList == (valL L key).toList) = true) := by simp
  have HP := Lib.hid (t_drop T1.out key)
  go_upto_region 8 with (go_at_call 18; (with_reducible refine HP.out.mono ?_); rintro e w2 ⟨rfl, t2⟩; have T2 := Lib.hid t2; clear t2)
  obtain ⟨c0, c1, c2, _, _⟩ := T2.out.cells
  have HQ := Lib.hid (t_rdrop T2.out key)
  go_wp2_with (go_at_call 23; (with_reducible refine HQ.out.mono ?_); rintro e w3 ⟨rfl, t3⟩; have T3 := Lib.hid t3; clear t3)
  go_ret
  exact StepP.mk T3.out.two (by omega)

set_option maxRecDepth 100000 in
set_option maxHeartbeats 2000000 in
theorem step_get (w : World) (t : Two B w0 w g h L L) (key : Nat) (val : ByteArray) (hi : Nat) (most : Int) :
    Calls Try.prog 10 #[.pointer (some ⟨g, 0, none⟩), .pointer (some ⟨h, 0, none⟩), .agg #[.int .i64 2, .int .u64 (key : Int), .string val, .int .u64 (hi : Int), .int .i64 most]] w (StepP B w0 g h L.length) := by
  have t1 := t.box ⟨2, key, val, hi, most⟩
  clear t
  go_enter Try.func10, Try.ntmps10
  go_upto_region 1 with (fail)
  have T1 : Hid (TwoB B w0 (w.alloc (.cells #[.int .i64 2, .int .u64 (key : Int), .string val, .int .u64 (hi : Int), .int .i64 most] 33)) g h L L w.heap.size ⟨2, key, val, hi, most⟩) := t1
  clear t1
  generalize w.alloc _ = W at *
  generalize w.heap.size = q at *
  obtain ⟨c0, c1, c2, _, _⟩ := T1.out.cells
  have zs : (((valL L key).toList == (valL L key).toList) = true) := by simp
  have HP := Lib.hid (t_get T1.out key)
  go_upto_region 12 with (go_at_call 14; (with_reducible refine HP.out.mono ?_); rintro e w2 ⟨rfl, b2⟩; have T2 := Lib.hid (T1.out.bel b2); clear b2)
  obtain ⟨c0, c1, c2, _, _⟩ := T2.out.cells
  have HQ := Lib.hid (t_rget T2.out key)
  go_upto_region 13 with (go_at_call 24; (with_reducible refine HQ.out.mono ?_); rintro e w3 ⟨rfl, b3⟩; have T3 := Lib.hid (T2.out.bel b3); clear b3)
  have C1 := fun (d : Nat) (os : Array Obj) => cell_regrown T3.out.cells.2.1 d os
  have HA := Lib.hid (fun (d : Nat) (os : Array Obj) => Calls.regrown_of (t_rank (T3.out.bel (below_regrown w3 d os)) key))
  have HB := Lib.hid (fun (d : Nat) (os : Array Obj) => Calls.regrown_of (t_rrank (T3.out.bel (below_regrown w3 d os)) key))
  clear HP HQ c0 c1 c2
  generalize rankL L key = r at *
  generalize hasL L key = bo at *
  have zr : ((r : Int) == (r : Int)) = true := by simp
  have zb : (bo == bo) = true := by simp
  refine wp_region_quiet_below (by kernel_rfl) (by kernel_rfl) ?_
  repeat (first
    | go_big_quiet_skip
    | (go_big_quiet_want
       (go_big_quiet_op
        first | go_big_quiet_on | go_big_quiet_call (first | with_reducible exact HA.out _ _ | with_reducible exact HB.out _ _))))
  refine wpQuiet_nil ?_
  intro _ hw'
  have T4 := Lib.hid (T3.out.bel (quiet_end hw'))
  clear hw' C1
  go_wp2
  go_ret
  exact StepP.mk T4.out.two (by omega)
end
end Go.Proofs.Ytbjlappppbaohaa
