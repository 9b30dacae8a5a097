/- .. a taking, and a look. -/
import Derived.Test.YtbjjbcjapkmnfaaBagStep
import Derived.Deep.RegionHeld
namespace Go.Proofs.Ytbjjbcjapkmnfaa
open Go Go.RowKit Go.Sort
section
variable {B : Nat} {w0 : World} {g h M : Nat} {K : List Ml} {v : Value}

set_option maxRecDepth 100000 in
set_option maxHeartbeats 4000000 in
theorem step_take (w : World) (t : Pr B w0 w g h M K K v) (_ : M ≤ 1000) (hT : Short K) (m : Ml) (i : Int) :
    Calls Try.prog 10 #[.pointer (some ⟨g, 0, none⟩), .pointer (some ⟨h, 0, none⟩), .agg #[.int .i64 1, .int .i64 m.fr, .int .i64 m.to, .string m.bd, .int .i64 i]] w (StepP B w0 g h M) := by
  have t1 := t.box ⟨1, m, i⟩
  clear t
  go_enter Try.func10, Try.ntmps10
  go_upto_region 1 with (fail)
  have T1 : Hid (PB B w0 (w.alloc (.cells #[.int .i64 1, .int .i64 m.fr, .int .i64 m.to, .string m.bd, .int .i64 i] 35)) g h M K K v w.heap.size ⟨1, m, i⟩) := t1
  clear t1
  generalize w.alloc _ = W at *
  generalize w.heap.size = q at *
  have HK : Hid (Short (takeK K i)) := hT.take i
  have HP := Lib.hid (b_take T1.out i)
  have HQ : Hid (∀ w', PB B w0 w' g h M (takeK K i) K v q ⟨1, m, i⟩ → _) := fun w' t' => b_rtake t' i
  generalize takeK K i = K' at *
  generalize atV K i = x at *
  generalize atE K i = er at *
  have zr : (er == er) = true := by simp
  obtain ⟨c0, c1, c2, c3, c4⟩ := T1.out.cells
  clear hT
  go_upto_region 6 with (first
    | (go_at_call 14; (with_reducible refine HP.out.mono ?_); rintro e w2 ⟨rfl, t2⟩; have T2 := Lib.hid t2; clear t2)
    | (refine p_storeM rfl _ _ rfl w2.heap.size rfl x rfl mlE rfl (Blk.new w2 mlE _) ?_))
  have b3 : Below w2.heap.size w2 ((w2.alloc (.cells mlE 33)).setRow w2.heap.size (mlC x)) := bel_setRow ((Below.refl _ _).alloc (Nat.le_refl _) _) (Nat.le_refl _) _
  have T3 := Lib.hid (T2.out.bel b3)
  have O3 : Hid (v.ownBlock ≠ some w2.heap.size) := T2.out.pr.out (Nat.le_refl _)
  have E3 := Lib.hid ((Blk.new w2 mlE 33).setRow (mlC x))
  clear b3 T2 HP c0 c1 c2 c3 c4
  generalize w2.heap.size = q3 at *
  generalize World.setRow _ _ _ = W3 at *
  obtain ⟨c0, c1, c2, c3, c4⟩ := T3.out.cells
  have HQ2 := Lib.hid (HQ.out _ T3.out)
  go_upto_region 7 with (first
    | (go_at_call 20; (with_reducible refine HQ2.out.mono ?_); rintro e w4 ⟨rfl, v4, t4, k4⟩; have T4 := Lib.hid t4; have E4 := Lib.hid (k4 _ _ O3.out E3.out); clear t4 k4)
    | (refine p_storeM rfl _ _ rfl w4.heap.size rfl x rfl mlE rfl (Blk.new w4 mlE _) ?_))
  have b5 : Below w4.heap.size w4 ((w4.alloc (.cells mlE 33)).setRow w4.heap.size (mlC x)) := bel_setRow ((Below.refl _ _).alloc (Nat.le_refl _) _) (Nat.le_refl _) _
  have T5 := Lib.hid (T4.out.bel b5)
  have E5 := E4.out.below b5 E4.out.lt
  have F5 := (Blk.new w4 mlE 33).setRow (mlC x)
  clear b5 T4 T3 T1 E4 E3 HQ HQ2 c0 c1 c2 c3 c4
  generalize w4.heap.size = q5 at *
  generalize World.setRow _ _ _ = W5 at *
  go_wp2_with (first
    | (go_guarded; refine o_loadM _ rfl _ rfl x (by first | with_reducible exact E5 | with_reducible exact F5) ?_; simp only [Act.put, List.setIfInBounds_toArray, List.set_cons_succ, List.set_cons_zero])
    | (go_guarded; refine o_eqlM _ _ rfl x rfl rfl ?_; simp only [Act.put, List.setIfInBounds_toArray, List.set_cons_succ, List.set_cons_zero])
    | (refine p_loadM rfl _ rfl _ rfl x (by first | with_reducible exact E5 | with_reducible exact F5) ?_)
    | (refine p_eqlM rfl _ _ rfl x rfl rfl ?_))
  go_ret
  exact StepP.mk T5.out HK.out
end
end Go.Proofs.Ytbjjbcjapkmnfaa
