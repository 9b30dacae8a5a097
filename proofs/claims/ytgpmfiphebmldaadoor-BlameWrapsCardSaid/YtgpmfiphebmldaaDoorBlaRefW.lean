/- The document's Wrap and Join. -/
import Derived.Test.YtgpmfiphebmldaaDoorBlaRef
namespace Go.Proofs.YtgpmfiphebmldaaDoor
open Go.RowKit Go.Sort

def kindO : Option ET → Int
  | none => 0
  | some (.code _) => 1
  | some (.wrap _ _) => 2
  | some (.join _) => 3
theorem to_shape {w : World} {p : Nat → Prop} {X : Array Value} {o : Option ET} (h : To w p X o) : ∃ c op a n cap, X = treeC (kindO o) c op (.slice a n cap) := by
  cases o with
  | none => cases h; exact ⟨_, _, _, _, _, rfl⟩
  | some t =>
    have h : Tr w p X t := h
    cases h <;> exact ⟨_, _, _, _, _, rfl⟩
theorem kind_zero (o : Option ET) : (kindO o == 0) = o.isNone := by
  cases o with
  | none => rfl
  | some t => cases t <;> rfl

set_option maxRecDepth 100000 in
theorem refwrap_any (p : Nat → Prop) (op : ByteArray) (X : Array Value) (o : Option ET) (w : World) (hE : To w p X o) :
    Calls Tryd.prog 26 #[.string op, .agg X] w fun e w' => ∃ X', e = .returned (.agg X') ∧ To w' (fun k => p k ∨ w.heap.size ≤ k) X' (wrapO op o) ∧ Below w.heap.size w w' := by
  obtain ⟨c, op0, a, n, cap, hX⟩ := to_shape hE
  have hk := kind_zero o
  have b1 : Blk ((w.alloc (.cells X 32)).alloc (.cells zeroT 32)) w.heap.size X 32 := (Blk.new w _ _).alloc _
  have b2 : Blk ((w.alloc (.cells X 32)).alloc (.cells zeroT 32)) (w.heap.size + 1) zeroT 32 := by
    have h := Blk.new (w.alloc (.cells X 32)) zeroT 32
    rwa [World.size_alloc] at h
  have bel : Below w.heap.size w ((w.alloc (.cells X 32)).alloc (.cells zeroT 32)) := ((Below.refl _ _).alloc (Nat.le_refl _) _).alloc (by rw [World.size_alloc]; omega) _
  have hsz : ((w.alloc (.cells X 32)).alloc (.cells zeroT 32)).heap.size = w.heap.size + 2 := by simp
  have c0 : ((w.alloc (.cells X 32)).alloc (.cells zeroT 32)).cell? ⟨w.heap.size, 0, none⟩ = some (.int .i64 (kindO o)) := by rw [b1.cell, hX]; rfl
  subst hX
  unfold treeC at b1 b2 bel hsz c0
  cases o with
  | none =>
    go_enter Tryd.func26, Tryd.ntmps26
    go_upto_region 1 with (fail)
    generalize hW : (w.alloc _).alloc _ = W
    rw [show (w.alloc (.cells #[.int .i64 (kindO none), .int .i64 c, .string op0, .slice a n cap] 32)).alloc (.cells zeroT 32) = W from hW] at b1 b2 bel hsz c0
    go_wp2_with (refine p_storeT rfl _ _ rfl (w.heap.size + 1) rfl zeroT rfl rfl (tree_one ..) _ rfl b2 ?_)
    exact bodyPost_ret (results_tree Tryd.results26 _ _ (w.heap.size + 1) zeroT rfl rfl (b2.setRow _)) rfl ⟨_, rfl, rfl, bel_row bel _ (by omega) _⟩
  | some t =>
    have hT : Tr w p (treeC (kindO (some t)) c op0 (.slice a n cap)) t := hE
    have HT := Lib.hid hT
    clear hT hE
    generalize kindO (some t) = k at *
    have hk' : (k == 0) = false := hk
    go_enter Tryd.func26, Tryd.ntmps26
    go_upto_region 1 with (fail)
    generalize hW : (w.alloc _).alloc _ = W
    rw [show (w.alloc (.cells #[.int .i64 k, .int .i64 c, .string op0, .slice a n cap] 32)).alloc (.cells zeroT 32) = W from hW] at b1 b2 bel hsz c0
    have b3 := b2.alloc (.cells #[.int .i64 k, .int .i64 c, .string op0, .slice a n cap] 32)
    have b4 := Blk.new W #[.int .i64 k, .int .i64 c, .string op0, .slice a n cap] 32
    rw [hsz] at b4
    go_wp2_with (first
      | (refine p_loadT rfl _ rfl w.heap.size rfl #[.int .i64 k, .int .i64 c, .string op0, .slice a n cap] rfl b1 ?_)
      | (refine p_storeT rfl _ _ rfl (w.heap.size + 1) rfl (treeC 2 0 op (.slice (some ⟨w.heap.size + 2, 0, none⟩) 1 1)) rfl rfl (tree_one ..) _ rfl b3 ?_))
    refine bodyPost_ret (results_tree Tryd.results26 _ _ (w.heap.size + 1) (treeC 2 0 op (.slice (some ⟨w.heap.size + 2, 0, none⟩) 1 1)) rfl rfl (b3.setRow _)) rfl ⟨_, rfl, ?_, bel_row (bel.alloc (by omega) _) _ (by omega) _⟩
    have ba : Below w.heap.size w ((W.alloc (.cells #[.int .i64 k, .int .i64 c, .string op0, .slice a n cap] 32)).setRow (w.heap.size + 1) (treeC 2 0 op (.slice (some ⟨w.heap.size + 2, 0, none⟩) 1 1))) := bel_row (bel.alloc (by omega) _) _ (by omega) _
    refine Tr.wrap (w.heap.size + 2) 1 op (treeC k c op0 (.slice a n cap)) t (.inr (by omega)) (Nat.le_refl _) (blk_range (b4.setRow_other _ _ (by omega))) ?_
    exact (HT.out.kept fun i hi _ => ba.block i hi).mono fun _ _ h => .inl h
end Go.Proofs.YtgpmfiphebmldaaDoor
