/- The document's trees: New, Wrap, Join. -/
import Derived.Test.YtgpmfiphebmldaaDoorBlaMake
import Derived.Deep.MidRow
namespace Go.Proofs.YtgpmfiphebmldaaDoor
open Go.RowKit Go.Sort

theorem infoT : (Tryd.prog.info? 32).map (fun i => (i.zero, i.size, i.bytes)) = some (some (.agg zeroT), 4, 56) := by kernel_rfl
theorem sizeT {X : Array Value} (h : X.size = 4) : (Tryd.prog.info? 32).map (·.size) = some X.size := by
  rw [h]
  obtain ⟨i, hi, hq⟩ := Option.map_eq_some_iff.1 infoT
  simp only [Prod.mk.injEq] at hq
  rw [hi]
  exact congrArg some hq.2.1
theorem p_loadT {ops : Array Oper} {rest : List Oper} {o : Oper} {a : Act} {w : World} {Q : Exit → Act → World → Prop} (hgd : o.guard = none) (x : Operand) (ho : o.op = .load 32 x)
    (g : Nat) (hx : a.eval x = .pointer (some ⟨g, 0, none⟩)) (X : Array Value) (hX : X.size = 4) (hg : Blk w g X 32)
    (h : wpList Tryd.prog ops Q rest (a.put o.dst (.agg X)) w) : wpList Tryd.prog ops Q (o :: rest) a w :=
  wpList_load_row hgd 32 x ho g hx 32 X (0, 0) _ hg Tryd.underlying32 rfl (sizeT hX) h
theorem p_midT {ops : Array Oper} {rest : List Oper} {o : Oper} {a : Act} {w : World} {Q : Exit → Act → World → Prop} (hgd : o.guard = none) (x : Operand) (ho : o.op = .load 32 x)
    (g i : Nat) (hx : a.eval x = .pointer (some ⟨g, i, none⟩)) (X : Array Value) (hX : X.size = 4) (hg : w.rangeAt g i X.toList)
    (h : wpList Tryd.prog ops Q rest (a.put o.dst (.agg X)) w) : wpList Tryd.prog ops Q (o :: rest) a w :=
  wpList_load_mid hgd 32 x ho g i hx X.toList _ hg Tryd.underlying32 rfl (by rw [Array.length_toList]; exact sizeT hX) (by rw [Array.toArray_toList]; exact h)
theorem p_storeT {ops : Array Oper} {rest : List Oper} {o : Oper} {a : Act} {w : World} {Q : Exit → Act → World → Prop} (hgd : o.guard = none) (x y : Operand) (ho : o.op = .store 32 x y)
    (g : Nat) (hx : a.eval x = .pointer (some ⟨g, 0, none⟩)) (X : Array Value) (hy : a.eval y = .agg X) (hX : X.size = 4) (h1 : X.all (·.oneCell') = true) (Z : Array Value) (hZ : Z.size = 4) (hg : Blk w g Z 32)
    (h : wpList Tryd.prog ops Q rest (a.put o.dst undef) (w.setRow g X)) : wpList Tryd.prog ops Q (o :: rest) a w :=
  wpList_store_row hgd 32 x y ho g X hx hy 32 Z hg (sizeT hX) (by rw [hZ, hX]) h1 h
theorem results_tree {fn : Func} {p : Tmp} (h : fn.results = #[.cell p 32]) (tmps : Array Value) (w : World) (g : Nat) (X : Array Value) (hX : X.size = 4)
    (hp : tmps.getD p undef = .pointer (some ⟨g, 0, none⟩)) (hg : Blk w g X 32) : (results fn tmps).run Tryd.prog w = .ok (.agg X) w := by
  have hp' : tmps[p]?.getD undef = .pointer (some ⟨g, 0, none⟩) := by simpa using hp
  simp [results, h, hp', asAddr, run_loadVar_row w g 32 32 X (0, 0) _ hg Tryd.underlying32 rfl (sizeT hX)]
theorem blk_range {w : World} {g : Nat} {X : Array Value} {t : TypeId} (h : Blk w g X t) : w.rangeAt g 0 X.toList := fun j v hj => by
  rw [Nat.zero_add, h.cell]
  simpa using hj
theorem bel_row {w0 w : World} (h : Below w0.heap.size w0 w) (g : Nat) (hg : w0.heap.size ≤ g) (X : Array Value) : Below w0.heap.size w0 (w.setRow g X) := bel_setRow h hg X
theorem tree_one (k c : Int) (op : ByteArray) (a : Option Addr) (n cap : Nat) : (treeC k c op (.slice a n cap)).all (·.oneCell') = true := by simp [treeC, Value.oneCell']

theorem refnew_any (c : Int) (h1 : -9223372036854775808 ≤ c) (h2 : c ≤ 9223372036854775807) (w : World) : Calls Tryd.prog 25 #[.int .i64 c] w fun e w' => ∃ X, e = .returned (.agg X) ∧ To w' (fun _ => True) X (newO c) ∧ Below w.heap.size w w' := by
  have bel : Below w.heap.size w (w.alloc (.cells zeroT 32)) := (Below.refl _ _).alloc (Nat.le_refl _) _
  have hb := Blk.new w zeroT 32
  by_cases h : c = 0
  · subst h
    go_enter Tryd.func25, Tryd.ntmps25
    go_upto_region 1 with (fail)
    generalize hW : w.alloc _ = W
    rw [show w.alloc (.cells zeroT 32) = W from hW] at *
    go_wp2_with (refine p_storeT rfl _ _ rfl w.heap.size rfl zeroT rfl rfl (tree_one ..) zeroT rfl hb ?_)
    exact bodyPost_ret (results_tree Tryd.results25 _ _ w.heap.size zeroT rfl rfl (hb.setRow _)) rfl ⟨_, rfl, rfl, bel_row bel _ (Nat.le_refl _) _⟩
  · have hc : (c == 0) = false := by simpa using h
    have hn : newO c = some (.code c) := by unfold newO; rw [if_neg h]
    go_enter Tryd.func25, Tryd.ntmps25
    go_upto_region 1 with (fail)
    generalize hW : w.alloc _ = W
    rw [show w.alloc (.cells zeroT 32) = W from hW] at *
    go_wp2_with (refine p_storeT rfl _ _ rfl w.heap.size rfl (treeC 1 c ⟨#[]⟩ (.slice none 0 0)) rfl rfl (tree_one ..) zeroT rfl hb ?_)
    refine bodyPost_ret (results_tree Tryd.results25 _ _ w.heap.size (treeC 1 c ⟨#[]⟩ (.slice none 0 0)) rfl rfl (hb.setRow _)) rfl ⟨_, rfl, ?_, bel_row bel _ (Nat.le_refl _) _⟩
    rw [hn]
    exact Tr.code c ⟨h, h1, h2⟩
end Go.Proofs.YtgpmfiphebmldaaDoor
