/- Labels in memory: loaded, stored, handed back. -/
import Derived.Test.YtgfcdkihahfnkaaLabTell
namespace Go.Proofs.Ytgfcdkihahfnkaa
open Go.RowKit Go.Sort

theorem lab_all (n : Int) (b : Nat) : (labc n b).all (·.oneCell') = true := by simp [labc, Value.oneCell']
theorem p_loadL {ops : Array Oper} {rest : List Oper} {o : Oper} {a : Act} {w : World} {Q : Exit → Act → World → Prop} (hgd : o.guard = none) (x : Operand) (ho : o.op = .load 26 x)
    (g : Nat) (hx : a.eval x = .pointer (some ⟨g, 0, none⟩)) (n : Int) (b : Nat) (hg : Blk w g (labc n b) 26)
    (h : wpList Try.prog ops Q rest (a.put o.dst (.agg (labc n b))) w) : wpList Try.prog ops Q (o :: rest) a w :=
  wpList_load_row hgd 26 x ho g hx 26 (labc n b) (0, 0) _ hg Try.underlying26 rfl infoLab h
theorem p_storeL {ops : Array Oper} {rest : List Oper} {o : Oper} {a : Act} {w : World} {Q : Exit → Act → World → Prop} (hgd : o.guard = none) (x y : Operand) (ho : o.op = .store 26 x y)
    (g : Nat) (hx : a.eval x = .pointer (some ⟨g, 0, none⟩)) (n : Int) (b : Nat) (hy : a.eval y = .agg (labc n b)) (n' : Int) (b' : Nat) (hg : Blk w g (labc n' b') 26)
    (h : wpList Try.prog ops Q rest (a.put o.dst undef) (w.setRow g (labc n b))) : wpList Try.prog ops Q (o :: rest) a w :=
  wpList_store_row hgd 26 x y ho g (labc n b) hx hy 26 (labc n' b') hg infoLab rfl (lab_all n b) h
theorem results_lab {fn : Func} {p t : Tmp} (h : fn.results = #[.cell p 26, .tmp t]) (tmps : Array Value) (w : World) (g : Nat) (n : Int) (b : Nat) (c : Int)
    (hp : tmps.getD p undef = .pointer (some ⟨g, 0, none⟩)) (hv : tmps.getD t undef = .int .i64 c) (hg : Blk w g (labc n b) 26) :
    (results fn tmps).run Try.prog w = .ok (labr n b c) w := by
  have hp' : tmps[p]?.getD undef = .pointer (some ⟨g, 0, none⟩) := by simpa using hp
  have hv' : tmps[t]?.getD undef = .int .i64 c := by simpa using hv
  simp [results, h, hp', hv', asAddr, run_loadVar_row w g 26 26 (labc n b) (0, 0) _ hg Try.underlying26 rfl infoLab, labr, labv_eq]
theorem lab00 : (#[Value.int IntKind.i64 0, Value.int IntKind.u64 0] : Array Value) = labc 0 0 := rfl
theorem labr_eq (n : Int) (b : Nat) (c : Int) : labr n b c = .tuple #[.agg (labc n b), .int .i64 c] := rfl

/-- a boxed label, and a new one -/
structure Mem2 (w wr : World) (n : Int) (b : Nat) (m : Int) (c : Nat) : Prop where
  below : Below w.heap.size w wr
  a : Blk wr w.heap.size (labc n b) 26
  z : Blk wr (w.heap.size + 1) (labc m c) 26
theorem Mem2.made (w : World) (n : Int) (b : Nat) (m : Int) (c : Nat) : Mem2 w ((w.alloc (.cells (labc n b) 26)).alloc (.cells (labc m c) 26)) n b m c :=
  ⟨((Below.refl _ _).alloc (Nat.le_refl _) _).alloc (by simp) _, (Blk.new w _ _).alloc _, by have h := Blk.new (w.alloc (.cells (labc n b) 26)) (labc m c) 26; rwa [World.size_alloc] at h⟩
theorem Mem2.grown {w wr w' : World} {n : Int} {b : Nat} {m : Int} {c : Nat} (k : Mem2 w wr n b m c) (hb : Below wr.heap.size wr w') : Mem2 w w' n b m c :=
  ⟨k.below.trans (hb.mono k.below.size), k.a.below hb k.a.lt, k.z.below hb k.z.lt⟩
theorem Mem2.put {w wr : World} {n : Int} {b : Nat} {m : Int} {c : Nat} (k : Mem2 w wr n b m c) (m' : Int) (c' : Nat) : Mem2 w (wr.setRow (w.heap.size + 1) (labc m' c')) n b m' c' :=
  ⟨bel_setRow k.below (by omega) _, k.a.setRow_other _ _ (by omega), k.z.setRow _⟩
end Go.Proofs.Ytgfcdkihahfnkaa
