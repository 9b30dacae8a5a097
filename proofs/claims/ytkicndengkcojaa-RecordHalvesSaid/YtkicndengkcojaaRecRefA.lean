/- The document's None, and whether a kind has no items. -/
import Derived.Test.YtkicndengkcojaaRecFind
import Derived.Test.YtkicndengkcojaaPkA
namespace Go.Proofs.Ytkicndengkcojaa
set_option maxRecDepth 100000
open Go Go.RowKit Go.Sort

theorem refnone_any : Gives Try.prog 41 #[] (.agg (labc (-1) 0)) := by
  intro w
  go_enter Try.func41, Try.ntmps41
  go_upto_region 1 with (fail)
  have Z := Lib.hid (Blk.new w (labc 0 0) 25)
  have B := Lib.hid ((Below.refl w.heap.size w).alloc (Nat.le_refl _) (.cells (labc 0 0) 25))
  rw [lab00]
  generalize w.alloc _ = W at *
  go_wp2_with (first | (refine p_storeL rfl _ _ rfl _ rfl (-1) 0 rfl 0 0 Z.out ?_))
  exact bodyPost_ret (results_labP Try.results41 _ _ _ (-1) 0 rfl (Z.out.setRow _)) rfl ⟨rfl, bel_setRow B.out (Nat.le_refl _) _⟩
theorem bare_any (k : Int) : Gives Try.prog 39 #[.int .i64 k] (.bool (bareB k)) := by
  intro w
  by_cases h2 : k = 2
  · subst h2
    go_enter Try.func39, Try.ntmps39
    go_wp2
    go_ret
    exact ⟨rfl, Below.refl _ _⟩
  · have hd : (k == 2) = false := by simpa using h2
    go_enter Try.func39, Try.ntmps39
    go_wp2
    go_ret
    exact ⟨ret_bool (by simp [bareB, hd]), Below.refl _ _⟩
theorem o_midL {o : Oper} {a : Act} {w : World} {K : Act → World → Prop} {Q : Exit → Act → World → Prop} (x : Operand) (ho : o.op = .load 25 x)
    (g : Nat) (hx : a.eval x = .pointer (some ⟨g, 2, none⟩)) (r : Rc) (u : Value) (hg : Blk w g (recC r u) 27) (h : K (a.put o.dst (.agg (labc r.nl r.nb))) w) : o.wp Try.prog a w K Q :=
  wp_load_mid 25 x ho g 2 hx (labc r.nl r.nb).toList _ (mid_lab hg) Try.underlying25 rfl infoLab (by rw [Array.toArray_toList]; exact h)
end Go.Proofs.Ytkicndengkcojaa
