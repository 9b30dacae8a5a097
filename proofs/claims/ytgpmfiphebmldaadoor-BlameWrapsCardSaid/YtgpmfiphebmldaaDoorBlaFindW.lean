/- The program's search through wraps and joins. -/
import Derived.Test.YtgpmfiphebmldaaDoorBlaFind
import Derived.Test.YtgpmfiphebmldaaDoorTail
import Derived.Maps.AppendAt
import Derived.Deep.RegionWith
import Derived.Deep.Cut
import Derived.WalkMore
import Derived.StillTailTactics
namespace Go.Proofs.YtgpmfiphebmldaaDoor
open Go.RowKit Go.Sort

section
variable {K x : Nat} {f : Int → Bool} {St : World → Prop} {Fin : Int → World → Prop}

/-- what a search of v has to tell, in whatever later world -/
def Seeks (K x : Nat) (f : Int → Bool) (St : World → Prop) (Fin : Int → World → Prop) (v : Value) (t : ET) : Prop :=
  ∀ w, Er w (fun k => k < x) v t → St w → Glob w → x < w.heap.size → Calls Tryd.prog 28 #[v, fnv K x] w fun e w' => ∃ r, e = .returned (.bool r) ∧ Fnd x f St Fin t.codes w r w'

set_option maxRecDepth 100000 in
theorem find_wrap (A : Ask K x f St Fin) (op : ByteArray) (t : ET) (H : ∀ v, Seeks K x f St Fin v t) (v0 : Value) : Seeks K x f St Fin v0 (.wrap op t) := by
  intro w hE hS hG hB
  cases hE with
  | wrap b _ v _ hp hb hv =>
  have tw := t_ww
  have bel : Below w.heap.size w (w.alloc (.cells #[fnv K x] 37)) := (Below.refl _ _).alloc (Nat.le_refl _) _
  have k1 : (w.alloc (.cells #[fnv K x] 37)).cell? ⟨b, 1, none⟩ = some v := (hb.alloc _).cell 1
  have k2 : (w.alloc (.cells #[fnv K x] 37)).cell? ⟨w.heap.size, 0, none⟩ = some (fnv K x) := (Blk.new w _ _).cell 0
  have hH := H v (w.alloc (.cells #[fnv K x] 37)).drew (hv.bel (bel.drew.mono (by omega))) (A.st _ _ bel.drew hS) (hG.below bel.drew hG.size) (by rw [World.size_drew, World.size_alloc]; omega)
  have HH := Lib.hid hH
  have HB := Lib.hid bel
  clear hH bel
  unfold fnv at *
  go_enter Tryd.func28, Tryd.ntmps28
  go_upto_region 6 with (fail)
  generalize w.alloc _ = W at *
  refine wp_region_tail0 5 (by kernel_rfl) (by kernel_rfl) (fun _ _ _ _ _ h => h) ?_
  simp only [List.take_succ_cons, List.take_zero, List.drop_succ_cons, List.drop_zero]
  repeat still_step
  refine wpStill_nil ?_
  go_wp2_with (go_at_call 28; (with_reducible refine HH.out.mono ?_); rintro e w' ⟨r, rfl, hF⟩)
  go_ret
  refine ⟨_, rfl, ?_⟩
  rw [ET.codes]
  exact hF.ahead (Off.of HB.out.drew)
end
end Go.Proofs.YtgpmfiphebmldaaDoor
