/- The document's calls on labels: Child, Parent, Sibling. -/
import Derived.Test.YtbihggfnhcpieaaLabRefCov
import Derived.Test.YtbihggfnhcpieaaLabSib
import Derived.RegionTactic
import Derived.Deep.RegionWith
namespace Go.Proofs.Ytbihggfnhcpieaa
open Go.RowKit Go.Sort

theorem Mem2.cells {w wr : World} {n : Int} {b : Nat} {m : Int} {c : Nat} (k : Mem2 w wr n b m c) (m' : Int) (c' : Nat) : Mem2 w ((wr.setCell ⟨w.heap.size + 1, 0, none⟩ (.int .i64 m')).setCell ⟨w.heap.size + 1, 1, none⟩ (.int .u64 (c' : Int))) n b m' c' :=
  ⟨(k.below.setCell (p := ⟨w.heap.size + 1, 0, none⟩) (by simp) _).setCell (p := ⟨w.heap.size + 1, 1, none⟩) (by simp) _, (k.a.other _ _ _ (by omega)).other _ _ _ (by omega), (k.z.put 0 (.int .i64 m')).put 1 (.int .u64 (c' : Int))⟩
theorem refParent_yes (n b : Nat) (w : World) (hn : n < 64) (hb : b < 18446744073709551616) (hi : lowB (n + 1) b = true) :
    Calls Try.prog 12 #[labv ((n : Int) + 1) b] w fun e w' => e = .returned (labr n (cutN n b) 0) ∧ Below w.heap.size w w' := by
  have HI : Gives Try.prog 25 #[.agg (labc ((n : Int) + 1) b)] (.bool true) := fun w => hi ▸ refIs_yes (n + 1) b w (by omega) hb
  have HL : Gives Try.prog 36 #[.agg #[.int .i64 ((n : Int) + 1), .int .u64 (b : Int)]] (.string (txt (bitsN (n + 1) b))) := fun w => refBitsL_any (n + 1) b w (by omega) hb
  have HO : Gives Try.prog 35 #[.string (txt (bitsN n b))] (.agg #[.int .i64 n, .int .u64 ((cutN n b : Nat) : Int)]) := fun w => refOf_bits n b w (by omega) hb
  have hcut := bits_cut (n + 1) b n (by omega) (by omega)
  have g1 : IntKind.i64.wrap ((n : Int) + 1 - 1) = (n : Int) := by rw [show (n : Int) + 1 - 1 = n by omega]; exact IntWalk.i64_in _ (by omega)
  have g2 : IntKind.i64.wrap (n : Int) = (n : Int) := IntWalk.i64_in _ (by omega)
  clear hi hb
  generalize txt (bitsN (n + 1) b) = X at *
  generalize txt (bitsN n b) = Y at *
  generalize cutN n b = c at *
  rw [labv_eq]
  go_enter Try.func12, Try.ntmps12
  go_upto_region 1 with (fail)
  have K := Lib.hid (Mem2.made w ((n : Int) + 1) b 0 0)
  rw [lab00]
  generalize (w.alloc _).alloc _ = W at *
  go_upto_region 3 with (first | (refine p_loadL rfl _ rfl _ rfl ((n : Int) + 1) b K.out.a ?_) | (go_at_call 25; (with_reducible refine (HI.calls _).mono ?_); rintro e w1 ⟨rfl, hb⟩))
  replace K := Lib.hid (K.out.grown hb)
  clear hb HI
  have c0 := lab0 K.out.a
  have c1 := lab1 K.out.a
  go_upto_region 5 with (fail)
  go_region_with (first | (go_at_call 36; (with_reducible refine (HL.calls _).mono ?_); rintro e w2 ⟨rfl, hb2⟩; have K2 := Lib.hid (K.out.drew.grown hb2); have d0 := lab0 K2.out.a; have d1 := lab1 K2.out.a) | (go_at_call 35; (with_reducible refine (HO.calls _).mono ?_); rintro e w3 ⟨rfl, hb3⟩; have K3 := Lib.hid (K2.out.grown hb3); have z0 := lab0 K3.out.z; have z1 := lab1 K3.out.z; have f0 := K3.out.z.free 0; have f1 := K3.out.z.free 1))
  all_goals
    clear z0 z1 f0 f1 c0 c1 d0 d1 hcut g1 g2
    go_wp2
    exact bodyPost_ret (results_lab Try.results12 _ _ _ _ _ 0 rfl rfl (K3.out.cells _ _).z) rfl ⟨rfl, (K3.out.cells _ _).below⟩
end Go.Proofs.Ytbihggfnhcpieaa
