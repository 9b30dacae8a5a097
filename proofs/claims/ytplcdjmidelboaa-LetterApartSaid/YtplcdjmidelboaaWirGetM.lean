/- The document's reader: the four calls. -/
import Derived.Test.YtplcdjmidelboaaWirGet
import Derived.Test.YtplcdjmidelboaaTail
import Derived.StillTailTactics
namespace Go.Proofs.Ytplcdjmidelboaa
set_option maxRecDepth 100000
open Go.RowKit Go.Sort

/-- the document's reader lies in block g, and has these bytes left -/
def Sr (w : World) (g : Nat) (l : List Nat) : Prop := Blk w g #[.string (txt l)] 73
theorem Sr.cell {w : World} {g : Nat} {l : List Nat} (k : Sr w g l) : w.cell? ⟨g, 0, none⟩ = some (.string (txt l)) := Blk.cell k 0
theorem Sr.free {w : World} {g : Nat} {l : List Nat} (k : Sr w g l) : w.frozen? ⟨g, 0, none⟩ = false := Blk.free k 0
theorem Sr.put {w : World} {g : Nat} {l : List Nat} (k : Sr w g l) (m : List Nat) : Sr (w.setCell ⟨g, 0, none⟩ (.string (txt m))) g m := Blk.put k 0 (.string (txt m))
theorem Sr.below {w w' : World} {g : Nat} {l : List Nat} (k : Sr w g l) (hb : Below w.heap.size w w') : Sr w' g l := Blk.below k hb (Blk.lt k)
theorem Sr.lt {w : World} {g : Nat} {l : List Nat} (k : Sr w g l) : g < w.heap.size := Blk.lt k
/-- a call of the document's reader: it answers, and has these bytes left -/
def Gets (f : FuncId) (g : Nat) (l : List Nat) (v : Value) (m : List Nat) : Prop :=
  ∀ w : World, Sr w g l → Calls Try.prog f #[.pointer (some ⟨g, 0, none⟩)] w fun e w' => e = .returned v ∧ Sr w' g m ∧ Keep w w' g g

theorem refNumM_any (g : Nat) (l : List Nat) (hl : ∀ b ∈ l, b < 256) (hz : l.length ≤ 1000000) :
    Gets 68 g l (.tuple #[.int .u64 ((rNum l).1 : Int), .int .i64 ((rNum l).2.2 : Int)]) (l.drop (rNum l).2.1) := by
  intro w hS
  have HG := Lib.hid (fun w => refGet_any l w hl hz)
  have hle := (rNum_lt hl).2
  have HC := Lib.hid (fun w => cut_from l (rNum l).2.1 hle w)
  have hcd := rNum_code l
  generalize rNum l = r at *
  obtain ⟨v, n, e⟩ := r
  simp only [numv] at *
  have c0 := hS.cell
  have HS := Lib.hid hS
  clear hS
  go_enter Try.func68, Try.ntmps68
  go_upto_region 2 with (go_at_call 77; (with_reducible refine (HG.out _).mono ?_); rintro e1 w1 ⟨rfl, hb1⟩)
  have HK := Lib.hid (Keep.of hb1 g g)
  replace HS := Lib.hid (HS.out.below hb1)
  clear hb1 c0 HG
  rcases hcd with rfl | ⟨rfl, rfl, rfl⟩ | ⟨rfl, rfl, rfl⟩
  · have c0 := HS.out.cell
    have f0 := HS.out.free
    have hc := HC.out
    clear HC
    go_wp2
    go_ret2
    exact ⟨rfl, HS.out.put _, HK.out.setCell 0 _⟩
  · go_wp2
    go_ret2
    exact ⟨rfl, HS.out, HK.out⟩
  · go_wp2
    go_ret2
    exact ⟨rfl, HS.out, HK.out⟩

end Go.Proofs.Ytplcdjmidelboaa
