/- The document's reader: the four calls. -/
import Derived.Test.YtgfcdkihahfnkaaWirGet
import Derived.Test.YtgfcdkihahfnkaaTail
import Derived.StillTailTactics
namespace Go.Proofs.Ytgfcdkihahfnkaa
open Go.RowKit Go.Sort

/-- the document's reader lies in block g, and has these bytes left -/
def Sr (w : World) (g : Nat) (l : List Nat) : Prop := Blk w g #[.string (txt l)] 45
theorem Sr.cell {w : World} {g : Nat} {l : List Nat} (k : Sr w g l) : w.cell? ⟨g, 0, none⟩ = some (.string (txt l)) := Blk.cell k 0
theorem Sr.free {w : World} {g : Nat} {l : List Nat} (k : Sr w g l) : w.frozen? ⟨g, 0, none⟩ = false := Blk.free k 0
theorem Sr.put {w : World} {g : Nat} {l : List Nat} (k : Sr w g l) (m : List Nat) : Sr (w.setCell ⟨g, 0, none⟩ (.string (txt m))) g m := Blk.put k 0 (.string (txt m))
theorem Sr.below {w w' : World} {g : Nat} {l : List Nat} (k : Sr w g l) (hb : Below w.heap.size w w') : Sr w' g l := Blk.below k hb (Blk.lt k)
theorem Sr.lt {w : World} {g : Nat} {l : List Nat} (k : Sr w g l) : g < w.heap.size := Blk.lt k
/-- a call of the document's reader: it answers, and has these bytes left -/
def Gets (f : FuncId) (g : Nat) (l : List Nat) (v : Value) (m : List Nat) : Prop :=
  ∀ w : World, Sr w g l → Calls Try.prog f #[.pointer (some ⟨g, 0, none⟩)] w fun e w' => e = .returned v ∧ Sr w' g m ∧ Keep w w' g g

theorem refNumM_any (g : Nat) (l : List Nat) (hl : ∀ b ∈ l, b < 256) (hz : l.length ≤ 1000000) :
    Gets 20 g l (.tuple #[.int .u64 ((rNum l).1 : Int), .int .i64 ((rNum l).2.2 : Int)]) (l.drop (rNum l).2.1) := by
  intro w hS
  have HG := Lib.hid (fun w => refGet_any l w hl hz)
  have hle := (rNum_lt hl).2
  have HC := Lib.hid (fun w => cut_from l (rNum l).2.1 hle w)
  have hcd := rNum_code l
  generalize rNum l = r at *
  obtain ⟨v, n, e⟩ := r
  simp only [numv] at *
  have c0 := hS.cell
  have HS := Lib.hid hS
  clear hS
  go_enter Try.func20, Try.ntmps20
  go_upto_region 2 with (go_at_call 39; (with_reducible refine (HG.out _).mono ?_); rintro e1 w1 ⟨rfl, hb1⟩)
  have HK := Lib.hid (Keep.of hb1 g g)
  replace HS := Lib.hid (HS.out.below hb1)
  clear hb1 c0 HG
  rcases hcd with rfl | ⟨rfl, rfl, rfl⟩ | ⟨rfl, rfl, rfl⟩
  · have c0 := HS.out.cell
    have f0 := HS.out.free
    have hc := HC.out
    clear HC
    go_wp2
    go_ret2
    exact ⟨rfl, HS.out.put _, HK.out.setCell 0 _⟩
  · go_wp2
    go_ret2
    exact ⟨rfl, HS.out, HK.out⟩
  · go_wp2
    go_ret2
    exact ⟨rfl, HS.out, HK.out⟩

theorem refTxtM_any (g : Nat) (l : List Nat) (hl : ∀ b ∈ l, b < 256) (hz : l.length ≤ 1000000) :
    Gets 22 g l (.tuple #[.string (txt (rTxt l).1), .int .i64 ((rTxt l).2.2 : Int)]) (l.drop (rTxt l).2.1) := by
  intro w hS
  have HG := Lib.hid (fun w => refGet_any l w hl hz)
  obtain ⟨hv, hle⟩ := rNum_lt hl
  have hcd := rNum_code l
  have HR : Hid (rTxt l = if (rNum l).2.2 ≠ 0 then ([], 0, (rNum l).2.2) else if 4096 < (rNum l).1 then ([], 0, 3) else if l.length < (rNum l).2.1 + (rNum l).1 then ([], 0, 4)
    else ((l.drop (rNum l).2.1).take (rNum l).1, (rNum l).2.1 + (rNum l).1, 0)) := rfl
  generalize rTxt l = R at *
  generalize rNum l = r at *
  obtain ⟨v, n, e⟩ := r
  simp only [numv] at *
  have c0 := hS.cell
  have HS := Lib.hid hS
  have hsz := txt_size l
  clear hS
  go_enter Try.func22, Try.ntmps22
  go_upto_region 2 with (go_at_call 39; (with_reducible refine (HG.out _).mono ?_); rintro e1 w1 ⟨rfl, hb1⟩)
  have HK := Lib.hid (Keep.of hb1 g g)
  replace HS := Lib.hid (HS.out.below hb1)
  clear hb1 c0 HG
  rcases hcd with rfl | ⟨rfl, rfl, rfl⟩ | ⟨rfl, rfl, rfl⟩
  · have HR1 : Hid (R = if 4096 < v then ([], 0, 3) else if l.length < n + v then ([], 0, 4) else ((l.drop n).take v, n + v, 0)) := by
      have := HR.out
      unfold Hid
      rwa [if_neg (by simp)] at this
    clear HR
    have c0 := HS.out.cell
    have f0 := HS.out.free
    by_cases h4 : 4096 < v
    · have hd : decide ((4096 : Int) < (v : Int)) = true := by simp; omega
      have HE : Hid (R = ([], 0, 3)) := by
        have := HR1.out
        unfold Hid
        rwa [if_pos h4] at this
      go_wp2
      go_ret2
      rw [HE.out]
      exact ⟨rfl, HS.out, HK.out⟩
    · have hd : decide ((4096 : Int) < (v : Int)) = false := by simp; omega
      by_cases h5 : l.length < n + v
      · have HE : Hid (R = ([], 0, 4)) := by
          have := HR1.out
          unfold Hid
          rwa [if_neg h4, if_pos h5] at this
        have hd2 : decide ((l.length : Int) - (n : Int) < (v : Int)) = true := by simp; omega
        go_wp2
        go_ret2
        rw [HE.out]
        exact ⟨rfl, HS.out, HK.out⟩
      · have HE : Hid (R = ((l.drop n).take v, n + v, 0)) := by
          have := HR1.out
          unfold Hid
          rwa [if_neg h4, if_neg h5] at this
        have hd2 : decide ((l.length : Int) - (n : Int) < (v : Int)) = false := by simp; omega
        have hc1 := cut_mid l n (n + v) (by omega) (by omega)
        rw [show (l.take (n + v)).drop n = (l.drop n).take v by rw [List.drop_take, show n + v - n = v by omega], show ((n + v : Nat) : Int) = (n : Int) + (v : Int) by omega] at hc1
        have hc2 := cut_from l (n + v) (by omega)
        rw [show ((n + v : Nat) : Int) = (n : Int) + (v : Int) by omega] at hc2
        clear HR1
        go_wp2
        go_ret2
        rw [HE.out]
        exact ⟨rfl, HS.out.put _, HK.out.setCell 0 _⟩
  · have HE : Hid (R = ([], 0, 3)) := by
      have := HR.out
      unfold Hid
      rwa [if_pos (by simp)] at this
    clear HR
    go_wp2
    go_ret2
    rw [HE.out]
    exact ⟨rfl, HS.out, HK.out⟩
  · have HE : Hid (R = ([], 0, 4)) := by
      have := HR.out
      unfold Hid
      rwa [if_pos (by simp)] at this
    clear HR
    go_wp2
    go_ret2
    rw [HE.out]
    exact ⟨rfl, HS.out, HK.out⟩
end Go.Proofs.Ytgfcdkihahfnkaa
