/- An item is put into a row. -/
import Derived.Test.YtbjlappppbaohaaSorRow
namespace Go.Proofs.Ytbjlappppbaohaa
open Go Go.RowKit Go.Sort

/-- behind an Insert: a row of items, of its own, or the one that was -/
def Put (w w' : World) (v v' : Value) (L : List It) : Prop := w'.ownsRow 0 61 2 v' L.length (flat L) ∧ w.grownBy w' v.ownBlock ∧ (v'.ownBlock = v.ownBlock ∨ ∃ f, v'.ownBlock = some f ∧ w.heap.size ≤ f)
set_option maxHeartbeats 1000000 in
theorem ins_end (v : Value) (L : List It) (k : Nat) (s : ByteArray) (vb : Nat) (w : World) (hO : w.ownsRow 0 61 2 v L.length (flat L)) (hn : L.length ≤ 1000000) (hv : Blk w vb (itC k s) 61) :
    Calls Try.prog 38 #[v, .int .i64 L.length, .slice (some ⟨vb, 0, none⟩) 1 1] w fun e w' => ∃ v', e = .returned v' ∧ Put w w' v v' (L ++ [(k, s)]) := by
  have HV := Lib.hid hv
  have HO := Lib.hid hO
  have fin : ∀ v' w', w'.ownsRow 0 61 2 v' (L.length + 1) (flat L ++ (itC k s).toList) → w.grownBy w' v.ownBlock → (v'.ownBlock = v.ownBlock ∨ v'.ownBlock = some w.heap.size) → Put w w' v v' (L ++ [(k, s)]) := fun v' w' h1 h2 h3 => by
    refine ⟨?_, h2, h3.imp id fun h => ⟨_, h, Nat.le_refl _⟩⟩
    rw [flat_append, List.length_append]
    exact h1
  have HF := Lib.hid fin
  clear fin
  obtain ⟨n, hnL⟩ : ∃ n, n = L.length := ⟨_, rfl⟩
  rw [← hnL] at HO HF hn ⊢
  rcases own_shape HO.out with ⟨rfl, h0⟩ | ⟨b, c, rfl, hc, hm, _, _⟩
  · obtain rfl : n = 0 := h0
    clear hO hv hnL
    go_enter Try.func38, Try.ntmps38
    go_wp2_with (at_builtin; refine wpList_addI rfl _ _ rfl _ 0 (flat L) rfl HO.out vb k s rfl HV.out (by omega) ?_; intro v' w' h1 h2 h3; have HP := Lib.hid (HF.out v' w' h1 h2 h3); clear h1 h2 h3)
    go_ret
    exact ⟨_, rfl, HP.out⟩
  · clear hO hv hnL hm
    go_enter Try.func38, Try.ntmps38
    go_wp2_with (at_builtin; refine wpList_addI rfl _ _ rfl _ n (flat L) rfl HO.out vb k s rfl HV.out hn ?_; intro v' w' h1 h2 h3; have HP := Lib.hid (HF.out v' w' h1 h2 h3); clear h1 h2 h3)
    all_goals (go_ret; exact ⟨_, rfl, HP.out⟩)
end Go.Proofs.Ytbjlappppbaohaa
