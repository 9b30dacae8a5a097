/- The document's Trail. -/
import Derived.Test.YtgpmfiphebmldaaDoorBlaCodes
namespace Go.Proofs.YtgpmfiphebmldaaDoor
open Go.RowKit Go.Sort

def RTr (t : ET) : Prop := ∀ (X : Array Value) (w : World), Tr w (fun _ => True) X t → Calls Tryd.prog 17 #[.agg X] w fun e w' => ∃ v, e = .returned v ∧ Txs w.heap.size v t.trail w' ∧ Below w.heap.size w w' ∧ (t.trail = [] → v = .slice none 0 0)

set_option maxRecDepth 100000 in
theorem trail_nil (k c : Int) (op : ByteArray) (x : Value) (hk : (k != 2) = true) (w : World) : Calls Tryd.prog 17 #[.agg (treeC k c op x)] w fun e w' => e = .returned (.slice none 0 0) ∧ Below w.heap.size w w' := by
  have b1 := Blk.new w (treeC k c op x) 32
  have bel : Below w.heap.size w (w.alloc (.cells (treeC k c op x) 32)) := (Below.refl _ _).alloc (Nat.le_refl _) _
  have c0 : (w.alloc (.cells (treeC k c op x) 32)).cell? ⟨w.heap.size, 0, none⟩ = some (.int .i64 k) := b1.cell 0
  go_enter Tryd.func17, Tryd.ntmps17
  go_upto_region 1 with (fail)
  generalize w.alloc _ = W at *
  go_wp2
  go_ret
  exact ⟨rfl, bel⟩

theorem own_lit (W : World) (B : Nat) (e : TypeId) (x : Value) (hB : B ≤ W.heap.size) : (W.alloc (.cells #[x] e)).ownsRow B e 1 (.slice (some ⟨W.heap.size, 0, none⟩) 1 1) 1 [x] :=
  ⟨rfl, .inr ⟨W.heap.size, 1, #[x], rfl, hB, heap_alloc_new _ _, Nat.le_refl _, by unfold maxLen; omega, rfl, rfl⟩⟩
theorem str_one (l : List ByteArray) : ∀ u ∈ strV l, u.oneCell' = true := fun u hu => by
  simp only [strV, List.mem_map] at hu
  obtain ⟨n, _, rfl⟩ := hu
  rfl

set_option maxRecDepth 100000 in
theorem trail_wrap (op : ByteArray) (t : ET) (ht : t.wt ≤ 1000000) (IH : RTr t) : RTr (.wrap op t) := by
  intro X w hE
  cases hE with
  | wrap g cap _ Y _ hp hc hr hY =>
  have hlen := trail_le t
  have b1 := Blk.new w (treeC 2 0 op (.slice (some ⟨g, 0, none⟩) 1 cap)) 32
  have bel : Below w.heap.size w (w.alloc (.cells (treeC 2 0 op (.slice (some ⟨g, 0, none⟩) 1 cap)) 32)) := (Below.refl _ _).alloc (Nat.le_refl _) _
  have c0 : (w.alloc (.cells (treeC 2 0 op (.slice (some ⟨g, 0, none⟩) 1 cap)) 32)).cell? ⟨w.heap.size, 0, none⟩ = some (.int .i64 2) := b1.cell 0
  go_enter Tryd.func17, Tryd.ntmps17
  go_upto_region 1 with (fail)
  generalize w.alloc _ = W at *
  have c2 : W.cell? ⟨w.heap.size, 2, none⟩ = some (.string op) := b1.cell 2
  go_upto_region 4 with (fail)
  have hO := own_lit W w.heap.size 9 (.string op) bel.size
  have b2 := b1.alloc (.cells #[Value.string op] 9)
  have bel2 : Below w.heap.size w (W.alloc (.cells #[Value.string op] 9)) := bel.alloc bel.size _
  have hs := bel.size
  generalize hg1 : W.heap.size = g1 at *
  clear c0 c2 b1 bel
  generalize hW1 : W.alloc _ = W1
  rw [show W.alloc (.cells #[Value.string op] 9) = W1 from hW1] at hO b2 bel2
  have hgl : g < w.heap.size := range_lt hr hY.ne
  have hr1 : W1.rangeAt g 0 Y.toList := range_kept hr (p := fun _ => True) (fun i hi _ => bel2.block i hi) trivial
  have hY1 : Tr W1 (fun _ => True) Y t := hY.kept fun i hi _ => bel2.block i hi
  have hYs := hY1.size
  have c3 : W1.cell? ⟨w.heap.size, 3, none⟩ = some (.slice (some ⟨g, 0, none⟩) 1 cap) := b2.cell 3
  have HC := Lib.hid (IH Y W1 hY1)
  clear hr hY IH hY1
  by_cases he : t.trail = []
  · go_wp2_with (first
      | (refine p_midT rfl _ rfl g 0 rfl Y hYs hr1 ?_)
      | (go_at_call 17; (with_reducible refine HC.out.mono ?_); rintro e w2 ⟨v2, rfl, hv2, hb2, hnil⟩; obtain rfl := hnil he))
    go_ret
    have e : (ET.wrap op t).trail = [op] := by rw [ET.trail, he]
    refine ⟨_, rfl, ?_, bel2.trans (hb2.mono bel2.size), fun h => by rw [e] at h; cases h⟩
    rw [e]
    exact own_later hO hb2
  · obtain ⟨L, hL⟩ : ∃ L, L = t.trail := ⟨_, rfl⟩
    have HL := Lib.hid hL
    rw [← hL] at HC he hlen
    clear hL
    have hB := bel2.size
    go_wp2_with (first
      | (refine p_midT rfl _ rfl g 0 rfl Y hYs hr1 ?_)
      | (go_at_call 17; (with_reducible refine HC.out.mono ?_); rintro e w2 ⟨v2, rfl, hv2, hb2, _⟩; obtain ⟨g2, cap2, rfl, hg2, hl2, hc2, hr2⟩ := own_range hv2 (List.length_pos_iff.2 he); have hs3 := hb2.size)
      | (at_builtin; refine wpList_cat rfl _ _ 40 rfl w.heap.size 9 (.string ⟨#[]⟩) 16 Tryd.underlying40 infoStr rfl (.slice (some ⟨g1, 0, none⟩) 1 1) 1 [.string op] rfl (own_later hO hb2) g2 L.length cap2 (strV L) rfl (by simp [strV]) hr2 (str_one L) (by omega) (by omega) (by omega) ?_; intro v3 w3 hO3 hG3))
    go_ret
    have e : (ET.wrap op t).trail = op :: L := by rw [ET.trail, HL.out]
    refine ⟨_, rfl, ?_, ?_, fun h => by rw [e] at h; cases h⟩
    · rw [e]
      unfold Txs
      rw [List.length_cons, Nat.add_comm]
      exact hO3
    · exact (bel2.trans (hb2.mono hB)).grown hG3 (by omega) fun i hi => by
        have : some g1 = some i := hi
        injection this with h
        omega

theorem rtr_any (t : ET) (hw : t.wt ≤ 1000000) : RTr t := by
  induction t using ET.ind with
  | hc c =>
    intro X w hE
    cases hE with
    | code _ hc =>
      refine (trail_nil 1 c ⟨#[]⟩ (.slice none 0 0) rfl w).mono ?_
      rintro e w' ⟨rfl, hb⟩
      exact ⟨_, rfl, Txs.nil _ _, hb, fun _ => rfl⟩
  | hw op t ih => rw [ET.wt] at hw; exact trail_wrap op t (by omega) (ih (by omega))
  | hj l ih =>
    intro X w hE
    cases hE with
    | join g cap xs _ =>
      refine (trail_nil 3 0 ⟨#[]⟩ _ rfl w).mono ?_
      rintro e w' ⟨rfl, hb⟩
      exact ⟨_, rfl, Txs.nil _ _, hb, fun _ => rfl⟩
theorem reftrail_any (p : Nat → Prop) (X : Array Value) (o : Option ET) (w : World) (hE : To w p X o) (ho : wtO o ≤ 1000000) :
    Calls Tryd.prog 17 #[.agg X] w fun e w' => ∃ v, e = .returned v ∧ Txs w.heap.size v (trailO o) w' ∧ Below w.heap.size w w' := by
  cases o with
  | none =>
    cases hE
    refine (trail_nil 0 0 ⟨#[]⟩ (.slice none 0 0) rfl w).mono ?_
    rintro e w' ⟨rfl, hb⟩
    exact ⟨_, rfl, Txs.nil _ _, hb⟩
  | some t =>
    have hT : Tr w p X t := hE
    exact (rtr_any t ho X w (hT.mono fun _ _ _ => trivial)).mono fun e w' ⟨v, h1, h2, h3, _⟩ => ⟨v, h1, h2, h3⟩
end Go.Proofs.YtgpmfiphebmldaaDoor
