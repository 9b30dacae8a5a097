/- The document's Same, of two rows that are the same. -/
import Derived.Test.YtgpmfiphebmldaaDoorBlaTell
import Derived.Test.YtgpmfiphebmldaaDoorBlaRef
namespace Go.Proofs.YtgpmfiphebmldaaDoor
open Go.RowKit Go.Sort

/-- v reads as these texts -/
def Sl (w : World) (v : Value) (l : List ByteArray) : Prop := (l = [] ∧ ∃ a c, v = .slice a 0 c) ∨ (l ≠ [] ∧ ∃ g o c, v = .slice (some ⟨g, o, none⟩) l.length c ∧ w.rangeAt g o (strV l))
theorem Txs.sl {B : Nat} {v : Value} {l : List ByteArray} {w : World} (h : Txs B v l w) : Sl w v l := by
  by_cases he : l = []
  · subst he
    refine .inl ⟨rfl, ?_⟩
    rcases h.2 with ⟨h, _⟩ | ⟨g, cap, cur, h, _⟩
    · exact ⟨_, _, h⟩
    · exact ⟨_, _, h⟩
  · obtain ⟨g, cap, rfl, _, _, _, hr⟩ := own_range h (List.length_pos_iff.2 he)
    exact .inr ⟨he, g, 0, cap, rfl, hr⟩
theorem Sl.later {w w' : World} {v : Value} {l : List ByteArray} (h : Sl w v l) (hb : Below w.heap.size w w') : Sl w' v l := by
  rcases h with h | ⟨he, g, o, c, rfl, hr⟩
  · exact .inl h
  · exact .inr ⟨he, g, o, c, rfl, range_kept hr (p := fun _ => True) (fun k hk _ => hb.block k hk) trivial⟩
theorem beq_self (a : ByteArray) : (a.toList == a.toList) = true := by rw [beq_iff_eq]

set_option maxHeartbeats 1000000 in
set_option maxRecDepth 100000 in
theorem same_any (a b : Value) (l : List ByteArray) (w : World) (ha : Sl w a l) (hb : Sl w b l) (hl : l.length ≤ 1000000) :
    Calls Tryd.prog 15 #[a, b] w fun e w' => e = .returned (.bool true) ∧ Below w.heap.size w w' := by
  rcases ha with ⟨he, a, c, rfl⟩ | ⟨he, g, o, c, rfl, hr⟩
  · rcases hb with ⟨_, a', c', rfl⟩ | ⟨he', _⟩
    · go_enter Tryd.func15, Tryd.ntmps15
      go_wp2
      refine wp_loop_rounds 1 ?_
      rw [rounds_succ]
      go_wp2
      go_ret
      exact ⟨rfl, Below.refl _ _⟩
    · exact absurd he he'
  · rcases hb with ⟨he', _⟩ | ⟨_, g', o', c', rfl, hr'⟩
    · exact absurd he' he
    · have HR := Lib.hid hr
      have HR' := Lib.hid hr'
      obtain ⟨n, hn⟩ : ∃ n, n = l.length := ⟨_, rfl⟩
      have HN := Lib.hid hn
      rw [← hn] at hl
      rw [← hn]
      clear hr hr' he hn
      go_enter Tryd.func15, Tryd.ntmps15
      go_wp2
      go_loopw [5] (fun i wr => ∃ k : Nat, k ≤ n ∧ i = .int .i64 k ∧ Below w.heap.size w wr) (fun i _ => n - (intOf i).toNat)
      case atStart => exact ⟨0, by omega, rfl, Below.refl _ _⟩
      case round =>
        obtain ⟨k, hk, rfl, hB⟩ := hrel
        by_cases hlt : k < n
        · obtain ⟨s, hs⟩ : ∃ s, l[k]? = some s := ⟨_, List.getElem?_eq_getElem (by rw [← HN.out]; omega)⟩
          have h0 := HR.out k (.string s) (by unfold strV; rw [List.getElem?_map, hs]; rfl)
          have h0' := HR'.out k (.string s) (by unfold strV; rw [List.getElem?_map, hs]; rfl)
          have h1 : wr.cell? ⟨g, o + k, none⟩ = some (.string s) := (hB.cell (p := ⟨g, o + k, none⟩) (World.block_lt_of_cell? w _ h0)).trans h0
          have h2 : wr.cell? ⟨g', o' + k, none⟩ = some (.string s) := (hB.cell (p := ⟨g', o' + k, none⟩) (World.block_lt_of_cell? w _ h0')).trans h0'
          have e1 := beq_self s
          clear h0 h0'
          have HB := Lib.hid hB
          clear hB
          go_upto_region 6 with (fail)
          go_region
          go_wp2
          exact ⟨⟨k + 1, by omega, by go_num, HB.out.drew⟩, by simp [intOf]; omega⟩
        · obtain rfl : n = k := by omega
          go_wp2
          go_ret
          exact ⟨rfl, hB⟩
end Go.Proofs.YtgpmfiphebmldaaDoor
