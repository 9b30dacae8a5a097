/- The messages are given new numbers. -/
import Derived.Test.YtbjjbcjapkmnfaaBagTo
namespace Go.Proofs.Ytbjjbcjapkmnfaa
open Go Go.RowKit Go.Shelf
attribute [local go_sem] Oper.semAt_some
variable {F : Fence} {n : Nat}

/-- all that was there is as it was, but for a bag's own blocks -/
structure Bt (w w' : World) (g mb : Nat) : Prop where
  os : w'.os = w.os
  tape : w'.tape = w.tape
  output : w'.output = w.output
  size : w.heap.size ≤ w'.heap.size
  block : ∀ k, k < w.heap.size → k ≠ g → k ≠ mb → w'.heap[k]? = w.heap[k]?
theorem Bt.of {w w' : World} (h : Below w.heap.size w w') (g mb : Nat) : Bt w w' g mb := ⟨h.os, h.tape, h.output, h.size, fun k hk _ _ => h.block k hk⟩
theorem Bt.refl (w : World) (g mb : Nat) : Bt w w g mb := Bt.of (Below.refl _ _) g mb
theorem Bt.trans {w w1 w2 : World} {g mb : Nat} (h : Bt w w1 g mb) (k : Bt w1 w2 g mb) : Bt w w2 g mb :=
  ⟨k.os.trans h.os, k.tape.trans h.tape, k.output.trans h.output, Nat.le_trans h.size k.size, fun i hi h1 h2 => (k.block i (Nat.lt_of_lt_of_le hi h.size) h1 h2).trans (h.block i hi h1 h2)⟩
/-- .. where the bag has another map by then, which is new -/
theorem Bt.step {w w1 w2 : World} {g mb mb' : Nat} (h : Bt w w1 g mb) (k : Bt w1 w2 g mb') (hm : mb' = mb ∨ w.heap.size ≤ mb') : Bt w w2 g mb :=
  ⟨k.os.trans h.os, k.tape.trans h.tape, k.output.trans h.output, Nat.le_trans h.size k.size, fun i hi h1 h2 => (k.block i (Nat.lt_of_lt_of_le hi h.size) h1 (by rcases hm with rfl | hm <;> omega)).trans (h.block i hi h1 h2)⟩
theorem Bt.below {B : Nat} {w0 w w' : World} {g mb : Nat} (h : Below B w0 w) (k : Bt w w' g mb) (hB : B ≤ w.heap.size) (hg : B ≤ g) (hm : B ≤ mb) : Below B w0 w' :=
  h.trans ⟨k.os, k.tape, k.output, k.size, fun i hi => k.block i (Nat.lt_of_lt_of_le hi hB) (by omega) (by omega)⟩
theorem Bt.grown {w w' : World} {g mb : Nat} (h : w.grownBy w' (some mb)) : Bt w w' g mb := ⟨h.os, h.tape, h.output, h.size, fun k hk _ h2 => h.block k hk fun e => h2 (Option.some.inj e)⟩
theorem Bt.setCell {w w' : World} {g mb : Nat} (k : Bt w w' g mb) (i : Nat) (u : Value) : Bt w (w'.setCell ⟨g, i, none⟩ u) g mb :=
  ⟨k.os, k.tape, k.output, by simpa [World.setCell] using k.size, fun j hj h1 h2 => (Below.heap_setCell _ _ _ _ (by simpa using h1)).trans (k.block j hj h1 h2)⟩
theorem Bt.drew {w : World} (g mb : Nat) : Bt w w.drew g mb := ⟨rfl, rfl, rfl, Nat.le_refl _, fun _ _ _ _ => rfl⟩
theorem Blk.bt {w w' : World} {g mb j : Nat} {cs : Array Value} {t : TypeId} (h : Blk w j cs t) (k : Bt w w' g mb) (h1 : j ≠ g) (h2 : j ≠ mb) : Blk w' j cs t := (k.block j h.lt h1 h2).trans h

theorem Blk.grow {w w' : World} {j mb : Nat} {cs : Array Value} {t : TypeId} (h : Blk w j cs t) (hg : w.grownBy w' (some mb)) (hne : j ≠ mb) : Blk w' j cs t := (hg.block j h.lt (fun e => hne (Option.some.inj e))).trans h
/-- behind a change of the bag in g, whose map was in mb: it has the messages K, and no more free numbers than those -/
def Now (w w' : World) (g mb M : Nat) (K : List Ml) : Prop := ∃ mb' L', Bg w' g mb' M L' ∧ msgs L' = K ∧ L'.length ≤ 2 * K.length ∧ Bt w w' g mb ∧ (mb' = mb ∨ w.heap.size ≤ mb')

theorem take_some {L : List (Option Ml)} {j : Nat} {m : Ml} (hx : L[j]? = some (some m)) : ((msgs L).take (cnt L j + 1)).map some = ((msgs L).take (cnt L j)).map some ++ [some m] := by
  have h := cnt_msg hx
  rw [List.take_add_one, h]
  simp
theorem take_len {L : List (Option Ml)} {j : Nat} {m : Ml} (hx : L[j]? = some (some m)) : (((msgs L).take (cnt L j)).map some).length = cnt L j := by
  have := cnt_lt hx
  simp
  omega

set_option maxHeartbeats 2000000 in
theorem tidy_keep {w : World} {g mb M : Nat} {L : List (Option Ml)} (h : Bg w g mb M L) (hl : L.length ≤ 2 * (msgs L).length) :
    Calls Try.prog 29 #[.pointer (some ⟨g, 0, none⟩)] w fun e w' => e = .returned (.tuple #[]) ∧ Below w.heap.size w w' := by
  have B0 := Blk.new w #[.pointer (some ⟨g, 0, none⟩)] 24
  have hB := (Below.refl w.heap.size w).alloc (Nat.le_refl _) (.cells #[.pointer (some ⟨g, 0, none⟩)] 24)
  have hG := h.below hB
  have q0 := B0.cell 0
  have q1 := hG.c1
  have q2 := hG.c2
  have hlen := fun ty => (hG.own.same (w' := (w.alloc (.cells #[.pointer (some ⟨g, 0, none⟩)] 24)).drew) rfl).len ty
  have hml := Nat.le_trans (msgs_le L) h.len
  have hLl := h.len
  clear B0 hG h
  have HB := Lib.hid hB
  clear hB
  generalize (msgs L).length = c at *
  generalize L.length = d at *
  have hc : IntKind.i64.wrap (2 * (c : Int)) = 2 * (c : Int) := IntWalk.i64_in _ (by omega)
  have hc2 : ((d : Int) ≤ 2 * (c : Int)) := by omega
  go_enter Try.func29, Try.ntmps29
  go_wp2
  go_region
  go_wp2
  refine bodyPost_ret (results_none rfl _ _ _) rfl ?_
  exact ⟨rfl, HB.out.trans ⟨rfl, rfl, rfl, Nat.le_refl _, fun _ _ => rfl⟩⟩

set_option maxRecDepth 100000 in
set_option maxHeartbeats 4000000 in
theorem tidy_new (hn : 3 ≤ n) {w : World} {g mb M : Nat} {L : List (Option Ml)} (h : Bg w g mb M L) (hl : ¬ L.length ≤ 2 * (msgs L).length) :
    CallsIn Fence.wide n Try.prog 29 #[.pointer (some ⟨g, 0, none⟩)] w fun e w' => e = .returned (.tuple #[]) ∧ Now w w' g mb M (msgs L) := by
  have h1 : 1 ≤ n := by omega
  have hro : Fence.wide.round = none := rfl
  have t29 : Fence.wide.fn 29 := trivial
  have t30 : Fence.wide.fn 30 := trivial
  have t32 : Fence.wide.fn 32 := trivial
  obtain ⟨s, hs⟩ : ∃ s, w.heap.size = s := ⟨_, rfl⟩
  have hgl := h.lt
  have hml := h.own.lt
  rw [hs] at hgl hml
  have B0 := Blk.new w #[.pointer (some ⟨g, 0, none⟩)] 24
  have hB : Below s w (w.alloc (.cells #[.pointer (some ⟨g, 0, none⟩)] 24)).drew := ((Below.refl s w).alloc (by omega) (.cells #[.pointer (some ⟨g, 0, none⟩)] 24)).trans ⟨rfl, rfl, rfl, Nat.le_refl _, fun _ _ => rfl⟩
  have hG := h.bel hB hgl hml
  have q0 := B0.cell 0
  have q1 : (w.alloc (.cells #[.pointer (some ⟨g, 0, none⟩)] 24)).cell? ⟨g, 1, none⟩ = some (.int .i64 (L.length : Int)) := hG.c1
  have q2 : (w.alloc (.cells #[.pointer (some ⟨g, 0, none⟩)] 24)).cell? ⟨g, 2, none⟩ = some (.map (some mb)) := hG.c2
  have hlen := fun ty => hG.own.len ty
  have hmm := Nat.le_trans (msgs_le L) h.len
  have hLl := h.len
  have hc : IntKind.i64.wrap (2 * ((msgs L).length : Int)) = 2 * ((msgs L).length : Int) := IntWalk.i64_in _ (by omega)
  have hc2 : ¬ ((L.length : Int) ≤ 2 * ((msgs L).length : Int)) := by omega
  have hsz : (w.alloc (.cells #[.pointer (some ⟨g, 0, none⟩)] 24)).drew.heap.size = s + 1 := by simp [hs]
  have B1 : Blk (w.alloc (.cells #[.pointer (some ⟨g, 0, none⟩)] 24)).drew s #[.pointer (some ⟨g, 0, none⟩)] 24 := by rw [← hs]; exact B0
  refine callsIn_of_wp_marks Try.func29 rfl t29 ?_ hro
  simp only [Try.ntmps29, List.size_toArray, List.length_cons, List.length_nil, Nat.reduceAdd, Nat.reduceSub, Array.replicate_succ, Array.replicate_zero, List.push_toArray, List.append_toArray, List.nil_append, List.cons_append]
  gi_wp2
  gi_region
  try simp only [hs]
  clear hlen q1 q2 hc B0
  generalize hW1 : (w.alloc (.cells #[.pointer (some ⟨g, 0, none⟩)] 24)).drew = W1 at *
  have q0 := B1.cell 0
  have hmk := @run_makeMap Try.prog
  gi_wp2_with (gi_at_call 30; refine (places_in (F := Fence.wide) (n := n - 1) t30 hro _ _).mono ?_; rintro e w' ⟨rfl, rfl⟩)
  have m0 := OwnsL.made W1
  have m1 := Blk.new (W1.alloc (.map #[] 0)) #[.map (some (s + 1))] 52
  have m2 := Blk.new ((W1.alloc (.map #[] 0)).alloc (.cells #[.map (some (s + 1))] 52)) #[.pointer (some ⟨g, 0, none⟩)] 24
  have m3 := ((B1.alloc (.map #[] 0)).alloc (.cells #[.map (some (s + 1))] 52)).alloc (.cells #[.pointer (some ⟨g, 0, none⟩)] 24)
  have m4 := (m0.alloc (.cells #[.map (some (s + 1))] 52)).alloc (.cells #[.pointer (some ⟨g, 0, none⟩)] 24)
  have m5 := m1.alloc (.cells #[.pointer (some ⟨g, 0, none⟩)] 24)
  have hB2 : Below s w (((W1.alloc (.map #[] 0)).alloc (.cells #[.map (some (s + 1))] 52)).alloc (.cells #[.pointer (some ⟨g, 0, none⟩)] 24)) :=
    ((hB.alloc (by omega) _).alloc (by simp; omega) _).alloc (by simp; omega) _
  have hG2 := h.bel hB2 (by omega) (by omega)
  have hsz2 : (((W1.alloc (.map #[] 0)).alloc (.cells #[.map (some (s + 1))] 52)).alloc (.cells #[.pointer (some ⟨g, 0, none⟩)] 24)).heap.size = s + 1 + 1 + 1 + 1 := by simp [hsz]
  simp only [World.size_alloc, hsz] at m2 m4 m5
  clear m0 m1 q0 hG hB hW1 B1 hmk
  generalize ((W1.alloc (.map #[] 0)).alloc (.cells #[.map (some (s + 1))] 52)).alloc (.cells #[.pointer (some ⟨g, 0, none⟩)] 24) = W2 at *
  refine range_in hro h1 (lb := #[.pointer (some ⟨s + 1 + 1 + 1, 0, none⟩)]) rfl t32 L (Rd (s + 1 + 1 + 1) g mb M L) (goes_any (n := n - 1) t32 hro (by omega) _ g mb M L) rfl
    (fun k W => Blk W s #[.pointer (some ⟨g, 0, none⟩)] 24 ∧ OwnsL W (s + 1) (((msgs L).take k).map some) ∧ Blk W (s + 1 + 1) #[.map (some (s + 1))] 52 ∧ Blk W (s + 1 + 1 + 1) #[.pointer (some ⟨g, 0, none⟩)] 24 ∧ Bg W g mb M L ∧ Below s w W)
    (fun _ => False)
    (fun k W W' row hI hg hr => by
      rw [hsz2] at hr
      obtain ⟨i0, i1, i2, i3, i4, i5⟩ := hI
      exact ⟨i0.row hg hr (by omega), i1.kept hg (row_ne hr (by omega)), i2.row hg hr (by omega), i3.row hg hr (by omega), i4.row hg hr (by omega) (by omega), bel_row i5 hg hr (by omega) (by omega)⟩)
    (fun _ _ _ _ hI _ _ => hI)
    (fun k W hI => ⟨hI.2.2.2.1.cell 0, L, hI.2.2.2.2.1, rfl, fun _ _ => rfl⟩)
    ⟨m3, m4, m5, m2, hG2, hB2⟩ ?a1 ?assign ?body ?done ?stop
  case assign =>
    intro l j W K hK
    dsimp only [pn]
    gi_wp2
    exact hK
  case body =>
    rintro l j m W hx ⟨i0, i1, i2, i3, i4, i5⟩
    have q0 := i0.cell 0
    have q2 := i2.cell 0
    have q3 := i4.c2
    have hj : j < L.length := (List.getElem?_eq_some_iff.1 hx).1
    have hlook := (i4.own.same (w' := W.drew) rfl).look hx (by omega)
    have hcl := cnt_le L j
    obtain ⟨W3, hst, o3, g3⟩ := (i1.same (w' := W.drew) rfl).store m (by rw [take_len hx]; omega)
    rw [take_len hx] at hst
    rw [← take_some hx] at o3
    have hmix := mixed
    gi_wp2
    apply wpIn_via W3
    case h =>
      refine round_tail0 8 (by kernel_rfl) (by kernel_rfl) (by kernel_rfl) (fun _ _ h => by cases h.1) (fun _ _ _ _ _ h => by cases h.1) ?_
      simp only [List.take_succ_cons, List.take_zero, List.drop_succ_cons, List.drop_zero]
      repeat still_step
      refine wpStill_nil ?_
      go_wp2
      first | exact rfl | exact ⟨rfl, rfl, rfl⟩
    case hq =>
      clear hlook hst
      have ht : Bt W W3 g (s + 1) := (Bt.drew g (s + 1)).trans (Bt.grown g3)
      gi_wp2
      refine ⟨((KeepsOthers.drew W).from _).trans (KeepsFrom.of_grownBy g3 (fun k e => by cases e; omega)), (i0.drew.grow g3 (by omega)), o3, (i2.drew.grow g3 (by omega)), (i3.drew.grow g3 (by omega)), ?_, ?_⟩
      · exact (i4.bel (B := s) (w' := W.drew) ⟨rfl, rfl, rfl, Nat.le_refl _, fun _ _ => rfl⟩ (by omega) (by omega)).kept g3 (fun e => by injection e; omega) (fun e => by injection e; omega)
      · have hd : Below s W W.drew := ⟨rfl, rfl, rfl, Nat.le_refl _, fun _ _ => rfl⟩
        exact (i5.trans hd).grown g3 (by have := i5.size; show s ≤ W.heap.size; omega) (fun k e => by cases e; omega)
  case done =>
    rintro D W hD ⟨i0, i1, i2, i3, i4, i5⟩ hK
    have q0 := i0.cell 0
    have q2 := i2.cell 0
    have q3 := i4.c1
    have q4 := i4.c2
    have f1 := i4.blk.free 1
    have f2 := i4.blk.free 2
    rw [List.take_length] at i1
    have hlen := fun ty => (i1.same (w' := W.drew) rfl).len ty
    simp only [msgs_some] at hlen
    gi_wp2
    gi_region
    have hK' := ((KeepsOthers.setCell W ⟨g, 2, none⟩ (.map (some (s + 1)))).trans (KeepsOthers.setCell _ ⟨g, 1, none⟩ (.int .i64 ((msgs L).length : Nat)))).same D _ hK rfl
    have hgm : g ≠ s + 1 := by omega
    have hGb : Blk (((W.setCell ⟨g, 2, none⟩ (.map (some (s + 1)))).setCell ⟨g, 1, none⟩ (.int .i64 ((msgs L).length : Nat))).drew.putObj D (.deferred none)) g (bagC M (msgs L).length (s + 1)) 54 :=
      blk_put (o := .deferred none) (((i4.blk.put 2 (.map (some (s + 1)))).put 1 (.int .i64 ((msgs L).length : Nat))).drew) hK'
    have hO : OwnsL (((W.setCell ⟨g, 2, none⟩ (.map (some (s + 1)))).setCell ⟨g, 1, none⟩ (.int .i64 ((msgs L).length : Nat))).drew.putObj D (.deferred none)) (s + 1) ((msgs L).map some) :=
      i1.same (((World.putObj_heap_other (by omega)).trans (Below.heap_setCell _ ⟨g, 1, none⟩ _ (s + 1) (fun e => hgm e.symm))).trans (Below.heap_setCell W ⟨g, 2, none⟩ _ (s + 1) (fun e => hgm e.symm)))
    have hT : Bt w (((W.setCell ⟨g, 2, none⟩ (.map (some (s + 1)))).setCell ⟨g, 1, none⟩ (.int .i64 ((msgs L).length : Nat))).drew.putObj D (.deferred none)) g mb := by
      have e1 : Bt w W g mb := Bt.of (by rw [hs]; exact i5) g mb
      have e2 := ((e1.setCell 2 (.map (some (s + 1)))).setCell 1 (.int .i64 ((msgs L).length : Nat))).trans (Bt.drew g mb)
      exact ⟨e2.os, e2.tape, e2.output, by simpa using e2.size, fun k hk h1 h2 => (World.putObj_heap_other (by omega)).trans (e2.block k hk h1 h2)⟩
    refine ⟨by simp, .inl ⟨_, _, rfl, run_takeDeferred hK', ?_⟩⟩
    refine ⟨_, results_none rfl _ _ _, rfl, s + 1, (msgs L).map some, ⟨by rw [List.length_map]; exact hGb, hO, by rw [List.length_map]; omega⟩, msgs_some _, by rw [List.length_map]; omega, hT, .inr (by omega)⟩
  case stop => exact fun _ _ _ h _ => h.elim

theorem tidy_any {w : World} {g mb M : Nat} {L : List (Option Ml)} (h : Bg w g mb M L) : Calls Try.prog 29 #[.pointer (some ⟨g, 0, none⟩)] w fun e w' => e = .returned (.tuple #[]) ∧ Now w w' g mb M (msgs L) := by
  by_cases hl : L.length ≤ 2 * (msgs L).length
  · refine (tidy_keep h hl).mono ?_
    rintro e w' ⟨rfl, hb⟩
    exact ⟨rfl, mb, L, h.below hb, rfl, hl, Bt.of hb g mb, .inl rfl⟩
  · exact callsIn_wide.1 (tidy_new (n := 3) (Nat.le_refl _) h hl)
end Go.Proofs.Ytbjjbcjapkmnfaa
