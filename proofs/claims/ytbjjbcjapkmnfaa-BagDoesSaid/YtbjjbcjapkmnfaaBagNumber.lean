/- Which message stands at a place. -/
import Derived.Test.YtbjjbcjapkmnfaaBagPlaces
namespace Go.Proofs.Ytbjjbcjapkmnfaa
open Go Go.RowKit Go.Shelf
attribute [local go_sem] Oper.semAt_some
variable {F : Fence} {n : Nat}

/-! what a range's own blocks leave as it was -/
theorem row_ne {B : Nat} {W : World} {row : Option Nat} (hr : ∀ r, row = some r → B ≤ r ∧ ∃ o : Obj, W.heap[r]? = some o ∧ o.isCells = false) {b : Nat} (hb : b < B) : some b ≠ row := fun e => by
  have := (hr b e.symm).1
  omega
theorem Blk.row {B b : Nat} {W W' : World} {row : Option Nat} {cs : Array Value} {t : TypeId} (h : Blk W b cs t) (hg : W.grownBy W' row) (hr : ∀ r, row = some r → B ≤ r ∧ ∃ o : Obj, W.heap[r]? = some o ∧ o.isCells = false) (hb : b < B) : Blk W' b cs t :=
  (hg.block b h.lt (row_ne hr hb)).trans h
theorem Bg.row {B g mb M : Nat} {L : List (Option Ml)} {W W' : World} {row : Option Nat} (h : Bg W g mb M L) (hg : W.grownBy W' row) (hr : ∀ r, row = some r → B ≤ r ∧ ∃ o : Obj, W.heap[r]? = some o ∧ o.isCells = false) (h1 : g < B) (h2 : mb < B) : Bg W' g mb M L :=
  h.kept hg (row_ne hr h1) (row_ne hr h2)
theorem bel_row {B n0 : Nat} {w W W' : World} {row : Option Nat} (h : Below n0 w W) (hg : W.grownBy W' row) (hr : ∀ r, row = some r → B ≤ r ∧ ∃ o : Obj, W.heap[r]? = some o ∧ o.isCells = false) (hn : n0 ≤ w.heap.size) (hB : n0 ≤ B) : Below n0 w W' :=
  h.grown hg (Nat.le_trans hn h.size) (fun k e => Nat.le_trans hB (hr k e).1)
theorem blk_put {w : World} {b D : Nat} {cs : Array Value} {t : TypeId} {o : Obj} (h : Blk w b cs t) (hD : w.heap[D]? = some (.deferred (some []))) : Blk (w.putObj D o) b cs t :=
  (World.putObj_heap_other (fun e => by subst e; unfold Blk at h; rw [hD] at h; cases h)).trans h
theorem bel_put {w0 w : World} {B D : Nat} {o : Obj} (h : Below B w0 w) (hD : B ≤ D) : Below B w0 (w.putObj D o) :=
  h.trans ⟨rfl, rfl, rfl, by simp, fun k hk => World.putObj_heap_other (by omega)⟩

set_option maxRecDepth 100000 in
set_option maxHeartbeats 2000000 in
theorem number_in (h28 : F.fn 28) (h30 : F.fn 30) (h32 : F.fn 32) (hro : F.round = none) (hn : 3 ≤ n) {w : World} {g mb M : Nat} {L : List (Option Ml)} (h : Bg w g mb M L) (i : Int) :
    CallsIn F n Try.prog 28 #[.pointer (some ⟨g, 0, none⟩), .int .i64 i] w fun e w' => Below w.heap.size w w' ∧
      ((∃ j m, L[j]? = some (some m) ∧ (cnt L j : Int) = i ∧ e = .returned (.tuple #[.int .i64 (j : Nat), .int .i64 0])) ∨
       ((∀ j m, L[j]? = some (some m) → (cnt L j : Int) ≠ i) ∧ e = .returned (.tuple #[.int .i64 0, .int .i64 7]))) := by
  have h1 : 1 ≤ n := by omega
  refine callsIn_of_wp_marks Try.func28 rfl h28 ?_ hro
  simp only [Try.ntmps28, List.size_toArray, List.length_cons, List.length_nil, Nat.reduceAdd, Nat.reduceSub, Array.replicate_succ, Array.replicate_zero, List.push_toArray, List.append_toArray, List.nil_append, List.cons_append]
  gi_wp2_with (gi_at_call 30; refine (places_in (F := F) (n := n - 1) h30 hro _ _).mono ?_; rintro e w' ⟨rfl, rfl⟩)
  obtain ⟨s, hs⟩ : ∃ s, w.heap.size = s := ⟨_, rfl⟩
  have b0 := Blk.new w #[.int .i64 i] 3
  have b1 := Blk.new (w.alloc (.cells #[.int .i64 i] 3)) #[.int .i64 0] 3
  have b2 := Blk.new ((w.alloc (.cells #[.int .i64 i] 3)).alloc (.cells #[.int .i64 0] 3)) #[.int .i64 0] 25
  have b3 := Blk.new (((w.alloc (.cells #[.int .i64 i] 3)).alloc (.cells #[.int .i64 0] 3)).alloc (.cells #[.int .i64 0] 25)) #[.pointer (some ⟨g, 0, none⟩)] 24
  have c0 := (((b0.alloc (.cells #[.int .i64 0] 3)).alloc (.cells #[.int .i64 0] 25)).alloc (.cells #[.pointer (some ⟨g, 0, none⟩)] 24))
  have c1 := ((b1.alloc (.cells #[.int .i64 0] 25)).alloc (.cells #[.pointer (some ⟨g, 0, none⟩)] 24))
  have c2 := (b2.alloc (.cells #[.pointer (some ⟨g, 0, none⟩)] 24))
  have hB : Below s w ((((w.alloc (.cells #[.int .i64 i] 3)).alloc (.cells #[.int .i64 0] 3)).alloc (.cells #[.int .i64 0] 25)).alloc (.cells #[.pointer (some ⟨g, 0, none⟩)] 24)) :=
    ((((Below.refl s w).alloc (by omega) _).alloc (by simp; omega) _).alloc (by simp; omega) _).alloc (by simp; omega) _
  have hG : Bg ((((w.alloc (.cells #[.int .i64 i] 3)).alloc (.cells #[.int .i64 0] 3)).alloc (.cells #[.int .i64 0] 25)).alloc (.cells #[.pointer (some ⟨g, 0, none⟩)] 24)) g mb M L :=
    h.bel hB (by have := h.lt; omega) (by have := h.own.lt; omega)
  have hsz : ((((w.alloc (.cells #[.int .i64 i] 3)).alloc (.cells #[.int .i64 0] 3)).alloc (.cells #[.int .i64 0] 25)).alloc (.cells #[.pointer (some ⟨g, 0, none⟩)] 24)).heap.size = s + 1 + 1 + 1 + 1 := by simp [hs]
  have hgl := h.lt
  have hml := h.own.lt
  simp only [World.size_alloc, hs] at b3 c0 c1 c2 hgl hml
  simp only [hs]
  clear b0 b1 b2
  generalize ((((w.alloc (.cells #[.int .i64 i] 3)).alloc (.cells #[.int .i64 0] 3)).alloc (.cells #[.int .i64 0] 25)).alloc (.cells #[.pointer (some ⟨g, 0, none⟩)] 24)) = W0 at *
  refine range_in hro h1 (lb := #[.pointer (some ⟨s + 1 + 1 + 1, 0, none⟩)]) rfl h32 L (Rd (s + 1 + 1 + 1) g mb M L) (goes_any (n := n - 1) h32 hro (by omega) _ g mb M L) rfl
    (fun k W => Blk W s #[.int .i64 i] 3 ∧ Blk W (s + 1) #[.int .i64 0] 3 ∧ Blk W (s + 1 + 1) #[.int .i64 0] 25 ∧ Blk W (s + 1 + 1 + 1) #[.pointer (some ⟨g, 0, none⟩)] 24 ∧ Bg W g mb M L ∧ Below s w W ∧
      ∀ j m, L[j]? = some (some m) → cnt L j < k → (cnt L j : Int) ≠ i)
    (fun W => ∃ (j : Nat) (m : Ml), L[j]? = some (some m) ∧ (cnt L j : Int) = i ∧ Blk W (s + 1) #[.int .i64 (j : Nat)] 3 ∧ Blk W (s + 1 + 1) #[.int .i64 0] 25 ∧ Below s w W)
    (fun k W W' row hI hg hr => by
      rw [hsz] at hr
      obtain ⟨i0, i1, i2, i3, i4, i5, i6⟩ := hI
      exact ⟨i0.row hg hr (by omega), i1.row hg hr (by omega), i2.row hg hr (by omega), i3.row hg hr (by omega), i4.row hg hr (by omega) (by omega), bel_row i5 hg hr (by omega) (by omega), i6⟩)
    (fun _ W W' row hI hg hr => by
      rw [hsz] at hr
      obtain ⟨j, m, i1, i2, i3, i4, i5⟩ := hI
      exact ⟨j, m, i1, i2, i3.row hg hr (by omega), i4.row hg hr (by omega), bel_row i5 hg hr (by omega) (by omega)⟩)
    (fun k W hI => ⟨hI.2.2.2.1.cell 0, L, hI.2.2.2.2.1, rfl, fun _ _ => rfl⟩)
    ⟨c0, c1, c2, b3, hG, hB, fun _ _ _ hk => by omega⟩ ?a1 ?assign ?body ?done ?stop
  case assign =>
    intro l j W K hK
    dsimp only [pn]
    gi_wp2
    exact hK
  case body =>
    rintro l j m W hx ⟨i0, i1, i2, i3, i4, i5, i6⟩
    have q0 := i0.cell 0
    have q1 := i1.cell 0
    have q2 := i2.cell 0
    have f1 := i1.free 0
    have f2 := i2.free 0
    gi_wp2
    · have he : (cnt L j : Int) = i := eq_of_beq (by assumption)
      exact ⟨((KeepsOthers.setCell _ _ _).trans (KeepsOthers.setCell _ _ _)).from _, j, m, hx, he, (i1.put 0 _).other _ _ _ (by omega), (i2.other _ _ _ (by omega)).put 0 _,
        (i5.setCell (p := ⟨s + 1, 0, none⟩) (by show s ≤ s + 1; omega) _).setCell (p := ⟨s + 1 + 1, 0, none⟩) (by show s ≤ s + 1 + 1; omega) _⟩
    · have he : ((cnt L j : Int) == i) = false := by first | assumption | (rename_i hz; simpa using hz)
      refine ⟨KeepsFrom.refl _ _, i0, i1, i2, i3, i4, i5, fun j' m' hx' hk' => ?_⟩
      rcases Nat.lt_or_ge (cnt L j') (cnt L j) with hl | hl
      · exact i6 j' m' hx' hl
      · obtain rfl : j' = j := num_uniq hx' hx (by omega)
        intro e
        simp [e] at he
  case done =>
    rintro D W hD ⟨i0, i1, i2, i3, i4, i5, i6⟩ hK
    have q1 := i1.cell 0
    have q2 := i2.cell 0
    have f1 := i1.free 0
    have f2 := i2.free 0
    gi_wp2
    have hK' := ((KeepsOthers.setCell W ⟨s + 1, 0, none⟩ (.int .i64 0)).trans (KeepsOthers.setCell _ ⟨s + 1 + 1, 0, none⟩ (.int .i64 7))).same D _ hK rfl
    refine ⟨by simp, .inl ⟨_, _, rfl, run_takeDeferred hK', ?_⟩⟩
    have r1 := (blk_put (o := .deferred none) ((i1.put 0 (.int .i64 0)).other (s + 1 + 1) 0 (.int .i64 7) (by omega)) hK').cell 0
    have r2 := (blk_put (o := .deferred none) ((i2.other (s + 1) 0 (.int .i64 0) (by omega)).put 0 (.int .i64 7)) hK').cell 0
    refine ⟨.tuple #[.int .i64 0, .int .i64 7], ?_, ?_, .inr ⟨fun j m hx => i6 j m hx (cnt_lt hx), rfl⟩⟩
    · simp at r1 r2
      simp [results, Try.f28, go_sem, r1, r2]
    · rw [hs]
      exact bel_put ((i5.setCell (p := ⟨s + 1, 0, none⟩) (by show s ≤ s + 1; omega) _).setCell (p := ⟨s + 1 + 1, 0, none⟩) (by show s ≤ s + 1 + 1; omega) _) (by omega)
  case stop =>
    rintro D W hD ⟨j, m, i1, i2, i3, i4, i5⟩ hK
    gi_wp2
    refine ⟨by simp, .inl ⟨_, _, rfl, run_takeDeferred hK, ?_⟩⟩
    have r1 := (blk_put (o := .deferred none) i3 hK).cell 0
    have r2 := (blk_put (o := .deferred none) i4 hK).cell 0
    refine ⟨.tuple #[.int .i64 (j : Nat), .int .i64 0], ?_, ?_, .inl ⟨j, m, i1, i2, rfl⟩⟩
    · simp at r1 r2
      simp [results, Try.f28, go_sem, r1, r2]
    · rw [hs]
      exact bel_put i5 (by omega)

theorem number_any {w : World} {g mb M : Nat} {L : List (Option Ml)} (h : Bg w g mb M L) (i : Int) :
    Calls Try.prog 28 #[.pointer (some ⟨g, 0, none⟩), .int .i64 i] w fun e w' => Below w.heap.size w w' ∧
      ((∃ j m, L[j]? = some (some m) ∧ (cnt L j : Int) = i ∧ e = .returned (.tuple #[.int .i64 (j : Nat), .int .i64 0])) ∨
       ((∀ j m, L[j]? = some (some m) → (cnt L j : Int) ≠ i) ∧ e = .returned (.tuple #[.int .i64 0, .int .i64 7]))) :=
  callsIn_wide.1 (number_in (F := Fence.wide) (n := 3) trivial trivial trivial rfl (Nat.le_refl _) h i)
theorem number_yes {w : World} {g mb M : Nat} {L : List (Option Ml)} (h : Bg w g mb M L) {j : Nat} {m : Ml} (hx : L[j]? = some (some m)) :
    Calls Try.prog 28 #[.pointer (some ⟨g, 0, none⟩), .int .i64 (cnt L j : Nat)] w fun e w' => e = .returned (.tuple #[.int .i64 (j : Nat), .int .i64 0]) ∧ Below w.heap.size w w' := by
  refine (number_any h _).mono ?_
  rintro e w' ⟨hb, ⟨j', m', h1, h2, rfl⟩ | ⟨h1, _⟩⟩
  · obtain rfl : j' = j := num_uniq h1 hx (by omega)
    exact ⟨rfl, hb⟩
  · exact absurd rfl (h1 j m hx)
theorem number_no {w : World} {g mb M : Nat} {L : List (Option Ml)} (h : Bg w g mb M L) {i : Int} (hi : i < 0 ∨ ((msgs L).length : Int) ≤ i) :
    Calls Try.prog 28 #[.pointer (some ⟨g, 0, none⟩), .int .i64 i] w fun e w' => e = .returned (.tuple #[.int .i64 0, .int .i64 7]) ∧ Below w.heap.size w w' := by
  refine (number_any h _).mono ?_
  rintro e w' ⟨hb, ⟨j', m', h1, h2, rfl⟩ | ⟨_, rfl⟩⟩
  · have := cnt_lt h1
    omega
  · exact ⟨rfl, hb⟩
set_option maxHeartbeats 1000000 in
theorem number_nil (i : Int) (w : World) : Calls Try.prog 28 #[.pointer none, .int .i64 i] w fun e w' => e = .returned (.tuple #[.int .i64 0, .int .i64 6]) ∧ Below w.heap.size w w' := by
  refine (callsIn_wide (n := 3)).1 ?_
  refine callsIn_of_wp Try.func28 rfl trivial ?_ rfl
  simp only [Try.ntmps28, List.size_toArray, List.length_cons, List.length_nil, Nat.reduceAdd, Nat.reduceSub, Array.replicate_succ, Array.replicate_zero, List.push_toArray, List.append_toArray, List.nil_append, List.cons_append]
  gi_wp2
  refine bodyPost_ret (v := .tuple #[.int .i64 0, .int .i64 6]) ?_ rfl ⟨rfl, ((((Below.refl _ w).alloc (Nat.le_refl _) _).alloc (by simp) _).alloc (by simp; omega) _)⟩
  simp [results, Try.f28, go_sem]
end Go.Proofs.Ytbjjbcjapkmnfaa
