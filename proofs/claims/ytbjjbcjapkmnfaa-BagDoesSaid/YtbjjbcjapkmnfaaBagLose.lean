/- What is to an address is lost. -/
import Derived.Test.YtbjjbcjapkmnfaaBagTidy
namespace Go.Proofs.Ytbjjbcjapkmnfaa
open Go Go.RowKit Go.Shelf
attribute [local go_sem] Oper.semAt_some
variable {F : Fence} {n : Nat}

theorem size_any {w : World} {g mb M : Nat} {L : List (Option Ml)} (h : Bg w g mb M L) : Calls Try.prog 11 #[.pointer (some ⟨g, 0, none⟩)] w fun e w' => e = .returned (.int .i64 ((msgs L).length : Nat)) ∧ w' = w := by
  have q2 := h.c2
  have hlen := fun ty => h.own.len ty
  clear h
  go_enter Try.func11, Try.ntmps11
  go_wp2
  go_ret
  exact ⟨rfl, rfl⟩
theorem size_nil (w : World) : Calls Try.prog 11 #[.pointer none] w fun e w' => e = .returned (.int .i64 0) ∧ w' = w := by
  go_enter Try.func11, Try.ntmps11
  go_wp2
  go_ret
  exact ⟨rfl, rfl⟩

theorem Bt.row {B g mb : Nat} {w W W' : World} {row : Option Nat} (h : Bt w W g mb) (hg : W.grownBy W' row) (hr : ∀ r, row = some r → B ≤ r ∧ ∃ o : Obj, W.heap[r]? = some o ∧ o.isCells = false) (hB : w.heap.size ≤ B) : Bt w W' g mb :=
  ⟨hg.os.trans h.os, hg.tape.trans h.tape, hg.output.trans h.output, Nat.le_trans h.size hg.size, fun k hk h1 h2 => (hg.block k (Nat.lt_of_lt_of_le hk h.size) (row_ne hr (by omega))).trans (h.block k hk h1 h2)⟩

set_option maxRecDepth 100000 in
set_option maxHeartbeats 4000000 in
theorem lose_in (hn : 3 ≤ n) {w : World} {g mb M : Nat} {L : List (Option Ml)} (h : Bg w g mb M L) (addr : Int) :
    CallsIn Fence.wide n Try.prog 18 #[.pointer (some ⟨g, 0, none⟩), .int .i64 addr] w fun e w' => e = .returned (.int .i64 ((toL (msgs L) addr 0).length : Nat)) ∧ Now w w' g mb M (left (msgs L) addr) := by
  have h1 : 1 ≤ n := by omega
  have hro : Fence.wide.round = none := rfl
  have t18 : Fence.wide.fn 18 := trivial
  have t30 : Fence.wide.fn 30 := trivial
  have t11 : Fence.wide.fn 11 := trivial
  have t29 : Fence.wide.fn 29 := trivial
  have t32 : Fence.wide.fn 32 := trivial
  obtain ⟨s, hs⟩ : ∃ s, w.heap.size = s := ⟨_, rfl⟩
  have hgl := h.lt
  have hml := h.own.lt
  rw [hs] at hgl hml
  have b0 := Blk.new w #[.pointer (some ⟨g, 0, none⟩)] 24
  have b1 := Blk.new (w.alloc (.cells #[.pointer (some ⟨g, 0, none⟩)] 24)) #[.int .i64 addr] 3
  have hB1 : Below s w ((w.alloc (.cells #[.pointer (some ⟨g, 0, none⟩)] 24)).alloc (.cells #[.int .i64 addr] 3)) := ((Below.refl s w).alloc (by omega) _).alloc (by simp; omega) _
  have hG1 := h.bel hB1 hgl hml
  have HS := Lib.hid (size_any hG1)
  refine callsIn_of_wp_marks Try.func18 rfl t18 ?_ hro
  simp only [Try.ntmps18, List.size_toArray, List.length_cons, List.length_nil, Nat.reduceAdd, Nat.reduceSub, Array.replicate_succ, Array.replicate_zero, List.push_toArray, List.append_toArray, List.nil_append, List.cons_append]
  gi_wp2_with (first
    | (gi_at_call 11; refine ((callsIn_wide (n := n - 1)).2 HS.out).mono ?_; rintro e w' ⟨rfl, rfl⟩)
    | (gi_at_call 30; refine (places_in (F := Fence.wide) (n := n - 1) t30 hro _ _).mono ?_; rintro e w' ⟨rfl, rfl⟩))
  have b2 := Blk.new ((w.alloc (.cells #[.pointer (some ⟨g, 0, none⟩)] 24)).alloc (.cells #[.int .i64 addr] 3)) #[.pointer (some ⟨g, 0, none⟩)] 24
  have c0 := (b0.alloc (.cells #[.int .i64 addr] 3)).alloc (.cells #[.pointer (some ⟨g, 0, none⟩)] 24)
  have c1 := b1.alloc (.cells #[.pointer (some ⟨g, 0, none⟩)] 24)
  have hB2 : Below s w (((w.alloc (.cells #[.pointer (some ⟨g, 0, none⟩)] 24)).alloc (.cells #[.int .i64 addr] 3)).alloc (.cells #[.pointer (some ⟨g, 0, none⟩)] 24)) := hB1.alloc (by simp; omega) _
  have hG2 := h.bel hB2 hgl hml
  have hsz : (((w.alloc (.cells #[.pointer (some ⟨g, 0, none⟩)] 24)).alloc (.cells #[.int .i64 addr] 3)).alloc (.cells #[.pointer (some ⟨g, 0, none⟩)] 24)).heap.size = s + 1 + 1 + 1 := by simp [hs]
  simp only [World.size_alloc, hs] at b2 c0 c1
  try simp only [hs]
  clear b0 b1 hB1 hG1 HS
  generalize ((w.alloc (.cells #[.pointer (some ⟨g, 0, none⟩)] 24)).alloc (.cells #[.int .i64 addr] 3)).alloc (.cells #[.pointer (some ⟨g, 0, none⟩)] 24) = W0 at *
  have hLl := h.len
  refine range_in hro h1 (lb := #[.pointer (some ⟨s + 1 + 1, 0, none⟩)]) rfl t32 L (Rd (s + 1 + 1) g mb M L) (goes_any (n := n - 1) t32 hro (by omega) _ g mb M L) rfl
    (fun k W => Blk W s #[.pointer (some ⟨g, 0, none⟩)] 24 ∧ Blk W (s + 1) #[.int .i64 addr] 3 ∧ Blk W (s + 1 + 1) #[.pointer (some ⟨g, 0, none⟩)] 24 ∧ Bg W g mb M (upto L addr k) ∧ Bt w W g mb)
    (fun _ => False)
    (fun k W W' row hI hg hr => by
      rw [hsz] at hr
      obtain ⟨i0, i1, i2, i3, i4⟩ := hI
      exact ⟨i0.row hg hr (by omega), i1.row hg hr (by omega), i2.row hg hr (by omega), i3.row hg hr (by omega) (by omega), i4.row hg hr (by omega)⟩)
    (fun _ _ _ _ hI _ _ => hI)
    (fun k W hI => ⟨hI.2.2.1.cell 0, upto L addr k, hI.2.2.2.1, upto_length _ _ _, fun _ hk => upto_late L addr hk⟩)
    ⟨c0, c1, b2, by rw [upto_zero]; exact hG2, Bt.of (by rw [hs]; exact hB2) g mb⟩ ?a1 ?assign ?body ?done ?stop
  case assign =>
    intro l j W K hK
    dsimp only [pn]
    gi_wp2
    exact hK
  case body =>
    rintro l j m W hx ⟨i0, i1, i2, i3, i4⟩
    have q0 := i0.cell 0
    have q1 := i1.cell 0
    have q3 := i3.c2
    have hj : j < L.length := (List.getElem?_eq_some_iff.1 hx).1
    have hx' : (upto L addr (cnt L j))[j]? = some (some m) := (upto_late L addr (Nat.le_refl _)).trans hx
    have hlook := (i3.own.same (w' := W.drew) rfl).look hx' (by omega)
    dsimp only [mlC] at hlook
    have hfd := fieldTo m.fr m.to m.bd W.drew
    obtain ⟨W3, hdel, o3, g3⟩ := (i3.own.same (w' := W.drew) rfl).drop hx' (by omega) 0
    have hmix := mixed
    gi_wp2
    apply wpIn_via W.drew
    case h =>
      refine round_tail0 8 (by kernel_rfl) (by kernel_rfl) (by kernel_rfl) (fun _ _ h => by cases h.1) (fun _ _ _ _ _ h => by cases h.1) ?_
      simp only [List.take_succ_cons, List.take_zero, List.drop_succ_cons, List.drop_zero]
      repeat still_step
      refine wpStill_nil ?_
      go_wp2
      first | exact rfl | exact ⟨rfl, rfl, rfl⟩
    case hq =>
      clear hlook hfd
      gi_wp2
      · have he : m.to = addr := by first | assumption | exact eq_of_beq (by assumption)
        refine ⟨((KeepsOthers.drew W).from _).trans (KeepsFrom.of_grownBy g3 (fun k e => by cases e; omega)), i0.drew.grow g3 (by omega), i1.drew.grow g3 (by omega), i2.drew.grow g3 (by omega), ?_, ?_⟩
        · rw [upto_hit hx he]
          refine ⟨?_, o3, by rw [List.length_set]; exact i3.len⟩
          rw [List.length_set]
          exact i3.blk.drew.grow g3 i3.ne
        · exact (i4.trans (Bt.drew g mb)).trans (Bt.grown g3)
      · have he : ¬ m.to = addr := by first | assumption | (rename_i hz; simpa using hz)
        have hb : Below s W W.drew := ⟨rfl, rfl, rfl, Nat.le_refl _, fun _ _ => rfl⟩
        exact ⟨(KeepsOthers.drew W).from _, i0, i1, i2, by rw [upto_miss hx he]; exact i3.bel hb (by omega) (by omega), i4.trans (Bt.drew g mb)⟩
  case done =>
    rintro D W hD ⟨i0, i1, i2, i3, i4⟩ hK
    have q0 := i0.cell 0
    have HT := Lib.hid (tidy_any i3)
    have hDl : D < W.heap.size := (Array.getElem?_eq_some_iff.1 hK).1
    have HA : Hid (∀ w2, Now W w2 g mb M (msgs (upto L addr (msgs L).length)) → w2.cell? ⟨s, 0, none⟩ = some (.pointer (some ⟨g, 0, none⟩)) ∧ w2.heap[D]? = some (.deferred (some [])) ∧
        Calls Try.prog 11 #[.pointer (some ⟨g, 0, none⟩)] w2 (fun e w' => e = .returned (.int .i64 ((left (msgs L) addr).length : Nat)) ∧ w' = w2) ∧ Now w (w2.putObj D (.deferred none)) g mb M (left (msgs L) addr)) := by
      rintro w2 ⟨mb2, L2, n1, n2, n3, n4, n5⟩
      rw [upto_msgs] at n2 n3
      refine ⟨(i0.bt n4 (by omega) (by omega)).cell 0, (n4.block D hDl (by omega) (by omega)).trans hK, ?_, mb2, L2, ?_, n2, n3, ?_, ?_⟩
      · have := size_any n1
        rwa [n2] at this
      · exact n1.kept (grownBy_putObj' w2 D _) (fun e => by injection e; omega) (fun e => by injection e; rcases n5 with rfl | n5 <;> omega)
      · have e := i4.trans n4
        exact ⟨e.os, e.tape, e.output, by simpa using e.size, fun k hk h1 h2 => (World.putObj_heap_other (by omega)).trans (e.block k hk h1 h2)⟩
      · have := i4.size
        rcases n5 with n5 | n5
        · exact .inl n5
        · exact .inr (by omega)
    have hsum := toL_left (msgs L) addr 0
    have hmm := Nat.le_trans (msgs_le L) hLl
    have hsub : IntKind.i64.wrap (((msgs L).length : Int) - ((left (msgs L) addr).length : Int)) = ((toL (msgs L) addr 0).length : Int) := by
      rw [IntWalk.i64_in _ (by omega)]
      omega
    clear hsum i3 i4 i0 i1 i2
    gi_wp2_with (first
      | (gi_at_call 29; refine ((callsIn_wide (n := n - 1)).2 HT.out).mono ?_; rintro e w2 ⟨rfl, hN⟩; obtain ⟨r0, rK, hS, hW⟩ := HA.out w2 hN; have HS := Lib.hid hS; have HW := Lib.hid hW; clear hN hS hW)
      | (gi_at_call 11; refine ((callsIn_wide (n := n - 1)).2 HS.out).mono ?_; rintro e w3 ⟨rfl, rfl⟩))
    refine ⟨by simp, .inl ⟨_, _, rfl, run_takeDeferred rK, ?_⟩⟩
    exact ⟨_, results_tmp rfl _ _ _, rfl, HW.out⟩
  case stop => exact fun _ _ _ h _ => h.elim
theorem lose_any {w : World} {g mb M : Nat} {L : List (Option Ml)} (h : Bg w g mb M L) (addr : Int) :
    Calls Try.prog 18 #[.pointer (some ⟨g, 0, none⟩), .int .i64 addr] w fun e w' => e = .returned (.int .i64 ((toL (msgs L) addr 0).length : Nat)) ∧ Now w w' g mb M (left (msgs L) addr) :=
  callsIn_wide.1 (lose_in (n := 3) (Nat.le_refl _) h addr)
set_option maxHeartbeats 1000000 in
theorem lose_nil (addr : Int) (w : World) : Calls Try.prog 18 #[.pointer none, .int .i64 addr] w fun e w' => e = .returned (.int .i64 0) ∧ Below w.heap.size w w' := by
  have b0 := (Blk.new w #[.pointer none] 24).alloc (.cells #[.int .i64 addr] 3)
  have q0 := b0.cell 0
  have hB := ((Below.refl w.heap.size w).alloc (Nat.le_refl _) (.cells #[.pointer none] 24)).alloc (by simp) (.cells #[.int .i64 addr] 3)
  refine (callsIn_wide (n := 3)).1 ?_
  refine callsIn_of_wp Try.func18 rfl trivial ?_ rfl
  simp only [Try.ntmps18, List.size_toArray, List.length_cons, List.length_nil, Nat.reduceAdd, Nat.reduceSub, Array.replicate_succ, Array.replicate_zero, List.push_toArray, List.append_toArray, List.nil_append, List.cons_append]
  clear b0
  gi_wp2
  refine bodyPost_ret (results_tmp rfl _ _ _) rfl ⟨rfl, hB⟩
end Go.Proofs.Ytbjjbcjapkmnfaa
