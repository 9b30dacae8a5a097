/- Of a nil bag there are no places. -/
import Derived.Test.YtbjjbcjapkmnfaaBagTake
namespace Go.Proofs.Ytbjjbcjapkmnfaa
open Go Go.RowKit Go.Shelf
attribute [local go_sem] Oper.semAt_some
variable {n : Nat}

theorem to_any {w : World} {g mb M : Nat} {L : List (Option Ml)} (h : Bg w g mb M L) (addr : Int) :
    Calls Try.prog 17 #[.pointer (some ⟨g, 0, none⟩), .int .i64 addr] w fun e w' => ∃ v, e = .returned v ∧ Below w.heap.size w w' ∧ w'.ownsRow w.heap.size 3 1 v (toL (msgs L) addr 0).length (ints (toL (msgs L) addr 0)) :=
  callsIn_wide.1 (to_in (n := 3) (Nat.le_refl _) h addr)

set_option maxRecDepth 100000 in
set_option maxHeartbeats 4000000 in
theorem to_nil_in (hn : 3 ≤ n) (w : World) (addr : Int) :
    CallsIn Fence.wide n Try.prog 17 #[.pointer none, .int .i64 addr] w fun e w' => e = .returned (.slice none 0 0) ∧ Below w.heap.size w w' := by
  have h1 : 1 ≤ n := by omega
  have hro : Fence.wide.round = none := rfl
  have h17 : Fence.wide.fn 17 := trivial
  have h30 : Fence.wide.fn 30 := trivial
  have h32 : Fence.wide.fn 32 := trivial
  refine callsIn_of_wp_marks Try.func17 rfl h17 ?_ hro
  simp only [Try.ntmps17, List.size_toArray, List.length_cons, List.length_nil, Nat.reduceAdd, Nat.reduceSub, Array.replicate_succ, Array.replicate_zero, List.push_toArray, List.append_toArray, List.nil_append, List.cons_append]
  gi_wp2_with (gi_at_call 30; refine (places_in (F := Fence.wide) (n := n - 1) h30 hro _ _).mono ?_; rintro e w' ⟨rfl, rfl⟩)
  obtain ⟨s, hs⟩ : ∃ s, w.heap.size = s := ⟨_, rfl⟩
  have b2 := Blk.new ((w.alloc (.cells #[.pointer none] 24)).alloc (.cells #[.int .i64 addr] 3)) #[.slice none 0 0] 47
  have b3 := Blk.new (((w.alloc (.cells #[.pointer none] 24)).alloc (.cells #[.int .i64 addr] 3)).alloc (.cells #[.slice none 0 0] 47)) #[.pointer none] 24
  have c2 := (b2.alloc (.cells #[.pointer none] 24))
  have hB : Below s w ((((w.alloc (.cells #[.pointer none] 24)).alloc (.cells #[.int .i64 addr] 3)).alloc (.cells #[.slice none 0 0] 47)).alloc (.cells #[.pointer none] 24)) :=
    ((((Below.refl s w).alloc (by omega) _).alloc (by simp; omega) _).alloc (by simp; omega) _).alloc (by simp; omega) _
  have hsz : ((((w.alloc (.cells #[.pointer none] 24)).alloc (.cells #[.int .i64 addr] 3)).alloc (.cells #[.slice none 0 0] 47)).alloc (.cells #[.pointer none] 24)).heap.size = s + 1 + 1 + 1 + 1 := by simp [hs]
  simp only [World.size_alloc, hs] at b3 c2
  simp only [hs]
  clear b2
  generalize ((((w.alloc (.cells #[.pointer none] 24)).alloc (.cells #[.int .i64 addr] 3)).alloc (.cells #[.slice none 0 0] 47)).alloc (.cells #[.pointer none] 24)) = W0 at *
  refine range_in hro h1 (lb := #[.pointer (some ⟨s + 1 + 1 + 1, 0, none⟩)]) rfl h32 [] (RdN (s + 1 + 1 + 1)) (goes_nil (n := n - 1) h32 hro _) rfl
    (fun _ W => Blk W (s + 1 + 1) #[.slice none 0 0] 47 ∧ Blk W (s + 1 + 1 + 1) #[.pointer none] 24 ∧ Below s w W)
    (fun _ => False)
    (fun k W W' row hI hg hr => by
      rw [hsz] at hr
      obtain ⟨i2, i3, i5⟩ := hI
      exact ⟨i2.row hg hr (by omega), i3.row hg hr (by omega), bel_row i5 hg hr (by omega) (by omega)⟩)
    (fun _ _ _ _ hI _ _ => hI)
    (fun k W hI => hI.2.1.cell 0)
    ⟨c2, b3, hB⟩ ?a1 ?assign ?body ?done ?stop
  case assign =>
    intro l j W K hK
    dsimp only [pn]
    gi_wp2
    exact hK
  case body =>
    rintro l j m W hx _
    simp at hx
  case done =>
    rintro D W hD ⟨i2, i3, i5⟩ hK
    have q2 := i2.cell 0
    gi_wp2
    refine ⟨by simp, .inl ⟨_, _, rfl, run_takeDeferred hK, ?_⟩⟩
    refine ⟨_, results_tmp rfl _ _ _, rfl, ?_⟩
    rw [hs]
    exact bel_put i5 (by omega)
  case stop => exact fun _ _ _ h _ => h.elim
theorem to_nil (w : World) (addr : Int) : Calls Try.prog 17 #[.pointer none, .int .i64 addr] w fun e w' => e = .returned (.slice none 0 0) ∧ Below w.heap.size w w' :=
  callsIn_wide.1 (to_nil_in (n := 3) (Nat.le_refl _) w addr)
end Go.Proofs.Ytbjjbcjapkmnfaa
