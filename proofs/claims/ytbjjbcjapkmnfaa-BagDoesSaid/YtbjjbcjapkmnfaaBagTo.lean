/- The places of the messages to an address. -/
import Derived.Test.YtbjjbcjapkmnfaaBagNumber
import Derived.Maps.AppendAt
import Derived.Maps.OwnIn
import Derived.Test.YtbjjbcjapkmnfaaBagRound
namespace Go.Proofs.Ytbjjbcjapkmnfaa
open Go Go.RowKit Go.Shelf
attribute [local go_sem] Oper.semAt_some
variable {F : Fence} {n : Nat}

/-- numbers as cells -/
def ints (l : List Nat) : List Value := l.map fun (x : Nat) => .int .i64 (x : Int)
theorem ints_length (l : List Nat) : (ints l).length = l.length := by simp [ints]
theorem ints_append (l k : List Nat) : ints (l ++ k) = ints l ++ ints k := by simp [ints]
theorem infoN : (Try.prog.info? 3).map (fun i => (i.zero, i.size, i.bytes)) = some (some (.int .i64 0), 1, 8) := by kernel_rfl
theorem mixed : Try.prog.follows .mixedOrders = true := by kernel_rfl
theorem fieldTo (a b : Int) (s : ByteArray) (w : World) : (Instr.field 33 (.agg #[.int .i64 a, .int .i64 b, .string s]) 1).run Try.prog w = .ok (.int .i64 b) w := by kernel_rfl
/-- a piece of code that comes to one end alone -/
theorem wpIn_via {P : Program} {c : Code} {Q : Exit → Act → World → Prop} {a : Act} {w : World} (W' : World) (A : Act) (h : c.wpIn F n P (fun e a' w' => e = .normal ∧ a' = A ∧ w' = W') a w) (hq : Q .normal A W') : c.wpIn F n P Q a w :=
  wpIn_mono h fun e a' w' ⟨h1, h2, h3⟩ => by subst h1 h2 h3; exact hq
theorem own_base {w : World} {B B' e size n : Nat} {v : Value} {xs : List Value} (h : w.ownsRow B e size v n xs) (hB : B' ≤ B) : w.ownsRow B' e size v n xs := by
  refine ⟨h.1, h.2.imp id ?_⟩
  rintro ⟨g, cap, cur, h1, h2, r⟩
  exact ⟨g, cap, cur, h1, Nat.le_trans hB h2, r⟩

set_option maxRecDepth 100000 in
set_option maxHeartbeats 4000000 in
theorem to_in (hn : 3 ≤ n) {w : World} {g mb M : Nat} {L : List (Option Ml)} (h : Bg w g mb M L) (addr : Int) :
    CallsIn Fence.wide n Try.prog 17 #[.pointer (some ⟨g, 0, none⟩), .int .i64 addr] w fun e w' => ∃ v, e = .returned v ∧ Below w.heap.size w w' ∧ w'.ownsRow w.heap.size 3 1 v (toL (msgs L) addr 0).length (ints (toL (msgs L) addr 0)) := by
  have h1 : 1 ≤ n := by omega
  have hro : Fence.wide.round = none := rfl
  have h17 : Fence.wide.fn 17 := trivial
  have h30 : Fence.wide.fn 30 := trivial
  have h32 : Fence.wide.fn 32 := trivial
  obtain ⟨inf, hi, hz0, hz1, hz2⟩ := info_parts infoN
  refine callsIn_of_wp_marks Try.func17 rfl h17 ?_ hro
  simp only [Try.ntmps17, List.size_toArray, List.length_cons, List.length_nil, Nat.reduceAdd, Nat.reduceSub, Array.replicate_succ, Array.replicate_zero, List.push_toArray, List.append_toArray, List.nil_append, List.cons_append]
  gi_wp2_with (gi_at_call 30; refine (places_in (F := Fence.wide) (n := n - 1) h30 hro _ _).mono ?_; rintro e w' ⟨rfl, rfl⟩)
  obtain ⟨s, hs⟩ : ∃ s, w.heap.size = s := ⟨_, rfl⟩
  have b0 := Blk.new w #[.pointer (some ⟨g, 0, none⟩)] 24
  have b1 := Blk.new (w.alloc (.cells #[.pointer (some ⟨g, 0, none⟩)] 24)) #[.int .i64 addr] 3
  have b2 := Blk.new ((w.alloc (.cells #[.pointer (some ⟨g, 0, none⟩)] 24)).alloc (.cells #[.int .i64 addr] 3)) #[.slice none 0 0] 47
  have b3 := Blk.new (((w.alloc (.cells #[.pointer (some ⟨g, 0, none⟩)] 24)).alloc (.cells #[.int .i64 addr] 3)).alloc (.cells #[.slice none 0 0] 47)) #[.pointer (some ⟨g, 0, none⟩)] 24
  have c0 := (((b0.alloc (.cells #[.int .i64 addr] 3)).alloc (.cells #[.slice none 0 0] 47)).alloc (.cells #[.pointer (some ⟨g, 0, none⟩)] 24))
  have c1 := ((b1.alloc (.cells #[.slice none 0 0] 47)).alloc (.cells #[.pointer (some ⟨g, 0, none⟩)] 24))
  have c2 := (b2.alloc (.cells #[.pointer (some ⟨g, 0, none⟩)] 24))
  have hB : Below s w ((((w.alloc (.cells #[.pointer (some ⟨g, 0, none⟩)] 24)).alloc (.cells #[.int .i64 addr] 3)).alloc (.cells #[.slice none 0 0] 47)).alloc (.cells #[.pointer (some ⟨g, 0, none⟩)] 24)) :=
    ((((Below.refl s w).alloc (by omega) _).alloc (by simp; omega) _).alloc (by simp; omega) _).alloc (by simp; omega) _
  have hG := h.bel hB (by have := h.lt; omega) (by have := h.own.lt; omega)
  have hsz : ((((w.alloc (.cells #[.pointer (some ⟨g, 0, none⟩)] 24)).alloc (.cells #[.int .i64 addr] 3)).alloc (.cells #[.slice none 0 0] 47)).alloc (.cells #[.pointer (some ⟨g, 0, none⟩)] 24)).heap.size = s + 1 + 1 + 1 + 1 := by simp [hs]
  have hgl := h.lt
  have hml := h.own.lt
  simp only [World.size_alloc, hs] at b3 c0 c1 c2 hgl hml
  simp only [hs]
  clear b0 b1 b2
  generalize ((((w.alloc (.cells #[.pointer (some ⟨g, 0, none⟩)] 24)).alloc (.cells #[.int .i64 addr] 3)).alloc (.cells #[.slice none 0 0] 47)).alloc (.cells #[.pointer (some ⟨g, 0, none⟩)] 24)) = W0 at *
  refine range_in hro h1 (lb := #[.pointer (some ⟨s + 1 + 1 + 1, 0, none⟩)]) rfl h32 L (Rd (s + 1 + 1 + 1) g mb M L) (goes_any (n := n - 1) h32 hro (by omega) _ g mb M L) rfl
    (fun k W => Blk W s #[.pointer (some ⟨g, 0, none⟩)] 24 ∧ Blk W (s + 1) #[.int .i64 addr] 3 ∧ (∃ v, Boxed W (s + 1 + 1) 47 v ∧ W.ownsRow (s + 1 + 1) 3 1 v (toN (msgs L) addr k).length (ints (toN (msgs L) addr k)) ∧ True) ∧ Blk W (s + 1 + 1 + 1) #[.pointer (some ⟨g, 0, none⟩)] 24 ∧ Bg W g mb M L ∧ Below s w W)
    (fun _ => False)
    (fun k W W' row hI hg hr => by
      have hO := holdsRow_own (s + 1 + 1) (s + 1 + 1) 47 3 1 (fun k => (toN (msgs L) addr k).length) (fun k => ints (toN (msgs L) addr k)) (fun _ _ => True) k W W' row hI.2.2.1 hg (fun r e => (hr r e).2)
      rw [hsz] at hr
      obtain ⟨i0, i1, i2, i3, i4, i5⟩ := hI
      exact ⟨i0.row hg hr (by omega), i1.row hg hr (by omega), hO, i3.row hg hr (by omega), i4.row hg hr (by omega) (by omega), bel_row i5 hg hr (by omega) (by omega)⟩)
    (fun _ _ _ _ hI _ _ => hI)
    (fun k W hI => ⟨hI.2.2.2.1.cell 0, L, hI.2.2.2.2.1, rfl, fun _ _ => rfl⟩)
    ⟨c0, c1, ⟨_, c2, World.ownsRow_nil _ _ _ _, trivial⟩, b3, hG, hB⟩ ?a1 ?assign ?body ?done ?stop
  case assign =>
    intro l j W K hK
    dsimp only [pn]
    gi_wp2
    exact hK
  case body =>
    rintro l j m W hx ⟨i0, i1, ⟨v, hv, hrow, _⟩, i3, i4, i5⟩
    have q0 := i0.cell 0
    have q1 := i1.cell 0
    have q2 := hv.cell
    have q3 := i4.c2
    have hjl := i4.len
    have hj : j < L.length := (List.getElem?_eq_some_iff.1 hx).1
    have hlook := (i4.own.same (w' := W.drew) rfl).look hx (by omega)
    dsimp only [mlC] at hlook
    have hmix := mixed
    have hfd := fieldTo m.fr m.to m.bd W.drew
    have hcl := cnt_le L j
    have htl := toN_le (msgs L) addr (cnt L j)
    gi_wp2
    apply wpIn_via W.drew
    case h =>
      refine round_tail0 8 (by kernel_rfl) (by kernel_rfl) (by kernel_rfl) (fun _ _ h => by cases h.1) (fun _ _ _ _ _ h => by cases h.1) ?_
      simp only [List.take_succ_cons, List.take_zero, List.drop_succ_cons, List.drop_zero]
      repeat still_step
      refine wpStill_nil ?_
      go_wp2
      first | exact rfl | exact ⟨rfl, rfl, rfl⟩
    case hq =>
      clear hlook hfd
      have hb : Below (s + 1 + 1) W W.drew := ⟨rfl, rfl, rfl, Nat.le_refl _, fun _ _ => rfl⟩
      gi_wp2_with (gi_at_builtin; refine wpListIn_append_own _ rfl _ _ 47 rfl (s + 1 + 1) 3 inf (.int .i64 0) 1 8 Try.underlying47 hi hz0 hz1 hz2 rfl (by decide) _ _ _ rfl (World.ownsRow.alloc (w := W.drew) hrow _) ⟨W.heap.size, 0, none⟩ 1 1 [.int .i64 (cnt L j : Nat)] rfl rfl (cell_one_new _ _ _) (by simp [Value.oneCell']) (by unfold maxLen; omega) (by omega) (by have := hv.lt; simp; omega) ?_; intro v' w1 hown' hgrow _; obtain ⟨g', cap', rfl⟩ := ownsRow_succ hown'; obtain ⟨hv1, hv2, hr2, hk2, hb2⟩ := Boxed.appended (W := W.drew) hv (by decide) hrow (by have := hv.lt; show s + 1 + 1 ≤ W.heap.size; omega) (Nat.le_refl _) hown' hgrow; have hc1 := hv1.cell; have hf1 := hv1.frozen)
      · have he : m.to = addr := by first | assumption | exact eq_of_beq (by assumption)
        have hb3 := hb.trans hb2
        have i3' : Boxed W.drew (s + 1 + 1 + 1) 24 (.pointer (some ⟨g, 0, none⟩)) := i3
        have i6 : Blk w1 (s + 1 + 1 + 1) #[.pointer (some ⟨g, 0, none⟩)] 24 := (i3'.alloc _).kept hgrow (i3'.not_row (by decide) hrow)
        refine ⟨((KeepsOthers.drew W).trans hk2).from _, i0.below hb3 (by omega), i1.below hb3 (by omega), ⟨_, hv2, ?_, trivial⟩, i6.other _ _ _ (by omega), i4.bel hb3 (by omega) (by omega), i5.trans (hb3.mono (by omega))⟩
        rw [toN_hit (cnt_msg hx) he, ints_append, List.length_append]
        exact hr2
      · have he : ¬ m.to = addr := by first | assumption | (rename_i hz; simpa using hz)
        exact ⟨(KeepsOthers.drew W).from _, i0, i1, ⟨v, hv, by rw [toN_miss (cnt_msg hx) he]; exact hrow, trivial⟩, i3, i4.bel hb (by omega) (by omega), i5.trans (hb.mono (by omega))⟩
  case done =>
    rintro D W hD ⟨i0, i1, ⟨v, hv, hrow, _⟩, i3, i4, i5⟩ hK
    have q2 := hv.cell
    gi_wp2
    refine ⟨by simp, .inl ⟨_, _, rfl, run_takeDeferred hK, ?_⟩⟩
    refine ⟨_, results_tmp rfl _ _ _, v, rfl, ?_, ?_⟩
    · rw [hs]; exact bel_put i5 (by omega)
    · rw [hs, ← toN_all]; exact own_base (ownsRow_putObj hrow _ hK rfl) (by omega)
  case stop => exact fun _ _ _ h _ => h.elim
end Go.Proofs.Ytbjjbcjapkmnfaa
