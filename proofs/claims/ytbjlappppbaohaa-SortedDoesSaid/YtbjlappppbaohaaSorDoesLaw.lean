/- SortedDoes: for all scripts the call returns true: a map answers a script just as a row of items does. No condition. -/
import Derived.Test.YtbjlappppbaohaaSorStep2
namespace Go.Proofs.Ytbjlappppbaohaa.SorDoesLaw
open Go Go.ChangeShapes Go.WideShapes Go.ChangeAt Go.RowKit Go.Sort
open Go.ChangeMaps (open_string shut_string)

def FewP (l : List Stp) (w : World) (e : Ending) (w' : World) : Prop := ∃ r, e = .returned (.bool r) ∧ (r = true → l.length ≤ 100) ∧ w = w'
theorem FewP.mk {l : List Stp} {w : World} (r : Bool) (h : r = true → l.length ≤ 100) : FewP l w (.returned (.bool r)) w := ⟨r, rfl, h, rfl⟩

set_option maxHeartbeats 1000000 in
set_option maxRecDepth 100000 in
theorem few_any (v : Value) (l : List Stp) (w : World) (hS : Scr w v l) :
    Calls Try.prog 8 #[v] w (FewP l w) := by
  rcases hS with ⟨rfl, rfl⟩ | ⟨b, o, c, rfl, hj⟩
  · go_enter Try.func8, Try.ntmps8
    go_wp2
    refine wp_loop_rounds 1 ?_
    rw [rounds_succ]
    go_wp2
    go_ret
    exact FewP.mk _ fun _ => by simp
  · obtain ⟨n, hn⟩ : ∃ n, n = l.length := ⟨_, rfl⟩
    have HN := Lib.hid hn
    have HJ := Lib.hid hj
    rw [← hn]
    clear hn hj
    by_cases h60 : n ≤ 100
    · have hle : decide ((n : Int) ≤ 100) = true := by simp; omega
      go_enter Try.func8, Try.ntmps8
      go_wp2
      go_loop [3, 4] (fun s i => ∃ (k : Nat) (z : Int), k ≤ n ∧ i = .int .i64 k ∧ s = .int .i64 z) (fun _ i => n - (intOf i).toNat)
      case atStart => exact ⟨0, 0, by omega, rfl, rfl⟩
      case round =>
        obtain ⟨k, z, hk, rfl, rfl⟩ := hrel
        by_cases hlt : k < n
        · obtain ⟨s, hsk⟩ : ∃ s, l[k]? = some s := ⟨_, List.getElem?_eq_getElem (by rw [← HN.out]; omega)⟩
          obtain ⟨hr, _⟩ := HJ.out k s hsk
          have hc : w.cell? ⟨b, o + k * 5 + 2, none⟩ = some (.string s.val) := hr 2 _ rfl
          have hlt' : decide ((k : Int) < n) = true := by simp; omega
          clear hr
          generalize s.val = sop at *
          go_wp2
          exact ⟨⟨k + 1, _, by omega, by go_num, rfl⟩, by simp [intOf]; omega⟩
        · obtain rfl : n = k := by omega
          have HF := Lib.hid HN.out
          go_wp2
          go_ret
          exact FewP.mk _ fun _ => by rw [← HF.out]; omega
    · have hle : decide ((n : Int) ≤ 100) = false := by simp; omega
      go_enter Try.func8, Try.ntmps8
      go_wp2
      refine wp_loop_rounds 1 ?_
      rw [rounds_succ]
      go_wp2
      all_goals
        go_ret
        exact FewP.mk _ fun h => (by cases h)

/-- both maps have the same, no more than k -/
def Lp (B : Nat) (w0 w : World) (g h k : Nat) : Prop := ∃ M, Two B w0 w g h M M ∧ M.length ≤ k
theorem two_size {B : Nat} {w0 w : World} {g h : Nat} {L K : List It} (t : Two B w0 w g h L K) : Calls Try.prog 11 #[.pointer (some ⟨g, 0, none⟩)] w fun e w' => e = .returned (.int .i64 L.length) ∧ w = w' := by
  obtain ⟨v, u, P⟩ := t
  exact size_any P.m
theorem two_cell {B : Nat} {w0 w : World} {g h : Nat} {L K : List It} (t : Two B w0 w g h L K) : ∃ a c, w.cell? ⟨h, 0, none⟩ = some (.slice a K.length c) := by
  obtain ⟨v, u, P⟩ := t
  obtain ⟨a, c, _, hc⟩ := Mp.form P.r (Below.refl _ _)
  exact ⟨a, c, hc⟩
theorem two_new {w w1 : World} (hm : Mp w1 57 61 w.heap.size (.slice none 0 0) []) (hb : Below w.heap.size w w1) :
    Two w.heap.size w (w1.alloc (.cells #[.slice none 0 0] 29)) w.heap.size w1.heap.size [] [] := by
  have hl := hm.lt
  refine ⟨.slice none 0 0, .slice none 0 0, hm.alloc _, ⟨Blk.new _ _ _, World.ownsRow_nil _ _ _ _, by simp [Value.ownBlock], sorted_nil, by simp, fun x hx => by simp at hx⟩, hb.alloc hb.size _, Nat.le_refl _, hb.size, ?_, ?_, by omega, ?_, ?_, ?_⟩
  all_goals simp [Value.ownBlock]

set_option maxRecDepth 100000 in
set_option maxHeartbeats 4000000 in
theorem walk (l : List Stp) (v : Value) {w : World} (hS : Scr w v l) : Calls Try.prog 3 #[v] w fun e w' => e = .returned (.bool true) ∧ Below w.heap.size w w' := by
  have HF := Lib.hid (few_any v l w hS)
  have HW := Lib.hid (new_any w)
  have HS := Lib.hid hS
  obtain ⟨a, c, rfl⟩ : ∃ a c, v = .slice a l.length c := by
    rcases hS with ⟨rfl, rfl⟩ | ⟨b, o, c, rfl, _⟩
    · exact ⟨_, _, rfl⟩
    · exact ⟨_, _, rfl⟩
  clear hS
  obtain ⟨n, hn⟩ : ∃ n, n = l.length := ⟨_, rfl⟩
  have HN := Lib.hid hn
  rw [← hn] at HF HS ⊢
  clear hn
  go_enter Try.func3, Try.ntmps3
  go_upto_region 3 with (go_at_call 8; (with_reducible refine HF.out.mono ?_); rintro e w1 ⟨r, rfl, hr, rfl⟩; cases r)
  · go_ret
    exact ⟨rfl, Below.refl _ _⟩
  have h100 : n ≤ 100 := by rw [HN.out]; exact hr trivial
  clear hr
  go_upto_region 5 with (go_at_call 9; (with_reducible refine HW.out.mono ?_); rintro e w2 ⟨rfl, hm, hb⟩)
  have t0 := two_new hm hb
  have K0 : Hid (Lp w.heap.size w (w2.alloc (.cells #[.slice none 0 0] 29)) w.heap.size w2.heap.size 0) := ⟨[], t0, Nat.le_refl _⟩
  clear t0 hm hb HW HF
  generalize w2.alloc _ = W at *
  generalize w2.heap.size = h at *
  go_wp2
  go_loopw [5] (fun i wr => ∃ k : Nat, k ≤ n ∧ i = .int .i64 k ∧ Lp w.heap.size w wr w.heap.size h k) (fun i _ => n - (intOf i).toNat)
  case atStart => exact ⟨0, by omega, rfl, K0.out⟩
  case round =>
    clear K0
    obtain ⟨k, hk, rfl, hL⟩ := hrel
    have HL := Lib.hid hL
    clear hL
    by_cases hlt : k < n
    · obtain ⟨s, hs⟩ : ∃ s, l[k]? = some s := ⟨_, List.getElem?_eq_getElem (by rw [← HN.out]; omega)⟩
      obtain ⟨M, t, hml⟩ := HL.out
      have t' := t.bel (drew_bel wr)
      rcases HS.out with ⟨h0, _⟩ | ⟨b, o, c1, e1, hj⟩
      · rw [HN.out, h0] at hlt
        simp at hlt
      simp only [Value.slice.injEq] at e1
      obtain ⟨rfl, e2, rfl⟩ := e1
      clear e2
      obtain ⟨hr, hwf⟩ := hj k s hs
      have hbl : b < w.heap.size := range_lt hr (by simp [stpC])
      have d0 : w.cell? ⟨b, o + k * 5, none⟩ = some (.int .i64 s.kind) := hr 0 _ rfl
      have d1 : w.cell? ⟨b, o + k * 5 + 1, none⟩ = some (.int .u64 (s.key : Int)) := hr 1 _ rfl
      have d2 : w.cell? ⟨b, o + k * 5 + 2, none⟩ = some (.string s.val) := hr 2 _ rfl
      have d3 : w.cell? ⟨b, o + k * 5 + 3, none⟩ = some (.int .u64 (s.hi : Int)) := hr 3 _ rfl
      have d4 : w.cell? ⟨b, o + k * 5 + 4, none⟩ = some (.int .i64 s.most) := hr 4 _ rfl
      have HSx : Hid (∀ w', Below w.heap.size w w' → w'.cell? ⟨b, o + k * 5, none⟩ = some (.int .i64 s.kind) ∧ w'.cell? ⟨b, o + k * 5 + 1, none⟩ = some (.int .u64 (s.key : Int)) ∧ w'.cell? ⟨b, o + k * 5 + 2, none⟩ = some (.string s.val) ∧ w'.cell? ⟨b, o + k * 5 + 3, none⟩ = some (.int .u64 (s.hi : Int)) ∧ w'.cell? ⟨b, o + k * 5 + 4, none⟩ = some (.int .i64 s.most)) :=
        fun w' hb => ⟨(hb.cell (p := ⟨b, o + k * 5, none⟩) hbl).trans d0, (hb.cell (p := ⟨b, o + k * 5 + 1, none⟩) hbl).trans d1, (hb.cell (p := ⟨b, o + k * 5 + 2, none⟩) hbl).trans d2, (hb.cell (p := ⟨b, o + k * 5 + 3, none⟩) hbl).trans d3, (hb.cell (p := ⟨b, o + k * 5 + 4, none⟩) hbl).trans d4⟩
      have hb : Below w.heap.size w wr.drew := t'.below
      have hbw : Below w.heap.size w wr := t.below
      have HST : Hid (Calls Try.prog 10 #[.pointer (some ⟨w.heap.size, 0, none⟩), .pointer (some ⟨h, 0, none⟩), .agg #[.int .i64 s.kind, .int .u64 (s.key : Int), .string s.val, .int .u64 (s.hi : Int), .int .i64 s.most]] wr.drew fun e w' => e = .returned (.bool true) ∧ Lp w.heap.size w w' w.heap.size h (k + 1)) := by
        refine (step_any _ t' (by omega) s hwf).mono ?_
        rintro e w' ⟨he, M', t2, hl2⟩
        exact ⟨he, M', t2, by omega⟩
      have HZ : Hid (∀ w', Lp w.heap.size w w' w.heap.size h (k + 1) → ∃ (z : Nat) (ra : Option Addr) (rc : Nat), w'.cell? ⟨h, 0, none⟩ = some (.slice ra z rc) ∧ (Calls Try.prog 11 #[.pointer (some ⟨w.heap.size, 0, none⟩)] w' fun e w'' => e = .returned (.int .i64 (z : Int)) ∧ w' = w'') ∧ Below w.heap.size w w') := by
        intro w' ⟨M', t2, _⟩
        obtain ⟨ra, rc, hc⟩ := two_cell t2
        exact ⟨M'.length, ra, rc, hc, two_size t2, t2.below⟩
      clear d0 d1 d2 d3 d4 hr hj hs t t' HL hml hwf
      generalize s.kind = kd at *
      generalize s.key = ky at *
      generalize s.val = vl at *
      generalize s.hi = hi at *
      generalize s.most = ms at *
      go_upto_region 8 with (fail)
      obtain ⟨x0, x1, x2, x3, x4⟩ := HSx.out _ hb
      obtain ⟨y0, y1, y2, y3, y4⟩ := HSx.out _ hbw
      go_region_with (first
          | (go_at_call 10; (with_reducible refine HST.out.mono ?_); rintro e w4 ⟨rfl, t4⟩; have T4 := Lib.hid t4; obtain ⟨z, ra, rc, cz, hsz, hb4⟩ := HZ.out w4 t4; have HSZ := Lib.hid hsz; clear t4 hsz hb4; have zz : ((z : Int) != (z : Int)) = false := by simp)
          | (go_at_call 11; (with_reducible refine HSZ.out.mono ?_); rintro e w5 ⟨rfl, rfl⟩))
      all_goals
        go_wp2
        exact ⟨⟨k + 1, by omega, by go_num, T4.out⟩, by simp [intOf]; omega⟩
    · obtain rfl : n = k := by omega
      obtain ⟨M, t, _⟩ := HL.out
      have hb := t.below
      have hle : w.heap.size ≤ wr.heap.size := hb.size
      clear t
      go_wp2_with (go_at_call 12; (with_reducible refine (ordered_any _).mono ?_); rintro e w5 ⟨rfl, b5⟩)
      go_ret
      exact ⟨rfl, step hb b5⟩

set_option maxRecDepth 100000 in
theorem lifted (os : Os) (started : os.Started) (H : Type) (enc : TypeId × Value → H) :
    ReturnsInHanded {} Try.checked os 3 .any (Rows.sortedDoesSpec.pre6 enc Try.prog Try.f3 Rows.sortedDoesRow.domain false) (Rows.sortedDoesSpec.post enc Try.prog Try.f3 false true false false) := by
  refine returnsInHanded_of_change (C := Try.checked) own started (by kernel_rfl) Try.func3
    (ChangeSpec.witness6 (enc := enc) (C := Try.checked) false ⟨#[], #[.slice none 0 0], []⟩ 8 (by kernel_rfl) (by kernel_rfl) (by kernel_rfl) (by kernel_rfl)) ?_
  intro W base args ds gs before hval0 hW hcnd _
  have hval : ∀ (j : Nat) t v, Try.f3.params[j]? = some t → args[j]? = some v → Value.okWide Try.prog W .any base t v := hval0
  have hW' := hW
  obtain ⟨p, q, hA0, hV, rfl, hfz, hnd⟩ := hW
  have hA : DataW.TrodAll enc Try.prog W 0 (fun _ => true) true Try.f3.params.toList args.toList ds p := hA0
  rw [Try.params3] at hA hval
  obtain ⟨v0, vs0, d0, ds0, p0, q0, hargs, rfl, rfl, h0, r0⟩ := trodAll_cons hA
  obtain ⟨rfl, rfl, rfl⟩ := trodAll_nil r0
  obtain rfl : args = #[v0] := by cases args; simp_all
  obtain ⟨rfl, rfl⟩ := trodVars_none hV
  have k0 := h0
  have lt0 : ∀ x ∈ p0, x.block < W.heap.size := by obtain ⟨m, hm⟩ := k0; exact DataW.trod_lt m _ _ _ hm
  obtain ⟨n0, ok0⟩ := open_script (hval 0 22 v0 rfl rfl) h0
  clear hA0 hval0
  refine (walk n0 v0 ok0).mono fun e W' ⟨he, bel⟩ => ?_
  subst he
  exact ⟨_, rfl, _, _, _, [], _, [], hW', trodAll_mk1 (shut_bool Try.underlying4 _), (trodAll_cons_mk (Below.trod laidOut (by kernel_rfl) (of_decide_eq_true (by kernel_rfl)) k0 bel lt0) trodAll_mk0), rfl, bel.frame _, fun h => by cases h⟩

theorem proved : Rows.SortedDoesSaid :=
  OpenClaim.holds_of_wide 3 Try.f3 rfl rfl rfl rfl rfl rfl rfl ⟨rfl, rfl, rfl, rfl, rfl⟩ rfl rfl rfl rfl rfl (by kernel_rfl) Try.func3 (by kernel_rfl)
    (of_decide_eq_true (by kernel_rfl)) (by unfold Func.isWrapper; first | (rw [if_pos (by decide +kernel)]; kernel_rfl) | (rw [if_neg (by decide +kernel)]; exact ⟨rfl, rfl⟩))
    (fun os started H enc _ => lifted os started H enc)
end Go.Proofs.Ytbjlappppbaohaa.SorDoesLaw
