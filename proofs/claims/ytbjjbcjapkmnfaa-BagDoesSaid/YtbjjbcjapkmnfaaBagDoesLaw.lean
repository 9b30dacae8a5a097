/- BagDoes: for all scripts and all mosts the call returns true: a bag answers a script just as a row of messages does. No condition. -/
import Derived.Test.YtbjjbcjapkmnfaaBagStep3
import Derived.Test.YtbjjbcjapkmnfaaBagKeepsLaw
namespace Go.Proofs.Ytbjjbcjapkmnfaa.BagDoesLaw
open Go Go.ChangeShapes Go.WideShapes Go.ChangeAt Go.RowKit Go.Sort
open Go.ChangeMaps (open_string shut_string)

def FewP (l : List Stp) (w : World) (e : Ending) (w' : World) : Prop := ∃ r, e = .returned (.bool r) ∧ (r = true → l.length ≤ 100) ∧ w = w'
theorem FewP.mk {l : List Stp} {w : World} (r : Bool) (h : r = true → l.length ≤ 100) : FewP l w (.returned (.bool r)) w := ⟨r, rfl, h, rfl⟩

set_option maxHeartbeats 1000000 in
set_option maxRecDepth 100000 in
theorem few_any (v : Value) (l : List Stp) (w : World) (hS : Scr w v l) :
    Calls Try.prog 7 #[v] w (FewP l w) := by
  rcases hS with ⟨rfl, rfl⟩ | ⟨b, o, c, rfl, hj⟩
  · go_enter Try.func7, Try.ntmps7
    go_wp2
    refine wp_loop_rounds 1 ?_
    rw [rounds_succ]
    go_wp2
    go_ret
    exact FewP.mk _ fun _ => by simp
  · obtain ⟨n, hn⟩ : ∃ n, n = l.length := ⟨_, rfl⟩
    have HN := Lib.hid hn
    have HJ := Lib.hid hj
    rw [← hn]
    clear hn hj
    by_cases h60 : n ≤ 100
    · have hle : decide ((n : Int) ≤ 100) = true := by simp; omega
      go_enter Try.func7, Try.ntmps7
      go_wp2
      go_loop [3, 4] (fun s i => ∃ (k : Nat) (z : Int), k ≤ n ∧ i = .int .i64 k ∧ s = .int .i64 z) (fun _ i => n - (intOf i).toNat)
      case atStart => exact ⟨0, 0, by omega, rfl, rfl⟩
      case round =>
        obtain ⟨k, z, hk, rfl, rfl⟩ := hrel
        by_cases hlt : k < n
        · obtain ⟨s, hsk⟩ : ∃ s, l[k]? = some s := ⟨_, List.getElem?_eq_getElem (by rw [← HN.out]; omega)⟩
          have hr := HJ.out k s hsk
          have hc : w.cell? ⟨b, o + k * 5 + 1 + 2, none⟩ = some (.string s.m.bd) := hr 3 _ rfl
          have hc' : w.cell? ⟨b, o + k * 5 + 3, none⟩ = some (.string s.m.bd) := hr 3 _ rfl
          have hlt' : decide ((k : Int) < n) = true := by simp; omega
          clear hr
          generalize s.m.bd = sop at *
          go_wp2
          exact ⟨⟨k + 1, _, by omega, by go_num, rfl⟩, by simp [intOf]; omega⟩
        · obtain rfl : n = k := by omega
          have HF := Lib.hid HN.out
          go_wp2
          go_ret
          exact FewP.mk _ fun _ => by rw [← HF.out]; omega
    · have hle : decide ((n : Int) ≤ 100) = false := by simp; omega
      go_enter Try.func7, Try.ntmps7
      go_wp2
      refine wp_loop_rounds 1 ?_
      rw [rounds_succ]
      go_wp2
      all_goals
        go_ret
        exact FewP.mk _ fun h => (by cases h)

/-- both bags have the same, no text longer than what may stand -/
def Lp (B : Nat) (w0 w : World) (g h M : Nat) : Prop := ∃ K v, Pr B w0 w g h M K K v ∧ Short K
theorem Lp.below {B : Nat} {w0 w : World} {g h M : Nat} (t : Lp B w0 w g h M) : Below B w0 w := by obtain ⟨K, v, t, _⟩ := t; exact t.has.below
theorem Lp.sized {B : Nat} {w0 w : World} {g h M : Nat} (t : Lp B w0 w g h M) : ∃ (z : Nat) (ra : Option Addr) (rc : Nat), w.cell? ⟨h, 0, none⟩ = some (.slice ra z rc) ∧ (Calls Try.prog 11 #[.pointer (some ⟨g, 0, none⟩)] w fun e w' => e = .returned (.int .i64 (z : Int)) ∧ w = w') := by
  obtain ⟨K, v, t, _⟩ := t
  obtain ⟨a, c, rfl⟩ := own_form t.rb.own
  exact ⟨K.length, a, c, t.rb.blk.cell 0, hb_size t.has⟩

set_option maxRecDepth 100000 in
set_option maxHeartbeats 4000000 in
theorem walk_no (most : Int) (hm : most < 1 ∨ 1000 < most) (l : List Stp) (v : Value) {w : World} (hS : Scr w v l) : Calls Try.prog 3 #[.int .i64 most, v] w fun e w' => e = .returned (.bool true) ∧ Below w.heap.size w w' := by
  have HF := Lib.hid (few_any v l w hS)
  obtain ⟨a, c, rfl⟩ : ∃ a c, v = .slice a l.length c := by
    rcases hS with ⟨rfl, rfl⟩ | ⟨b, o, c, rfl, _⟩
    · exact ⟨_, _, rfl⟩
    · exact ⟨_, _, rfl⟩
  clear hS
  generalize l.length = n at HF ⊢
  go_enter Try.func3, Try.ntmps3
  go_upto_region 3 with (go_at_call 7; (with_reducible refine HF.out.mono ?_); rintro e w1 ⟨r, rfl, hr, rfl⟩; cases r)
  · go_ret
    exact ⟨rfl, Below.refl _ _⟩
  clear hr HF
  have HW := Lib.hid (new_err hm w)
  have HR := Lib.hid (refnew_err hm w)
  by_cases h0 : n = 0
  · subst h0
    go_upto_region 7 with (first
      | (go_at_call 8; (with_reducible refine HW.out.mono ?_); rintro e w2 ⟨rfl, rfl⟩)
      | (go_at_call 9; (with_reducible refine HR.out.mono ?_); rintro e w3 ⟨rfl, rfl⟩))
    go_wp2
    refine wp_loop_rounds 1 ?_
    rw [rounds_succ]
    go_wp2_with (go_at_call 12; (with_reducible refine (packed_any _).mono ?_); rintro e w5 ⟨rfl, b5⟩)
    go_ret
    exact ⟨rfl, b5⟩
  · have hlt : (0 : Int) < (n : Int) := by omega
    go_upto_region 7 with (first
      | (go_at_call 8; (with_reducible refine HW.out.mono ?_); rintro e w2 ⟨rfl, rfl⟩)
      | (go_at_call 9; (with_reducible refine HR.out.mono ?_); rintro e w3 ⟨rfl, rfl⟩))
    go_wp2
    refine wp_loop_rounds 1 ?_
    rw [rounds_succ]
    go_wp2_with (go_at_call 12; (with_reducible refine (packed_any _).mono ?_); rintro e w5 ⟨rfl, b5⟩)
    go_ret
    exact ⟨rfl, b5⟩

set_option maxRecDepth 100000 in
set_option maxHeartbeats 4000000 in
theorem walk_yes (M : Nat) (hM1 : 1 ≤ M) (hM2 : M ≤ 1000) (l : List Stp) (v : Value) {w : World} (hS : Scr w v l) : Calls Try.prog 3 #[.int .i64 (M : Int), v] w fun e w' => e = .returned (.bool true) ∧ Below w.heap.size w w' := by
  have HF := Lib.hid (few_any v l w hS)
  have HW := Lib.hid (hb_new hM1 hM2 w)
  have HR := Lib.hid (fun w' => refnew_any hM1 hM2 w' w.heap.size)
  have HS := Lib.hid hS
  obtain ⟨a, c, rfl⟩ : ∃ a c, v = .slice a l.length c := by
    rcases hS with ⟨rfl, rfl⟩ | ⟨b, o, c, rfl, _⟩
    · exact ⟨_, _, rfl⟩
    · exact ⟨_, _, rfl⟩
  clear hS
  obtain ⟨n, hn⟩ : ∃ n, n = l.length := ⟨_, rfl⟩
  have HN := Lib.hid hn
  rw [← hn] at HF HS ⊢
  clear hn
  go_enter Try.func3, Try.ntmps3
  go_upto_region 3 with (go_at_call 7; (with_reducible refine HF.out.mono ?_); rintro e w1 ⟨r, rfl, hr, rfl⟩; cases r)
  · go_ret
    exact ⟨rfl, Below.refl _ _⟩
  have h100 : n ≤ 100 := by rw [HN.out]; exact hr trivial
  clear hr
  go_upto_region 4 with (go_at_call 8; (with_reducible refine HW.out.mono ?_); rintro e w2 ⟨rfl, h2⟩; have H2 := Lib.hid h2; clear h2)
  have HR2 := Lib.hid (HR.out w2)
  go_upto_region 5 with (go_at_call 9; (with_reducible refine HR2.out.mono ?_); rintro e w3 ⟨rfl, r3, b3⟩; have K0 : Hid (Lp w.heap.size w w3 (w.heap.size + 1) w2.heap.size M) := ⟨[], _, ⟨H2.out.bel b3, r3, H2.out.le⟩, Short.nil⟩; clear r3 b3)
  clear HW HF HR HR2 H2
  generalize w2.heap.size = h at *
  go_wp2
  go_loopw [9] (fun i wr => ∃ k : Nat, k ≤ n ∧ i = .int .i64 k ∧ Lp w.heap.size w wr (w.heap.size + 1) h M) (fun i _ => n - (intOf i).toNat)
  case atStart => exact ⟨0, by omega, rfl, K0.out⟩
  case round =>
    clear K0
    obtain ⟨k, hk, rfl, hL⟩ := hrel
    have HL := Lib.hid hL
    clear hL
    by_cases hlt : k < n
    · obtain ⟨s, hs⟩ : ∃ s, l[k]? = some s := ⟨_, List.getElem?_eq_getElem (by rw [← HN.out]; omega)⟩
      obtain ⟨K, v, t, hml⟩ := HL.out
      have t' := t.bel (drew_bel wr)
      rcases HS.out with ⟨h0, _⟩ | ⟨b, o, c1, e1, hj⟩
      · rw [HN.out, h0] at hlt
        simp at hlt
      simp only [Value.slice.injEq] at e1
      obtain ⟨rfl, e2, rfl⟩ := e1
      clear e2
      have hr := hj k s hs
      have hbl : b < w.heap.size := range_lt hr (by simp [stpC])
      have d0 : w.cell? ⟨b, o + k * 5, none⟩ = some (.int .i64 s.kind) := hr 0 _ rfl
      have d1 : w.cell? ⟨b, o + k * 5 + 1, none⟩ = some (.int .i64 s.m.fr) := hr 1 _ rfl
      have d2 : w.cell? ⟨b, o + k * 5 + 2, none⟩ = some (.int .i64 s.m.to) := hr 2 _ rfl
      have d3 : w.cell? ⟨b, o + k * 5 + 3, none⟩ = some (.string s.m.bd) := hr 3 _ rfl
      have d4 : w.cell? ⟨b, o + k * 5 + 4, none⟩ = some (.int .i64 s.i) := hr 4 _ rfl
      have HSx : Hid (∀ w', Below w.heap.size w w' → w'.cell? ⟨b, o + k * 5, none⟩ = some (.int .i64 s.kind) ∧ w'.cell? ⟨b, o + k * 5 + 1, none⟩ = some (.int .i64 s.m.fr) ∧ w'.cell? ⟨b, o + k * 5 + 2, none⟩ = some (.int .i64 s.m.to) ∧ w'.cell? ⟨b, o + k * 5 + 3, none⟩ = some (.string s.m.bd) ∧ w'.cell? ⟨b, o + k * 5 + 4, none⟩ = some (.int .i64 s.i)) :=
        fun w' hb => ⟨(hb.cell (p := ⟨b, o + k * 5, none⟩) hbl).trans d0, (hb.cell (p := ⟨b, o + k * 5 + 1, none⟩) hbl).trans d1, (hb.cell (p := ⟨b, o + k * 5 + 2, none⟩) hbl).trans d2, (hb.cell (p := ⟨b, o + k * 5 + 3, none⟩) hbl).trans d3, (hb.cell (p := ⟨b, o + k * 5 + 4, none⟩) hbl).trans d4⟩
      have hb : Below w.heap.size w wr.drew := t'.has.below
      have hbw : Below w.heap.size w wr := t.has.below
      have HST : Hid (Calls Try.prog 10 #[.pointer (some ⟨w.heap.size + 1, 0, none⟩), .pointer (some ⟨h, 0, none⟩), .agg #[.int .i64 s.kind, .int .i64 s.m.fr, .int .i64 s.m.to, .string s.m.bd, .int .i64 s.i]] wr.drew fun e w' => e = .returned (.bool true) ∧ Lp w.heap.size w w' (w.heap.size + 1) h M) := by
        refine (step_any _ t' hM2 hml s).mono ?_
        rintro e w' ⟨he, K', v', t2, hl2⟩
        exact ⟨he, K', v', t2, hl2⟩
      clear d0 d1 d2 d3 d4 hr hj hs t t' HL hml
      generalize s.kind = kd at *
      generalize s.m.fr = mf at *
      generalize s.m.to = mt at *
      generalize s.m.bd = mb at *
      generalize s.i = si at *
      go_upto_region 10 with (fail)
      obtain ⟨x0, x1, x2, x3, x4⟩ := HSx.out _ hb
      obtain ⟨y0, y1, y2, y3, y4⟩ := HSx.out _ hbw
      go_region_with (first
          | (go_at_call 10; (with_reducible refine HST.out.mono ?_); rintro e w4 ⟨rfl, t4⟩; have T4 := Lib.hid t4; obtain ⟨z, ra, rc, cz, hsz⟩ := t4.sized; have HSZ := Lib.hid hsz; clear t4 hsz; have zz : ((z : Int) != (z : Int)) = false := by simp)
          | (go_at_call 11; (with_reducible refine HSZ.out.mono ?_); rintro e w5 ⟨rfl, rfl⟩))
      all_goals
        go_wp2
        exact ⟨⟨k + 1, by omega, by go_num, T4.out⟩, by simp [intOf]; omega⟩
    · obtain rfl : n = k := by omega
      have hb := HL.out.below
      have hle : w.heap.size ≤ wr.heap.size := hb.size
      go_wp2_with (go_at_call 12; (with_reducible refine (packed_any _).mono ?_); rintro e w5 ⟨rfl, b5⟩)
      go_ret
      exact ⟨rfl, step hb b5⟩

theorem walk (most : Int) (_ : -9223372036854775808 ≤ most ∧ most ≤ 9223372036854775807) (l : List Stp) (v : Value) {w : World} (hS : Scr w v l) : Calls Try.prog 3 #[.int .i64 most, v] w fun e w' => e = .returned (.bool true) ∧ Below w.heap.size w w' := by
  by_cases h : most < 1 ∨ 1000 < most
  · exact walk_no most h l v hS
  · obtain ⟨M, rfl⟩ := Int.eq_ofNat_of_zero_le (a := most) (by omega)
    exact walk_yes M (by omega) (by omega) l v hS

set_option maxRecDepth 100000 in
theorem lifted (os : Os) (started : os.Started) (H : Type) (enc : TypeId × Value → H) :
    ReturnsInHanded {} Try.checked os 3 .any (Rows.bagDoesSpec.pre6 enc Try.prog Try.f3 Rows.bagDoesRow.domain false) (Rows.bagDoesSpec.post enc Try.prog Try.f3 false true false false) := by
  refine returnsInHanded_of_change (C := Try.checked) own started (by kernel_rfl) Try.func3
    (ChangeSpec.witness6 (enc := enc) (C := Try.checked) false ⟨#[], #[.int .i64 0, .slice none 0 0], []⟩ 8 (by kernel_rfl) (by kernel_rfl) (by kernel_rfl) (by kernel_rfl)) ?_
  intro W base args ds gs before hval0 hW hcnd _
  have hval : ∀ (j : Nat) t v, Try.f3.params[j]? = some t → args[j]? = some v → Value.okWide Try.prog W .any base t v := hval0
  have hW' := hW
  obtain ⟨p, q, hA0, hV, rfl, hfz, hnd⟩ := hW
  have hA : DataW.TrodAll enc Try.prog W 0 (fun _ => true) true Try.f3.params.toList args.toList ds p := hA0
  rw [Try.params3] at hA hval
  obtain ⟨v0, vs0, d0, ds0, p0, q0, hargs, rfl, rfl, h0, r0⟩ := trodAll_cons hA
  obtain ⟨v1, vs1, d1, ds1, p1, q1, rfl, rfl, rfl, h1, r1⟩ := trodAll_cons r0
  obtain ⟨rfl, rfl, rfl⟩ := trodAll_nil r1
  obtain rfl : args = #[v0, v1] := by cases args; simp_all
  obtain ⟨rfl, rfl⟩ := trodVars_none hV
  have k0 := h0
  have lt0 : ∀ x ∈ p0, x.block < W.heap.size := by obtain ⟨m, hm⟩ := k0; exact DataW.trod_lt m _ _ _ hm
  obtain ⟨n0, ok0, rfl⟩ := open_i64 (hval 0 3 v0 rfl rfl) h0
  have k1 := h1
  have lt1 : ∀ x ∈ p1, x.block < W.heap.size := by obtain ⟨m, hm⟩ := k1; exact DataW.trod_lt m _ _ _ hm
  obtain ⟨n1, ok1⟩ := open_script (hval 1 22 v1 rfl rfl) h1
  clear hA0 hval0
  refine (walk n0 ok0 n1 v1 ok1).mono fun e W' ⟨he, bel⟩ => ?_
  subst he
  exact ⟨_, rfl, _, _, _, [], _, [], hW', trodAll_mk1 (shut_bool Try.underlying4 _), (trodAll_cons_mk (Below.trod laidOut (by kernel_rfl) (of_decide_eq_true (by kernel_rfl)) k0 bel lt0) (trodAll_cons_mk (Below.trod laidOut (by kernel_rfl) (of_decide_eq_true (by kernel_rfl)) k1 bel lt1) trodAll_mk0)), rfl, bel.frame _, fun h => by cases h⟩

theorem proved : Rows.BagDoesSaid :=
  OpenClaim.holds_of_wide 3 Try.f3 rfl rfl rfl rfl rfl rfl rfl ⟨rfl, rfl, rfl, rfl, rfl⟩ rfl rfl rfl rfl rfl (by kernel_rfl) Try.func3 (by kernel_rfl)
    (of_decide_eq_true (by kernel_rfl)) (by unfold Func.isWrapper; first | (rw [if_pos (by decide +kernel)]; kernel_rfl) | (rw [if_neg (by decide +kernel)]; exact ⟨rfl, rfl⟩))
    (fun os started H enc _ => lifted os started H enc)
end Go.Proofs.Ytbjjbcjapkmnfaa.BagDoesLaw
