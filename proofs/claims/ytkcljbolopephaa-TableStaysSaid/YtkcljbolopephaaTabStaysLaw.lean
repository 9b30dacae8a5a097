/- TableStays: for any table, peers, two numbers and address the call returns true: a right table stays right, whatever is done. No condition. -/
import Derived.Test.YtkcljbolopephaaTabStayQ
import Derived.Test.YtkcljbolopephaaTabTabled
import Derived.Test.YtkcljbolopephaaTabOpen
namespace Go.Proofs.Ytkcljbolopephaa.StayLaw
set_option maxRecDepth 100000
open Go Go.ChangeShapes Go.WideShapes Go.ChangeAt Go.RowKit Go.Sort

theorem tabled_gives : Gives Try.prog 17 #[] (.bool true) := fun w => tabled_any w
theorem big_no {S F : List Pe} (h : bigB S F = false) : S.length ≤ 40 ∧ F.length ≤ 200 := by
  unfold bigB at h
  rw [Bool.or_eq_false_iff, decide_eq_false_iff_not, decide_eq_false_iff_not] at h
  omega
theorem is_true {s p : Pe} {S F : List Pe} (h : Rt s p S F) (W : World) (r1 r2 : Value) (h1 : Lies W r1 S) (h2 : Lies W r2 F) : Calls Try.prog 25 #[.agg (tabA s p r1 r2)] W fun e w' => e = .returned (.bool true) ∧ Below W.heap.size W w' := by
  have := is_any (s := s) (p := p) h1 h2 (by have := h.len; omega) (by have := h.fin; omega)
  rwa [isT_iff.2 h] at this
theorem pt_args {s q x : Pe} {S F : List Pe} {k : Int} (h : pointB s q S F x k = true) : 0 ≤ k ∧ k < 160 := by
  unfold pointB okK at h
  simp only [Bool.and_eq_true, decide_eq_true_eq] at h
  exact h.2.1
/-- what a call that adopts, or points, leaves: a table with its two rows -/
def AnsA (w : World) (t p x : Pe) (AS AF : List Pe) (u v z : Value) (r : Int) (s q : Pe) (code : Int) : Prop :=
  ∀ W, Below w.heap.size w W → Calls Try.prog 13 #[.agg (tabA t p u v), .agg (peA x), z, .int .i64 r] W fun e w' => ∃ r1 r2, e = .returned (.tuple #[.agg (tabA s q r1 r2), .int .i64 code]) ∧ Lies w' r1 AS ∧ Lies w' r2 AF ∧ Below W.heap.size W w'
theorem walk {w : World} {s q : Pe} {u v : Value} {S F : List Pe} (hS : Lies w u S) (hF : Lies w v F) (_ : s.2 < M) (_ : q.2 < M) (_ : Wf S) (_ : Wf F) (x : Pe) (_ : x.2 < M) {z : Value} {R : List Pe} (hR : Lies w z R) (_ : Wf R)
    (r : Int) (_ : -9223372036854775808 ≤ r ∧ r ≤ 9223372036854775807) (k : Int) (_ : -9223372036854775808 ≤ k ∧ k ≤ 9223372036854775807) (a : Int) (_ : -9223372036854775808 ≤ a ∧ a ≤ 9223372036854775807) :
    Calls Try.prog 5 #[.agg (tabA s q u v), .agg (peA x), z, .int .i64 r, .int .i64 k, .int .i64 a] w fun e w' => e = .returned (.bool true) ∧ Below w.heap.size w w' := by
  obtain ⟨za, zc, rfl⟩ := hR.form
  cases hb : bigB S F
  · by_cases hlr : 40 < R.length
    · exact walk_long tabled_gives za R.length zc hS hF r k a hb hlr
    · cases hI : isT s q S F
      · have hl := big_no hb
        exact walk_no tabled_gives za R.length zc hS hF r k a hb hlr hI (by omega) (by omega)
      · have hl := big_no hb
        have hrt := isT_iff.1 hI
        have hB : ∀ W, Below w.heap.size w W → Calls Try.prog 9 #[.agg (tabA s q u v)] W fun e w' => e = .returned (.bool false) ∧ Below W.heap.size W w' := fun W h => by have := big_any (s := s) (p := q) (hS.bel h) (hF.bel h); rwa [hb] at this
        have hIs : ∀ W, Below w.heap.size w W → Calls Try.prog 25 #[.agg (tabA s q u v)] W fun e w' => e = .returned (.bool true) ∧ Below W.heap.size W w' := fun W h => is_true hrt W u v (hS.bel h) (hF.bel h)
        have hL : ∀ W, Below w.heap.size w W → Calls Try.prog 19 #[.agg (tabA s q u v), .agg (peA x)] W fun e w' => ∃ r1 r2, e = .returned (.agg (tabA s (if learnB s q S F x = true then x else q) r1 r2)) ∧ Lies w' r1 S ∧ Lies w' r2 F ∧ Below W.heap.size W w' := fun W h =>
          (learn_any x (hS.bel h) (hF.bel h) (by omega) (by omega)).mono fun _ _ ⟨t, he, ⟨r1, r2, ht, o1, o2, _⟩, hbl⟩ => ⟨r1, r2, by rw [he, ht], own_lies o1, own_lies o2, hbl⟩
        have hFG : ∀ W, Below w.heap.size w W → Calls Try.prog 34 #[.agg (tabA s q u v), .int .i64 a] W fun e w' => ∃ r1 r2, e = .returned (.agg (tabA s (forP a q) r1 r2)) ∧ Lies w' r1 (delL a S) ∧ Lies w' r2 (F.map (forP a)) ∧ Below W.heap.size W w' := fun W h => forget_any a (hS.bel h) (hF.bel h) (by omega) (by omega)
        have hIL := is_true (rt_learn (x := x) hrt)
        have hIF := is_true (rt_forget a hrt)
        have hA := fun W (h : Below w.heap.size w W) => adopt_any (s := s) (p := q) x r (hS.bel h) (hF.bel h) (hR.bel h) (by omega) (by omega) (by omega)
        have hP := fun W (h : Below w.heap.size w W) => point_any (s := s) (p := q) x k (hS.bel h) (hF.bel h) (by omega) (by omega) (fun _ => hrt.fin)
        have hA0 : adoptB s q S F x r = false → AnsA w s q x [] [] u v (.slice za R.length zc) r (0, 0) (0, 0) 1 := fun hab W h => (hA W h).mono fun e w' ⟨h1, h2⟩ => by
          rw [hab] at h1
          rcases h1 with ⟨_, h1⟩ | ⟨h1, _⟩
          · exact ⟨nilS, nilS, h1, lies_nil _, lies_nil _, h2⟩
          · cases h1
        have hA1 : adoptB s q S F x r = true → AnsA w s q x (adG (otherB s) r.toNat [x] R) F u v (.slice za R.length zc) r s q 0 := fun hab W h => (hA W h).mono fun e w' ⟨h1, h2⟩ => by
          rw [hab] at h1
          rcases h1 with ⟨h1, _⟩ | ⟨_, t, he, r1, r2, ht, o1, o2, _⟩
          · cases h1
          · exact ⟨r1, r2, by rw [he, ht], own_lies o1, own_lies o2, h2⟩
        cases hab : adoptB s q S F x r
        · cases hpb : pointB s q S F x k
          · exact walk_11 (S := S) (F := F) tabled_gives za R.length zc r k a 0 hB hIs (hA0 hab) (fun W h => (hP W h).mono fun e w' ⟨h1, h2⟩ => by
              rw [hpb] at h1
              rcases h1 with ⟨_, h1⟩ | ⟨h1, _⟩
              · exact ⟨nilS, nilS, h1, lies_nil _, lies_nil _, h2⟩
              · cases h1) hL hFG hIL hIF (by omega)
          · have hrp := rt_point hrt hpb
            have hPk : ∀ W, Below w.heap.size w W → Calls Try.prog 15 #[.agg (tabA s q u v), .int .i64 k, .agg (peA x)] W fun e w' => ∃ r1 r2, e = .returned (.tuple #[.agg (tabA s q r1 r2), .int .i64 ((ptL (pointG s x k.toNat) (160 - k.toNat) k.toNat F).2 : Int), .int .i64 0]) ∧ Lies w' r1 S ∧ Lies w' r2 (ptL (pointG s x k.toNat) (160 - k.toNat) k.toNat F).1 ∧ Below W.heap.size W w' := fun W h => (hP W h).mono fun e w' ⟨h1, h2⟩ => by
              rw [hpb] at h1
              rcases h1 with ⟨h1, _⟩ | ⟨_, r1, r2, e1, l1, l2, _⟩
              · cases h1
              · exact ⟨r1, r2, e1, l1, l2, h2⟩
            have hk := (pt_args hpb)
            rcases hrp.2 with h0 | h0
            · rw [h0] at hPk
              exact walk_10z (S := S) (F := F) tabled_gives za R.length zc r k a hB hIs (hA0 hab) hPk hL hFG hIL hIF (is_true hrp.1) (by omega)
            · exact walk_10n (S := S) (F := F) tabled_gives za R.length zc r k a _ hB hIs (hA0 hab) hPk hL hFG hIL hIF (is_true hrp.1) (by omega) (by omega) (by omega) (by omega)
        · have hra := rt_adopt (R := R) hrt hab
          have hFI : ∀ (W : World) r1 r2, Lies W r1 (adG (otherB s) r.toNat [x] R) → Calls Try.prog 27 #[.agg (tabA s q r1 r2)] W fun e w' => e = .returned (.agg (peA x)) ∧ Below W.heap.size W w' := fun W r1 r2 h1 => by
            have := first_any (s := s) (p := q) (v := r2) h1
            rwa [hra.2.2] at this
          cases hpb : pointB s q S F x k
          · exact walk_01 (S := S) (F := F) tabled_gives za R.length zc r k a 0 hB hIs (hA1 hab) (fun W h => (hP W h).mono fun e w' ⟨h1, h2⟩ => by
              rw [hpb] at h1
              rcases h1 with ⟨_, h1⟩ | ⟨h1, _⟩
              · exact ⟨nilS, nilS, h1, lies_nil _, lies_nil _, h2⟩
              · cases h1) hL hFG hIL hIF (is_true hra.1) hFI hra.2.1 (by omega)
          · have hrp := rt_point hrt hpb
            have hPk : ∀ W, Below w.heap.size w W → Calls Try.prog 15 #[.agg (tabA s q u v), .int .i64 k, .agg (peA x)] W fun e w' => ∃ r1 r2, e = .returned (.tuple #[.agg (tabA s q r1 r2), .int .i64 ((ptL (pointG s x k.toNat) (160 - k.toNat) k.toNat F).2 : Int), .int .i64 0]) ∧ Lies w' r1 S ∧ Lies w' r2 (ptL (pointG s x k.toNat) (160 - k.toNat) k.toNat F).1 ∧ Below W.heap.size W w' := fun W h => (hP W h).mono fun e w' ⟨h1, h2⟩ => by
              rw [hpb] at h1
              rcases h1 with ⟨h1, _⟩ | ⟨_, r1, r2, e1, l1, l2, _⟩
              · cases h1
              · exact ⟨r1, r2, e1, l1, l2, h2⟩
            have hk := (pt_args hpb)
            rcases hrp.2 with h0 | h0
            · rw [h0] at hPk
              exact walk_00z (S := S) (F := F) tabled_gives za R.length zc r k a hB hIs (hA1 hab) hPk hL hFG hIL hIF (is_true hra.1) hFI hra.2.1 (is_true hrp.1) (by omega)
            · exact walk_00n (S := S) (F := F) tabled_gives za R.length zc r k a _ hB hIs (hA1 hab) hPk hL hFG hIL hIF (is_true hra.1) hFI hra.2.1 (is_true hrp.1) (by omega) (by omega) (by omega) (by omega)
  · exact walk_big tabled_gives za R.length zc hS hF r k a hb

set_option maxRecDepth 100000 in
theorem lifted (os : Os) (started : os.Started) (H : Type) (enc : TypeId × Value → H) :
    ReturnsInHanded {} Try.checked os 5 .any (Rows.tableStaysSpec.pre6 enc Try.prog Try.f5 Rows.tableStaysRow.domain false) (Rows.tableStaysSpec.post enc Try.prog Try.f5 false true false false) := by
  refine returnsInHanded_of_change (C := Try.checked) own started (by kernel_rfl) Try.func5
    (ChangeSpec.witness6 (enc := enc) (C := Try.checked) false ⟨#[], #[.agg #[.int .i64 0, .int .u8 0, .int .u8 0, .int .u8 0, .int .u8 0, .int .u8 0, .int .u8 0, .int .u8 0, .int .u8 0, .int .u8 0, .int .u8 0, .int .u8 0, .int .u8 0, .int .u8 0, .int .u8 0, .int .u8 0, .int .u8 0, .int .u8 0, .int .u8 0, .int .u8 0, .int .u8 0, .int .i64 0, .int .u8 0, .int .u8 0, .int .u8 0, .int .u8 0, .int .u8 0, .int .u8 0, .int .u8 0, .int .u8 0, .int .u8 0, .int .u8 0, .int .u8 0, .int .u8 0, .int .u8 0, .int .u8 0, .int .u8 0, .int .u8 0, .int .u8 0, .int .u8 0, .int .u8 0, .int .u8 0, .slice none 0 0, .slice none 0 0], .agg #[.int .i64 0, .int .u8 0, .int .u8 0, .int .u8 0, .int .u8 0, .int .u8 0, .int .u8 0, .int .u8 0, .int .u8 0, .int .u8 0, .int .u8 0, .int .u8 0, .int .u8 0, .int .u8 0, .int .u8 0, .int .u8 0, .int .u8 0, .int .u8 0, .int .u8 0, .int .u8 0, .int .u8 0], .slice none 0 0, .int .i64 0, .int .i64 0, .int .i64 0], []⟩ 8 (by kernel_rfl) (by kernel_rfl) (by kernel_rfl) (by kernel_rfl)) ?_
  intro W base args ds gs before hval0 hW hcnd _
  have hval : ∀ (j : Nat) t v, Try.f5.params[j]? = some t → args[j]? = some v → Value.okWide Try.prog W .any base t v := hval0
  have hW' := hW
  obtain ⟨p, q, hA0, hV, rfl, hfz, hnd⟩ := hW
  have hA : DataW.TrodAll enc Try.prog W 0 (fun _ => true) true Try.f5.params.toList args.toList ds p := hA0
  rw [Try.params5] at hA hval
  obtain ⟨v0, vs0, d0, ds0, p0, q0, hargs, rfl, rfl, h0, r0⟩ := trodAll_cons hA
  obtain ⟨v1, vs1, d1, ds1, p1, q1, rfl, rfl, rfl, h1, r1⟩ := trodAll_cons r0
  obtain ⟨v2, vs2, d2, ds2, p2, q2, rfl, rfl, rfl, h2, r2⟩ := trodAll_cons r1
  obtain ⟨v3, vs3, d3, ds3, p3, q3, rfl, rfl, rfl, h3, r3⟩ := trodAll_cons r2
  obtain ⟨v4, vs4, d4, ds4, p4, q4, rfl, rfl, rfl, h4, r4⟩ := trodAll_cons r3
  obtain ⟨v5, vs5, d5, ds5, p5, q5, rfl, rfl, rfl, h5, r5⟩ := trodAll_cons r4
  obtain ⟨rfl, rfl, rfl⟩ := trodAll_nil r5
  obtain rfl : args = #[v0, v1, v2, v3, v4, v5] := by cases args; simp_all
  obtain ⟨rfl, rfl⟩ := trodVars_none hV
  have k0 := h0
  have lt0 : ∀ x ∈ p0, x.block < W.heap.size := by obtain ⟨m, hm⟩ := k0; exact DataW.trod_lt m _ _ _ hm
  obtain ⟨s0, q0_, a0, b0, S0, F0, rfl, ls0, lf0, ms0, mq0, ws0, wf0⟩ := open_tab (hval 0 28 v0 rfl rfl) h0
  have k1 := h1
  have lt1 : ∀ x ∈ p1, x.block < W.heap.size := by obtain ⟨m, hm⟩ := k1; exact DataW.trod_lt m _ _ _ hm
  obtain ⟨x1, rfl, mx1⟩ := open_peer (hval 1 25 v1 rfl rfl) h1
  have k2 := h2
  have lt2 : ∀ x ∈ p2, x.block < W.heap.size := by obtain ⟨m, hm⟩ := k2; exact DataW.trod_lt m _ _ _ hm
  obtain ⟨L2, ls2, wf2⟩ := open_peers (hval 2 26 v2 rfl rfl) h2
  have k3 := h3
  have lt3 : ∀ x ∈ p3, x.block < W.heap.size := by obtain ⟨m, hm⟩ := k3; exact DataW.trod_lt m _ _ _ hm
  obtain ⟨n3, bd3, rfl⟩ := open_i64 (hval 3 3 v3 rfl rfl) h3
  have k4 := h4
  have lt4 : ∀ x ∈ p4, x.block < W.heap.size := by obtain ⟨m, hm⟩ := k4; exact DataW.trod_lt m _ _ _ hm
  obtain ⟨n4, bd4, rfl⟩ := open_i64 (hval 4 3 v4 rfl rfl) h4
  have k5 := h5
  have lt5 : ∀ x ∈ p5, x.block < W.heap.size := by obtain ⟨m, hm⟩ := k5; exact DataW.trod_lt m _ _ _ hm
  obtain ⟨n5, bd5, rfl⟩ := open_i64 (hval 5 3 v5 rfl rfl) h5
  clear hA0 hval0
  refine (walk ls0 lf0 ms0 mq0 ws0 wf0 x1 mx1 ls2 wf2 n3 bd3 n4 bd4 n5 bd5).mono fun e W' ⟨he, bel⟩ => ?_
  subst he
  exact ⟨_, rfl, _, _, _, [], _, [], hW', trodAll_mk1 (shut_bool Try.underlying4 _), (trodAll_cons_mk (Below.trod laidOut (by kernel_rfl) (of_decide_eq_true (by kernel_rfl)) k0 bel lt0) (trodAll_cons_mk (Below.trod laidOut (by kernel_rfl) (of_decide_eq_true (by kernel_rfl)) k1 bel lt1) (trodAll_cons_mk (Below.trod laidOut (by kernel_rfl) (of_decide_eq_true (by kernel_rfl)) k2 bel lt2) (trodAll_cons_mk (Below.trod laidOut (by kernel_rfl) (of_decide_eq_true (by kernel_rfl)) k3 bel lt3) (trodAll_cons_mk (Below.trod laidOut (by kernel_rfl) (of_decide_eq_true (by kernel_rfl)) k4 bel lt4) (trodAll_cons_mk (Below.trod laidOut (by kernel_rfl) (of_decide_eq_true (by kernel_rfl)) k5 bel lt5) trodAll_mk0)))))), rfl, bel.frame _, fun h => by cases h⟩

theorem proved : Rows.TableStaysSaid :=
  OpenClaim.holds_of_wide 5 Try.f5 rfl rfl rfl rfl rfl rfl rfl ⟨rfl, rfl, rfl, rfl, rfl⟩ rfl rfl rfl rfl rfl (by kernel_rfl) Try.func5 (by kernel_rfl)
    (of_decide_eq_true (by kernel_rfl)) (by unfold Func.isWrapper; first | (rw [if_pos (by decide +kernel)]; kernel_rfl) | (rw [if_neg (by decide +kernel)]; exact ⟨rfl, rfl⟩))
    (fun os started H enc _ => lifted os started H enc)
end Go.Proofs.Ytkcljbolopephaa.StayLaw
