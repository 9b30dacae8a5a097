/- TableNears: for any table, place and addresses the call returns true: the nearest one is between Self and the place, and no known one that may be asked is nearer to it. No condition. -/
import Derived.Test.YtkcljbolopephaaTabNearWalk
import Derived.Test.YtkcljbolopephaaTabEnd
namespace Go.Proofs.Ytkcljbolopephaa.NearLaw
set_option maxRecDepth 100000
open Go Go.ChangeShapes Go.WideShapes Go.ChangeAt Go.RowKit Go.Sort

theorem near_q0 {s : Pe} {id : Nat} {A : List Int} {K : List Pe} {rr : Pe × Bool} (h : Near s id A K rr) : ∀ y ∈ K, openB s.2 y.2 id = true → memB A y.1 = false → (nrR rr).2 = true ∧ openB (nrR rr).1.2 y.2 id = false := fun y hy ho hm => by
  cases hr : rr.2
  · rw [(h.no hr).2 y hy hm] at ho; cases ho
  · have e : nrR rr = rr := by unfold nrR; rw [if_pos hr]
    rw [e]
    exact ⟨hr, (h.yes hr).2.2.2 y hy hm ho⟩
theorem near_end {s : Pe} {id : Nat} {A : List Int} {K : List Pe} {rr : Pe × Bool} (h : Near s id A K rr) : thB (fun y => (openB s.2 y.2 id && !memB A y.1) && eqP y (nrR rr).1) K K.length = (nrR rr).2 := by
  unfold thB
  rw [List.take_length]
  cases hr : rr.2
  · have e : nrR rr = ((-1, 0), false) := by unfold nrR; rw [if_neg (by rw [hr]; simp)]
    rw [e, List.any_eq_false]
    intro y hy
    cases hm : memB A y.1
    · rw [(h.no hr).2 y hy hm]; simp
    · simp
  · have e : nrR rr = rr := by unfold nrR; rw [if_pos hr]
    rw [e, hr, List.any_eq_true]
    obtain ⟨h1, h2, h3, _⟩ := h.yes hr
    exact ⟨rr.1, h1, by rw [h2, h3, eqP_self]; rfl⟩
theorem near_no {rr : Pe × Bool} (h : (nrR rr).2 = false) : eqP (nrR rr).1 (-1, 0) = true := by
  cases hr : rr.2
  · have e : nrR rr = ((-1, 0), false) := by unfold nrR; rw [if_neg (by rw [hr]; simp)]
    rw [e]; exact eqP_self _
  · have e : nrR rr = rr := by unfold nrR; rw [if_pos hr]
    rw [e, hr] at h; cases h
theorem walk {w : World} {s q : Pe} {u v z : Value} {S F : List Pe} {A : List Int} (hS : Lies w u S) (hF : Lies w v F) (_ : s.2 < M) (_ : q.2 < M) (_ : Wf S) (_ : Wf F) (id : Nat) (_ : id < M) (hA : Nums w z A) :
    Calls Try.prog 7 #[.agg (tabA s q u v), idv id, z] w fun e w' => e = .returned (.bool true) ∧ Below w.heap.size w w' := by
  cases hb : bigB S F
  · have hl := big_no hb
    by_cases hla : A.length ≤ 100
    · have hn := near_of s id A (knL s q S F)
      refine walk_core (K := knL s q S F) (q := (nrR (nrG (fun a b => openB a b id) A (s, false) (knL s q S F))).1) tabled_gives id (nrR (nrG (fun a b => openB a b id) A (s, false) (knL s q S F))).2
        (fun y => openB s.2 y.2 id) (fun y => openB (nrR (nrG (fun a b => openB a b id) A (s, false) (knL s q S F))).1.2 y.2 id) (fun y => eqP y (nrR (nrG (fun a b => openB a b id) A (s, false) (knL s q S F))).1)
        (fun W h => by have := big_any (s := s) (p := q) (hS.bel h) (hF.bel h); rwa [hb] at this) (fun W h => near_any id (hS.bel h) (hF.bel h) (hA.bel h) (by omega) (by omega)) (fun W h => known_any (hS.bel h) (hF.bel h) (by omega))
        (fun y w => open_all _ _ _ w) (fun y w => open_all _ _ _ w) (fun y => rfl) hA hla (Nat.le_trans (kn_le s q S F) (by omega)) (near_q0 hn) (near_end hn) near_no
    · exact walk_out id hS hF hA (.inr ⟨hb, by omega⟩)
  · exact walk_out id hS hF hA (.inl hb)

set_option maxRecDepth 100000 in
theorem lifted (os : Os) (started : os.Started) (H : Type) (enc : TypeId × Value → H) :
    ReturnsInHanded {} Try.checked os 7 .any (Rows.tableNearsSpec.pre6 enc Try.prog Try.f7 Rows.tableNearsRow.domain false) (Rows.tableNearsSpec.post enc Try.prog Try.f7 false true false false) := by
  refine returnsInHanded_of_change (C := Try.checked) own started (by kernel_rfl) Try.func7
    (ChangeSpec.witness6 (enc := enc) (C := Try.checked) false ⟨#[], #[.agg #[.int .i64 0, .int .u8 0, .int .u8 0, .int .u8 0, .int .u8 0, .int .u8 0, .int .u8 0, .int .u8 0, .int .u8 0, .int .u8 0, .int .u8 0, .int .u8 0, .int .u8 0, .int .u8 0, .int .u8 0, .int .u8 0, .int .u8 0, .int .u8 0, .int .u8 0, .int .u8 0, .int .u8 0, .int .i64 0, .int .u8 0, .int .u8 0, .int .u8 0, .int .u8 0, .int .u8 0, .int .u8 0, .int .u8 0, .int .u8 0, .int .u8 0, .int .u8 0, .int .u8 0, .int .u8 0, .int .u8 0, .int .u8 0, .int .u8 0, .int .u8 0, .int .u8 0, .int .u8 0, .int .u8 0, .int .u8 0, .slice none 0 0, .slice none 0 0], .agg #[.int .u8 0, .int .u8 0, .int .u8 0, .int .u8 0, .int .u8 0, .int .u8 0, .int .u8 0, .int .u8 0, .int .u8 0, .int .u8 0, .int .u8 0, .int .u8 0, .int .u8 0, .int .u8 0, .int .u8 0, .int .u8 0, .int .u8 0, .int .u8 0, .int .u8 0, .int .u8 0], .slice none 0 0], []⟩ 8 (by kernel_rfl) (by kernel_rfl) (by kernel_rfl) (by kernel_rfl)) ?_
  intro W base args ds gs before hval0 hW hcnd _
  have hval : ∀ (j : Nat) t v, Try.f7.params[j]? = some t → args[j]? = some v → Value.okWide Try.prog W .any base t v := hval0
  have hW' := hW
  obtain ⟨p, q, hA0, hV, rfl, hfz, hnd⟩ := hW
  have hA : DataW.TrodAll enc Try.prog W 0 (fun _ => true) true Try.f7.params.toList args.toList ds p := hA0
  rw [Try.params7] at hA hval
  obtain ⟨v0, vs0, d0, ds0, p0, q0, hargs, rfl, rfl, h0, r0⟩ := trodAll_cons hA
  obtain ⟨v1, vs1, d1, ds1, p1, q1, rfl, rfl, rfl, h1, r1⟩ := trodAll_cons r0
  obtain ⟨v2, vs2, d2, ds2, p2, q2, rfl, rfl, rfl, h2, r2⟩ := trodAll_cons r1
  obtain ⟨rfl, rfl, rfl⟩ := trodAll_nil r2
  obtain rfl : args = #[v0, v1, v2] := by cases args; simp_all
  obtain ⟨rfl, rfl⟩ := trodVars_none hV
  have k0 := h0
  have lt0 : ∀ x ∈ p0, x.block < W.heap.size := by obtain ⟨m, hm⟩ := k0; exact DataW.trod_lt m _ _ _ hm
  obtain ⟨s0, q0_, a0, b0, S0, F0, rfl, ls0, lf0, ms0, mq0, ws0, wf0⟩ := open_tab (hval 0 28 v0 rfl rfl) h0
  have k1 := h1
  have lt1 : ∀ x ∈ p1, x.block < W.heap.size := by obtain ⟨m, hm⟩ := k1; exact DataW.trod_lt m _ _ _ hm
  obtain ⟨n1, il1, rfl⟩ := open_id (hval 1 23 v1 rfl rfl) h1
  have k2 := h2
  have lt2 : ∀ x ∈ p2, x.block < W.heap.size := by obtain ⟨m, hm⟩ := k2; exact DataW.trod_lt m _ _ _ hm
  obtain ⟨A2, nm2⟩ := open_nums (hval 2 41 v2 rfl rfl) h2
  clear hA0 hval0
  refine (walk ls0 lf0 ms0 mq0 ws0 wf0 n1 il1 nm2).mono fun e W' ⟨he, bel⟩ => ?_
  subst he
  exact ⟨_, rfl, _, _, _, [], _, [], hW', trodAll_mk1 (shut_bool Try.underlying4 _), (trodAll_cons_mk (Below.trod laidOut (by kernel_rfl) (of_decide_eq_true (by kernel_rfl)) k0 bel lt0) (trodAll_cons_mk (Below.trod laidOut (by kernel_rfl) (of_decide_eq_true (by kernel_rfl)) k1 bel lt1) (trodAll_cons_mk (Below.trod laidOut (by kernel_rfl) (of_decide_eq_true (by kernel_rfl)) k2 bel lt2) trodAll_mk0))), rfl, bel.frame _, fun h => by cases h⟩

theorem proved : Rows.TableNearsSaid :=
  OpenClaim.holds_of_wide 7 Try.f7 rfl rfl rfl rfl rfl rfl rfl ⟨rfl, rfl, rfl, rfl, rfl⟩ rfl rfl rfl rfl rfl (by kernel_rfl) Try.func7 (by kernel_rfl)
    (of_decide_eq_true (by kernel_rfl)) (by unfold Func.isWrapper; first | (rw [if_pos (by decide +kernel)]; kernel_rfl) | (rw [if_neg (by decide +kernel)]; exact ⟨rfl, rfl⟩))
    (fun os started H enc _ => lifted os started H enc)
end Go.Proofs.Ytkcljbolopephaa.NearLaw
