/- TablePoints: for any table, number and peer the call returns true: a finger is pointed to a peer just as long as it begins between Self and that one; all others stay. No condition. -/
import Derived.Test.YtkcljbolopephaaTabPointWalk2
import Derived.Test.YtkcljbolopephaaTabEnd
namespace Go.Proofs.Ytkcljbolopephaa.PointLaw
set_option maxRecDepth 100000
open Go Go.ChangeShapes Go.WideShapes Go.ChangeAt Go.RowKit Go.Sort

/-- where the pointing ends -/
def ptEnd (fg : Nat → Pe × Bool) : Nat → Nat → Nat
  | 0, i => i
  | n + 1, i => if (fg i).2 = true then ptEnd fg n (i + 1) else i
structure PtF (fg : Nat → Pe × Bool) (n i en : Nat) (L : List Pe) (r : List Pe × Nat) : Prop where
  lo : i ≤ en
  hi : en ≤ i + n
  yes : ∀ j, i ≤ j → j < en → (fg j).2 = true
  no : en < i + n → (fg en).2 = false
  nx : r.2 = if en = i + n then 0 else en
  out : ∀ j, ¬ (i ≤ j ∧ j < en) → r.1.getD j (0, 0) = L.getD j (0, 0)
  inn : ∀ j, i ≤ j → j < en → r.1.getD j (0, 0) = (fg j).1
theorem pt_facts (fg : Nat → Pe × Bool) : ∀ (n i : Nat) (L : List Pe), i + n ≤ L.length → PtF fg n i (ptEnd fg n i) L (ptL fg n i L)
  | 0, i, L, _ => ⟨Nat.le_refl _, Nat.le_refl _, fun j h1 h2 => by unfold ptEnd at h2; omega, fun h => by unfold ptEnd at h; omega, by unfold ptEnd ptL; simp, fun _ _ => rfl, fun j h1 h2 => by unfold ptEnd at h2; omega⟩
  | n + 1, i, L, hl => by
    rw [ptEnd, ptL]
    by_cases h : (fg i).2 = true
    · rw [if_pos h, if_pos h]
      have ih := pt_facts fg n (i + 1) (L.set i (fg i).1) (by rw [List.length_set]; omega)
      have h1 := ih.lo
      have h2 := ih.hi
      refine ⟨by omega, by omega, fun j h3 h4 => ?_, fun h3 => ih.no (by omega), ?_, fun j h3 => ?_, fun j h3 h4 => ?_⟩
      · by_cases e : j = i
        · rw [e]; exact h
        · exact ih.yes j (by omega) h4
      · rw [ih.nx, show i + 1 + n = i + (n + 1) by omega]
      · rw [ih.out j (by omega), List.getD_eq_getElem?_getD, List.getElem?_set, if_neg (by omega), ← List.getD_eq_getElem?_getD]
      · by_cases e : j = i
        · subst e
          rw [ih.out j (by omega), List.getD_eq_getElem?_getD, List.getElem?_set, if_pos rfl, if_pos (by omega)]; rfl
        · exact ih.inn j (by omega) h4
    · rw [if_neg h, if_neg h]
      refine ⟨Nat.le_refl _, by omega, fun j h1 h2 => by omega, fun _ => by simpa using h, by rw [if_neg (by omega)], fun _ _ => rfl, fun j h1 h2 => by omega⟩
theorem half_round {s x z : Nat} (h : eqB x s = true) : halfB s z x = true := by
  unfold eqB at h
  have h := of_decide_eq_true h
  unfold halfB openB
  have e1 : eqB z x = eqB z s := by unfold eqB; rw [h]
  have e2 : eqB s x = true := by unfold eqB; exact decide_eq_true h.symm
  rw [e1, e2]
  cases eqB z s <;> rfl
theorem walk {w : World} {s q : Pe} {u v : Value} {S F : List Pe} (hS : Lies w u S) (hF : Lies w v F) (_ : s.2 < M) (_ : q.2 < M) (_ : Wf S) (_ : Wf F) (r : Int) (_ : -9223372036854775808 ≤ r ∧ r ≤ 9223372036854775807) (x : Pe) (_ : x.2 < M) :
    Calls Try.prog 8 #[.agg (tabA s q u v), .int .i64 r, .agg (peA x)] w fun e w' => e = .returned (.bool true) ∧ Below w.heap.size w w' := by
  cases hb : bigB S F
  · have hl := big_no hb
    have hB : ∀ W, Below w.heap.size w W → Calls Try.prog 9 #[.agg (tabA s q u v)] W fun e w' => e = .returned (.bool false) ∧ Below W.heap.size W w' := fun W h => by have := big_any (s := s) (p := q) (hS.bel h) (hF.bel h); rwa [hb] at this
    have hP := fun W (h : Below w.heap.size w W) => point_any (p := q) (s := s) x r (hS.bel h) (hF.bel h) (by omega) (by omega) (fun h => (isT_iff.1 h).fin)
    cases hpb : pointB s q S F x r
    · refine walk_err tabled_gives r hB fun W h => (hP W h).mono fun e w' ⟨h1, h2⟩ => ⟨?_, h2⟩
      rw [hpb] at h1
      rcases h1 with ⟨_, h1⟩ | ⟨h1, _⟩
      · exact h1
      · cases h1
    · have hpb2 := hpb
      unfold pointB okK at hpb2
      simp only [Bool.and_eq_true, decide_eq_true_eq] at hpb2
      obtain ⟨hI, ⟨h0, h1⟩, ho⟩ := hpb2
      obtain ⟨k, rfl⟩ : ∃ k : Nat, r = (k : Int) := ⟨r.toNat, by omega⟩
      rw [show ((k : Int)).toNat = k from rfl] at hP
      have hlen := (isT_iff.1 hI).fin
      have hf := pt_facts (pointG s x k) (160 - k) k F (by omega)
      have hn160 : k + (160 - k) = 160 := by omega
      have hfl : (ptL (pointG s x k) (160 - k) k F).1.length = 160 := by rw [(pt_all (pointG s x k) (fun _ => True) (160 - k) k F (fun _ _ => trivial) fun _ _ => trivial).2]; exact hlen
      generalize hen : ptEnd (pointG s x k) (160 - k) k = en at *
      have hk : k < en := by
        rcases Nat.lt_or_ge k en with h | h
        · exact h
        · have e : en = k := by have := hf.lo; omega
          have := hf.no (by omega)
          rw [e, pt_first] at this; cases this
      have hyes : ∀ j, (pointG s x k j).2 = true → k < j → halfB s.2 (s.2 + 2 ^ j) x.2 = true := fun j hj hkj => by
        unfold pointG fngR at hj
        cases he : eqP x s
        · rw [he, if_neg (by simp)] at hj
          split at hj
          · rename_i hc
            rcases hc with hc | hc
            · omega
            · exact hc
          · cases hj
        · unfold eqP at he
          rw [Bool.and_eq_true] at he
          exact half_round he.2
      have hval : ∀ j, (pointG s x k j).2 = true → (pointG s x k j).1 = if eqP x s = true then (-1, 0) else x := fun j hj => by
        unfold pointG fngR at hj ⊢
        cases he : eqP x s
        · rw [he] at hj
          simp only [Bool.false_eq_true, if_false] at hj ⊢
          split at hj
          · rename_i hc; rw [if_pos hc]
          · cases hj
        · rfl
      have hno : ∀ j, (pointG s x k j).2 = false → halfB s.2 (s.2 + 2 ^ j) x.2 = false := fun j hj => by
        unfold pointG fngR at hj
        cases he : eqP x s
        · rw [he, if_neg (by simp)] at hj
          split at hj
          · cases hj
          · rename_i hc
            cases hh : halfB s.2 (s.2 + 2 ^ j) x.2
            · rfl
            · exact absurd (.inr hh) hc
        · rw [he, if_pos rfl] at hj; cases hj
      have hPok : ∀ W, Below w.heap.size w W → Calls Try.prog 15 #[.agg (tabA s q u v), .int .i64 (k : Int), .agg (peA x)] W fun e w' => ∃ r1 r2, e = .returned (.tuple #[.agg (tabA s q r1 r2), .int .i64 ((if en = 160 then 0 else en : Nat) : Int), .int .i64 0]) ∧ Lies w' r1 S ∧ Lies w' r2 (ptL (pointG s x k) (160 - k) k F).1 ∧ Below W.heap.size W w' := fun W h => (hP W h).mono fun e w' ⟨h1, h2⟩ => by
        rw [hpb, hf.nx, hn160] at h1
        rcases h1 with ⟨h1, _⟩ | ⟨_, r1, r2, e1, l1, l2, _⟩
        · cases h1
        · exact ⟨r1, r2, e1, l1, l2, h2⟩
      by_cases he : en = 160
      · rw [he] at hf hk
        rw [if_pos he] at hPok
        exact walk_z tabled_gives k (eqP x s) (fun j => halfB s.2 (s.2 + 2 ^ j) x.2) hB hPok (fun j w => half_all _ _ _ w) rfl hS hF (by omega) hlen hfl hk
          (fun j _ h => hf.out j (by omega)) (fun j h2 h3 => hyes j (hf.yes j (by omega) h3) h2) fun j h2 h3 => by rw [hf.inn j h2 h3, hval j (hf.yes j h2 h3)]
      · rw [if_neg he] at hPok
        have := hf.hi
        exact walk_nz tabled_gives k en (eqP x s) (fun j => halfB s.2 (s.2 + 2 ^ j) x.2) hB hPok (fun j w => half_all _ _ _ w) rfl hS hF (by omega) hlen hfl hk (by omega) (by omega)
          (fun j _ h => hf.out j (by omega)) (fun j h2 h3 => hyes j (hf.yes j (by omega) h3) h2) (hno en (hf.no (by omega))) fun j h2 h3 => by rw [hf.inn j h2 h3, hval j (hf.yes j h2 h3)]
  · exact walk_big hS hF r hb

set_option maxRecDepth 100000 in
theorem lifted (os : Os) (started : os.Started) (H : Type) (enc : TypeId × Value → H) :
    ReturnsInHanded {} Try.checked os 8 .any (Rows.tablePointsSpec.pre6 enc Try.prog Try.f8 Rows.tablePointsRow.domain false) (Rows.tablePointsSpec.post enc Try.prog Try.f8 false true false false) := by
  refine returnsInHanded_of_change (C := Try.checked) own started (by kernel_rfl) Try.func8
    (ChangeSpec.witness6 (enc := enc) (C := Try.checked) false ⟨#[], #[.agg #[.int .i64 0, .int .u8 0, .int .u8 0, .int .u8 0, .int .u8 0, .int .u8 0, .int .u8 0, .int .u8 0, .int .u8 0, .int .u8 0, .int .u8 0, .int .u8 0, .int .u8 0, .int .u8 0, .int .u8 0, .int .u8 0, .int .u8 0, .int .u8 0, .int .u8 0, .int .u8 0, .int .u8 0, .int .i64 0, .int .u8 0, .int .u8 0, .int .u8 0, .int .u8 0, .int .u8 0, .int .u8 0, .int .u8 0, .int .u8 0, .int .u8 0, .int .u8 0, .int .u8 0, .int .u8 0, .int .u8 0, .int .u8 0, .int .u8 0, .int .u8 0, .int .u8 0, .int .u8 0, .int .u8 0, .int .u8 0, .slice none 0 0, .slice none 0 0], .int .i64 0, .agg #[.int .i64 0, .int .u8 0, .int .u8 0, .int .u8 0, .int .u8 0, .int .u8 0, .int .u8 0, .int .u8 0, .int .u8 0, .int .u8 0, .int .u8 0, .int .u8 0, .int .u8 0, .int .u8 0, .int .u8 0, .int .u8 0, .int .u8 0, .int .u8 0, .int .u8 0, .int .u8 0, .int .u8 0]], []⟩ 8 (by kernel_rfl) (by kernel_rfl) (by kernel_rfl) (by kernel_rfl)) ?_
  intro W base args ds gs before hval0 hW hcnd _
  have hval : ∀ (j : Nat) t v, Try.f8.params[j]? = some t → args[j]? = some v → Value.okWide Try.prog W .any base t v := hval0
  have hW' := hW
  obtain ⟨p, q, hA0, hV, rfl, hfz, hnd⟩ := hW
  have hA : DataW.TrodAll enc Try.prog W 0 (fun _ => true) true Try.f8.params.toList args.toList ds p := hA0
  rw [Try.params8] at hA hval
  obtain ⟨v0, vs0, d0, ds0, p0, q0, hargs, rfl, rfl, h0, r0⟩ := trodAll_cons hA
  obtain ⟨v1, vs1, d1, ds1, p1, q1, rfl, rfl, rfl, h1, r1⟩ := trodAll_cons r0
  obtain ⟨v2, vs2, d2, ds2, p2, q2, rfl, rfl, rfl, h2, r2⟩ := trodAll_cons r1
  obtain ⟨rfl, rfl, rfl⟩ := trodAll_nil r2
  obtain rfl : args = #[v0, v1, v2] := by cases args; simp_all
  obtain ⟨rfl, rfl⟩ := trodVars_none hV
  have k0 := h0
  have lt0 : ∀ x ∈ p0, x.block < W.heap.size := by obtain ⟨m, hm⟩ := k0; exact DataW.trod_lt m _ _ _ hm
  obtain ⟨s0, q0_, a0, b0, S0, F0, rfl, ls0, lf0, ms0, mq0, ws0, wf0⟩ := open_tab (hval 0 28 v0 rfl rfl) h0
  have k1 := h1
  have lt1 : ∀ x ∈ p1, x.block < W.heap.size := by obtain ⟨m, hm⟩ := k1; exact DataW.trod_lt m _ _ _ hm
  obtain ⟨n1, bd1, rfl⟩ := open_i64 (hval 1 3 v1 rfl rfl) h1
  have k2 := h2
  have lt2 : ∀ x ∈ p2, x.block < W.heap.size := by obtain ⟨m, hm⟩ := k2; exact DataW.trod_lt m _ _ _ hm
  obtain ⟨x2, rfl, mx2⟩ := open_peer (hval 2 25 v2 rfl rfl) h2
  clear hA0 hval0
  refine (walk ls0 lf0 ms0 mq0 ws0 wf0 n1 bd1 x2 mx2).mono fun e W' ⟨he, bel⟩ => ?_
  subst he
  exact ⟨_, rfl, _, _, _, [], _, [], hW', trodAll_mk1 (shut_bool Try.underlying4 _), (trodAll_cons_mk (Below.trod laidOut (by kernel_rfl) (of_decide_eq_true (by kernel_rfl)) k0 bel lt0) (trodAll_cons_mk (Below.trod laidOut (by kernel_rfl) (of_decide_eq_true (by kernel_rfl)) k1 bel lt1) (trodAll_cons_mk (Below.trod laidOut (by kernel_rfl) (of_decide_eq_true (by kernel_rfl)) k2 bel lt2) trodAll_mk0))), rfl, bel.frame _, fun h => by cases h⟩

theorem proved : Rows.TablePointsSaid :=
  OpenClaim.holds_of_wide 8 Try.f8 rfl rfl rfl rfl rfl rfl rfl ⟨rfl, rfl, rfl, rfl, rfl⟩ rfl rfl rfl rfl rfl (by kernel_rfl) Try.func8 (by kernel_rfl)
    (of_decide_eq_true (by kernel_rfl)) (by unfold Func.isWrapper; first | (rw [if_pos (by decide +kernel)]; kernel_rfl) | (rw [if_neg (by decide +kernel)]; exact ⟨rfl, rfl⟩))
    (fun os started H enc _ => lifted os started H enc)
end Go.Proofs.Ytkcljbolopephaa.PointLaw
