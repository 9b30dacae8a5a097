/- TableMakes: for any table, peers and two numbers the call returns true: a peer has just this new table, or none; peers are adopted, learned, and pointed to just so, or refused; the table stays. No condition. -/
import Derived.Test.YtkcljbolopephaaTabMakeWalk
import Derived.Test.YtkcljbolopephaaTabRefs
import Derived.Test.YtkcljbolopephaaTabTabled
import Derived.Test.YtkcljbolopephaaTabOpen
namespace Go.Proofs.Ytkcljbolopephaa.MakeLaw
set_option maxRecDepth 100000
open Go Go.ChangeShapes Go.WideShapes Go.ChangeAt Go.RowKit Go.Sort

/-- what a New, an Adopt and a Point answer, as a table with its rows and numbers -/
theorem tabled_gives : Gives Try.prog 17 #[] (.bool true) := fun w => tabled_any w
theorem big_no {S F : List Pe} (h : bigB S F = false) : S.length ≤ 40 ∧ F.length ≤ 200 := by
  unfold bigB at h
  rw [Bool.or_eq_false_iff, decide_eq_false_iff_not, decide_eq_false_iff_not] at h
  omega
theorem new_ans {f : FuncId} {args : Array Value} {W : World} {x : Pe} (h : Calls Try.prog f args W fun e w' => NewP x (addrB x.1) e w' ∧ Below W.heap.size W w') :
    AnsT f args W (if addrB x.1 = true then x else (0, 0)) (if addrB x.1 = true then (-1, 0) else (0, 0)) [] (if addrB x.1 = true then rep 160 (-1, 0) else []) [.int .i64 (if addrB x.1 = true then 0 else 1)] := h.mono fun e w' ⟨h1, h2⟩ => by
  rcases h1 with ⟨h1, h3⟩ | ⟨h1, r2, h3, h4⟩
  · rw [h1]
    exact ⟨nilS, nilS, h3, lies_nil _, lies_nil _, h2⟩
  · rw [h1]
    exact ⟨nilS, r2, h3, lies_nil _, h4, h2⟩
theorem adopt_ans {f : FuncId} {args : Array Value} {W : World} {s p : Pe} {L K : List Pe} {ok : Bool} (h : Calls Try.prog f args W fun e w' => AdoptP W s p L K ok e w' ∧ Below W.heap.size W w') :
    AnsT f args W (if ok = true then s else (0, 0)) (if ok = true then p else (0, 0)) (if ok = true then K else []) (if ok = true then L else []) [.int .i64 (if ok = true then 0 else 1)] := h.mono fun e w' ⟨h1, h2⟩ => by
  rcases h1 with ⟨h1, h3⟩ | ⟨h1, t, h3, r1, r2, h4, o1, o2, _⟩
  · rw [h1]
    exact ⟨nilS, nilS, h3, lies_nil _, lies_nil _, h2⟩
  · rw [h1]
    exact ⟨r1, r2, by rw [h3, h4]; rfl, own_lies o1, own_lies o2, h2⟩
theorem point_ans {f : FuncId} {args : Array Value} {W : World} {s p : Pe} {S K : List Pe} {nx : Nat} {ok : Bool} (h : Calls Try.prog f args W fun e w' => PointP W.heap.size s p S K nx ok e w' ∧ Below W.heap.size W w') :
    AnsT f args W (if ok = true then s else (0, 0)) (if ok = true then p else (0, 0)) (if ok = true then S else []) (if ok = true then K else []) [.int .i64 (if ok = true then (nx : Int) else 0), .int .i64 (if ok = true then 0 else 1)] := h.mono fun e w' ⟨h1, h2⟩ => by
  rcases h1 with ⟨h1, h3⟩ | ⟨h1, r1, r2, h3, l1, l2, _⟩
  · rw [h1]
    exact ⟨nilS, nilS, h3, lies_nil _, lies_nil _, h2⟩
  · rw [h1]
    exact ⟨r1, r2, h3, l1, l2, h2⟩
theorem if_len {ok : Bool} {L : List Pe} {n : Nat} (h : L.length ≤ n) : (if ok = true then L else []).length ≤ n := by
  split
  · exact h
  · exact Nat.zero_le _
theorem ad_len2 (oth : Pe → Bool) (r : Nat) : ∀ (R acc : List Pe), (adG oth r acc R).length ≤ acc.length + R.length
  | [], acc => Nat.le_refl _
  | x :: R, acc => by
    rw [adG]
    split
    · omega
    · refine Nat.le_trans (ad_len2 oth r R _) ?_
      split
      · rw [List.length_cons]; omega
      · rw [List.length_append, List.length_singleton, List.length_cons]; omega
theorem walk {w : World} {s q : Pe} {u v : Value} {S F : List Pe} (hS : Lies w u S) (hF : Lies w v F) (_ : s.2 < M) (_ : q.2 < M) (_ : Wf S) (_ : Wf F) (x : Pe) (_ : x.2 < M) {z : Value} {R : List Pe} (hR : Lies w z R) (_ : Wf R)
    (r : Int) (_ : -9223372036854775808 ≤ r ∧ r ≤ 9223372036854775807) (k : Int) (_ : -9223372036854775808 ≤ k ∧ k ≤ 9223372036854775807) :
    Calls Try.prog 3 #[.agg (tabA s q u v), .agg (peA x), z, .int .i64 r, .int .i64 k] w fun e w' => e = .returned (.bool true) ∧ Below w.heap.size w w' := by
  obtain ⟨za, zc, rfl⟩ := hR.form
  cases hb : bigB S F
  · by_cases hlr : 40 < R.length
    · exact walk_out za R.length zc r k hS hF (.inr ⟨hb, hlr⟩)
    · have hl := big_no hb
      have h160 : isT s q S F = true → F.length = 160 := fun h => (isT_iff.1 h).fin
      have hpl : (ptL (pointG s x k.toNat) (160 - k.toNat) k.toNat F).1.length = F.length := (pt_all (pointG s x k.toNat) (fun _ => True) _ _ F (fun _ _ => trivial) fun _ _ => trivial).2
      exact walk_core tabled_gives za R.length zc r k _ _ _ _ (by omega) hS hF
        (fun W h => by have := big_any (s := s) (p := q) (hS.bel h) (hF.bel h); rwa [hb] at this)
        (fun W h => (refown_any (hS.bel h) (hF.bel h) (by omega) (by omega)).mono fun _ _ ⟨r1, r2, he, o1, o2, _, hbl⟩ => ⟨r1, r2, he, own_lies o1, own_lies o2, hbl⟩)
        (fun W => new_ans (new_any x)) (fun W => new_ans (refnew_any x))
        (fun W h => adopt_ans (adopt_any x r (hS.bel h) (hF.bel h) (hR.bel h) (by omega) (by omega) (by omega))) (fun W r1 r2 h h1 h2 => adopt_ans (refadopt_any x r h1 h2 (hR.bel h) (by omega) (by omega) (by omega)))
        (fun W h => point_ans (point_any x k (hS.bel h) (hF.bel h) (by omega) (by omega) h160)) (fun W r1 r2 h1 h2 => point_ans (refpoint_any x k h1 h2 (by omega) (by omega) h160))
        (fun W h => (learn_any x (hS.bel h) (hF.bel h) (by omega) (by omega)).mono fun _ _ ⟨t, he, ⟨r1, r2, ht, o1, o2, _⟩, hbl⟩ => ⟨r1, r2, by rw [he, ht], own_lies o1, own_lies o2, hbl⟩)
        (fun W r1 r2 h1 h2 => (reflearn_any x h1 h2 (by omega) (by omega)).mono fun _ _ ⟨t, he, ⟨r1, r2, ht, o1, o2, _⟩, hbl⟩ => ⟨r1, r2, by rw [he, ht], own_lies o1, own_lies o2, hbl⟩)
        (by omega) (by omega) (by simp) (if_len (by unfold rep; rw [List.length_replicate]; omega)) (if_len (Nat.le_trans (ad_len2 _ _ R [x]) (by rw [List.length_singleton]; omega))) (if_len (by omega)) (if_len (by omega)) (if_len (by rw [hpl]; omega))
  · exact walk_out za R.length zc r k hS hF (.inl hb)

set_option maxRecDepth 100000 in
theorem lifted (os : Os) (started : os.Started) (H : Type) (enc : TypeId × Value → H) :
    ReturnsInHanded {} Try.checked os 3 .any (Rows.tableMakesSpec.pre6 enc Try.prog Try.f3 Rows.tableMakesRow.domain false) (Rows.tableMakesSpec.post enc Try.prog Try.f3 false true false false) := by
  refine returnsInHanded_of_change (C := Try.checked) own started (by kernel_rfl) Try.func3
    (ChangeSpec.witness6 (enc := enc) (C := Try.checked) false ⟨#[], #[.agg #[.int .i64 0, .int .u8 0, .int .u8 0, .int .u8 0, .int .u8 0, .int .u8 0, .int .u8 0, .int .u8 0, .int .u8 0, .int .u8 0, .int .u8 0, .int .u8 0, .int .u8 0, .int .u8 0, .int .u8 0, .int .u8 0, .int .u8 0, .int .u8 0, .int .u8 0, .int .u8 0, .int .u8 0, .int .i64 0, .int .u8 0, .int .u8 0, .int .u8 0, .int .u8 0, .int .u8 0, .int .u8 0, .int .u8 0, .int .u8 0, .int .u8 0, .int .u8 0, .int .u8 0, .int .u8 0, .int .u8 0, .int .u8 0, .int .u8 0, .int .u8 0, .int .u8 0, .int .u8 0, .int .u8 0, .int .u8 0, .slice none 0 0, .slice none 0 0], .agg #[.int .i64 0, .int .u8 0, .int .u8 0, .int .u8 0, .int .u8 0, .int .u8 0, .int .u8 0, .int .u8 0, .int .u8 0, .int .u8 0, .int .u8 0, .int .u8 0, .int .u8 0, .int .u8 0, .int .u8 0, .int .u8 0, .int .u8 0, .int .u8 0, .int .u8 0, .int .u8 0, .int .u8 0], .slice none 0 0, .int .i64 0, .int .i64 0], []⟩ 8 (by kernel_rfl) (by kernel_rfl) (by kernel_rfl) (by kernel_rfl)) ?_
  intro W base args ds gs before hval0 hW hcnd _
  have hval : ∀ (j : Nat) t v, Try.f3.params[j]? = some t → args[j]? = some v → Value.okWide Try.prog W .any base t v := hval0
  have hW' := hW
  obtain ⟨p, q, hA0, hV, rfl, hfz, hnd⟩ := hW
  have hA : DataW.TrodAll enc Try.prog W 0 (fun _ => true) true Try.f3.params.toList args.toList ds p := hA0
  rw [Try.params3] at hA hval
  obtain ⟨v0, vs0, d0, ds0, p0, q0, hargs, rfl, rfl, h0, r0⟩ := trodAll_cons hA
  obtain ⟨v1, vs1, d1, ds1, p1, q1, rfl, rfl, rfl, h1, r1⟩ := trodAll_cons r0
  obtain ⟨v2, vs2, d2, ds2, p2, q2, rfl, rfl, rfl, h2, r2⟩ := trodAll_cons r1
  obtain ⟨v3, vs3, d3, ds3, p3, q3, rfl, rfl, rfl, h3, r3⟩ := trodAll_cons r2
  obtain ⟨v4, vs4, d4, ds4, p4, q4, rfl, rfl, rfl, h4, r4⟩ := trodAll_cons r3
  obtain ⟨rfl, rfl, rfl⟩ := trodAll_nil r4
  obtain rfl : args = #[v0, v1, v2, v3, v4] := by cases args; simp_all
  obtain ⟨rfl, rfl⟩ := trodVars_none hV
  have k0 := h0
  have lt0 : ∀ x ∈ p0, x.block < W.heap.size := by obtain ⟨m, hm⟩ := k0; exact DataW.trod_lt m _ _ _ hm
  obtain ⟨s0, q0_, a0, b0, S0, F0, rfl, ls0, lf0, ms0, mq0, ws0, wf0⟩ := open_tab (hval 0 28 v0 rfl rfl) h0
  have k1 := h1
  have lt1 : ∀ x ∈ p1, x.block < W.heap.size := by obtain ⟨m, hm⟩ := k1; exact DataW.trod_lt m _ _ _ hm
  obtain ⟨x1, rfl, mx1⟩ := open_peer (hval 1 25 v1 rfl rfl) h1
  have k2 := h2
  have lt2 : ∀ x ∈ p2, x.block < W.heap.size := by obtain ⟨m, hm⟩ := k2; exact DataW.trod_lt m _ _ _ hm
  obtain ⟨L2, ls2, wf2⟩ := open_peers (hval 2 26 v2 rfl rfl) h2
  have k3 := h3
  have lt3 : ∀ x ∈ p3, x.block < W.heap.size := by obtain ⟨m, hm⟩ := k3; exact DataW.trod_lt m _ _ _ hm
  obtain ⟨n3, bd3, rfl⟩ := open_i64 (hval 3 3 v3 rfl rfl) h3
  have k4 := h4
  have lt4 : ∀ x ∈ p4, x.block < W.heap.size := by obtain ⟨m, hm⟩ := k4; exact DataW.trod_lt m _ _ _ hm
  obtain ⟨n4, bd4, rfl⟩ := open_i64 (hval 4 3 v4 rfl rfl) h4
  clear hA0 hval0
  refine (walk ls0 lf0 ms0 mq0 ws0 wf0 x1 mx1 ls2 wf2 n3 bd3 n4 bd4).mono fun e W' ⟨he, bel⟩ => ?_
  subst he
  exact ⟨_, rfl, _, _, _, [], _, [], hW', trodAll_mk1 (shut_bool Try.underlying4 _), (trodAll_cons_mk (Below.trod laidOut (by kernel_rfl) (of_decide_eq_true (by kernel_rfl)) k0 bel lt0) (trodAll_cons_mk (Below.trod laidOut (by kernel_rfl) (of_decide_eq_true (by kernel_rfl)) k1 bel lt1) (trodAll_cons_mk (Below.trod laidOut (by kernel_rfl) (of_decide_eq_true (by kernel_rfl)) k2 bel lt2) (trodAll_cons_mk (Below.trod laidOut (by kernel_rfl) (of_decide_eq_true (by kernel_rfl)) k3 bel lt3) (trodAll_cons_mk (Below.trod laidOut (by kernel_rfl) (of_decide_eq_true (by kernel_rfl)) k4 bel lt4) trodAll_mk0))))), rfl, bel.frame _, fun h => by cases h⟩

theorem proved : Rows.TableMakesSaid :=
  OpenClaim.holds_of_wide 3 Try.f3 rfl rfl rfl rfl rfl rfl rfl ⟨rfl, rfl, rfl, rfl, rfl⟩ rfl rfl rfl rfl rfl (by kernel_rfl) Try.func3 (by kernel_rfl)
    (of_decide_eq_true (by kernel_rfl)) (by unfold Func.isWrapper; first | (rw [if_pos (by decide +kernel)]; kernel_rfl) | (rw [if_neg (by decide +kernel)]; exact ⟨rfl, rfl⟩))
    (fun os started H enc _ => lifted os started H enc)
end Go.Proofs.Ytkcljbolopephaa.MakeLaw
