/- RecordBytes: for every record and every text the call returns true: a record is right, or not, and has just these bytes; bytes are just this record, or none. No condition. -/
import Derived.Test.YtkicndengkcojaaRecRec
import Derived.Test.YtkicndengkcojaaRecOpen
import Derived.Test.YtkicndengkcojaaRecRGet4
import Derived.Test.YtkicndengkcojaaRecRefPut
namespace Go.Proofs.Ytkicndengkcojaa.RecBytesLaw
set_option maxRecDepth 100000
open Go Go.ChangeShapes Go.WideShapes Go.ChangeAt Go.RowKit Go.Sort
open Go.ChangeMaps (open_string shut_string)

theorem getV_len (s : ByteArray) : (getV s).items.length ≤ 1000000 := by
  unfold getV
  cases h : getR (bytesN s) with
  | ok y =>
    obtain ⟨_, h2, _⟩ := getR_only (bytesN_lt s) h
    show y.items.length ≤ 1000000
    have := h2.len
    omega
  | error e => show zeroR.items.length ≤ 1000000; decide

/-- nothing is asked -/
theorem let_go {r : Rc} {u : Value} {w : World} (s : ByteArray) (hT : Told w u r.items) (h : bigB r = true ∨ (bigB r = false ∧ 5000 < s.size)) :
    Calls Try.prog 3 #[.agg (recC r u), .string s] w fun e w' => e = .returned (.bool true) ∧ Below w.heap.size w w' := by
  obtain ⟨A0, B0⟩ := rec_box w r u
  have HB := big_any (hT.bel B0)
  rcases h with h | ⟨h, h'⟩
  · rw [h] at HB
    clear h
    go_enter Try.func3, Try.ntmps3
    go_upto_region 1 with (fail)
    generalize w.alloc _ = W at *
    go_wp2_with (first
      | (refine p_loadR rfl _ rfl w.heap.size rfl r u A0 ?_)
      | (go_at_call 9; (with_reducible refine HB.mono ?_); rintro e w1 ⟨rfl, hb1⟩))
    go_ret
    exact ⟨rfl, rstep B0 hb1⟩
  · rw [h] at HB
    have hc : (5000 : Int) < (s.size : Int) := by omega
    clear h h'
    go_enter Try.func3, Try.ntmps3
    go_upto_region 1 with (fail)
    generalize w.alloc _ = W at *
    go_wp2_with (first
      | (refine p_loadR rfl _ rfl w.heap.size rfl r u A0 ?_)
      | (go_at_call 9; (with_reducible refine HB.mono ?_); rintro e w1 ⟨rfl, hb1⟩))
    go_ret
    exact ⟨rfl, rstep B0 hb1⟩

set_option maxHeartbeats 2000000 in
theorem core {r : Rc} {u : Value} {w : World} (s : ByteArray) (hT : Told w u r.items) (hW : r.Wf) (hb : bigB r = false) (h5 : s.size ≤ 5000) :
    Calls Try.prog 3 #[.agg (recC r u), .string s] w fun e w' => e = .returned (.bool true) ∧ Below w.heap.size w w' := by
  obtain ⟨A0, B0⟩ := rec_box w r u
  have T0 := hT.bel B0
  have hl : r.items.length ≤ 1000000 := by have := big_no hb; omega
  have hc : ¬ (5000 : Int) < (s.size : Int) := by omega
  have HB := big_any T0
  rw [hb] at HB
  have HP : ∀ W, Told W u r.items → Calls Try.prog 10 #[.agg (recC r u)] W fun e w' => e = .returned (.tuple #[.string (txt (putV r)), .int .i64 (putE r : Int)]) ∧ Below W.heap.size W w' := fun W hT => recput_any hT hW hl
  have HQ : ∀ W, Told W u r.items → Calls Try.prog 11 #[.agg (recC r u)] W fun e w' => e = .returned (.tuple #[.string (txt (putV r)), .int .i64 (putE r : Int)]) ∧ Below W.heap.size W w' := fun W hT => refput_rec hT hW
  have HG1 : ∀ W, Calls Try.prog 12 #[.string s] W (TellsR W (getV s) (getE s)) := fun W => get_any s W (by omega)
  have HG2 : ∀ W, Calls Try.prog 13 #[.string s] W (TellsR W (getV s) (getE s)) := fun W => refgetrec_any s W (by omega)
  have HI : ∀ W, Told W u r.items → Calls Try.prog 15 #[.agg (recC r u)] W fun e w' => e = .returned (.bool (isR r)) ∧ Below W.heap.size W w' := fun W hT => is_any hT hW hl
  have HJ : ∀ W, Told W u r.items → Calls Try.prog 16 #[.agg (recC r u)] W fun e w' => e = .returned (.bool (isR r)) ∧ Below W.heap.size W w' := fun W hT => refis_any hT hW
  have HV := getV_len s
  generalize getV s = V at *
  generalize getE s = ge at *
  generalize txt (putV r) = P at *
  generalize putE r = pe at *
  generalize isR r = rb at *
  have HR : Gives Try.prog 14 #[] (.bool true) := recorded_any
  clear hT hb h5 hW hl
  go_enter Try.func3, Try.ntmps3
  go_upto_region 1 with (fail)
  generalize w.alloc _ = W at *
  go_upto_region 3 with (first
    | (refine p_loadR rfl _ rfl w.heap.size rfl r u A0 ?_)
    | (go_at_call 9; (with_reducible refine HB.mono ?_); rintro e w1 ⟨rfl, hb1⟩))
  replace A0 := A0.below hb1 A0.lt
  replace T0 := T0.bel hb1
  replace B0 := rstep B0 hb1
  clear hb1 HB
  go_upto_region 4 with (first
    | (refine p_loadR rfl _ rfl w.heap.size rfl r u A0 ?_)
    | (go_at_call 10; (with_reducible refine (HP _ T0).mono ?_); rintro e w3 ⟨rfl, hb1⟩))
  replace A0 := A0.below hb1 A0.lt
  replace T0 := T0.bel hb1
  replace B0 := rstep B0 hb1
  clear hb1 HP
  go_upto_region 5 with (first
    | (refine p_loadR rfl _ rfl w.heap.size rfl r u A0 ?_)
    | (go_at_call 11; (with_reducible refine (HQ _ T0).mono ?_); rintro e w4 ⟨rfl, hb1⟩))
  replace A0 := A0.below hb1 A0.lt
  replace T0 := T0.bel hb1
  replace B0 := rstep B0 hb1
  clear hb1 HQ
  go_upto_region 6 with (first
    | (go_at_call 12; (with_reducible refine (HG1 _).mono ?_); rintro e w5 ⟨u5, rfl, t5, hb1⟩)
    | (refine p_storeR rfl _ _ rfl w5.heap.size rfl V u5 rfl (told_one t5) zeroR (.slice none 0 0) (Blk.new _ _ _) ?_))
  obtain ⟨A5, T5, b5⟩ := rec_new t5
  replace b5 := rstep hb1 b5
  replace A0 := A0.below b5 A0.lt
  replace T0 := T0.bel b5
  replace B0 := rstep B0 b5
  clear hb1 t5 b5 HG1
  generalize w5.heap.size = g5 at *
  generalize (w5.alloc _).setRow _ _ = W5 at *
  go_upto_region 7 with (first
    | (go_at_call 13; (with_reducible refine (HG2 _).mono ?_); rintro e w6 ⟨u6, rfl, t6, hb1⟩)
    | (refine p_storeR rfl _ _ rfl w6.heap.size rfl V u6 rfl (told_one t6) zeroR (.slice none 0 0) (Blk.new _ _ _) ?_))
  obtain ⟨A6, T6, b6⟩ := rec_new t6
  replace b6 := rstep hb1 b6
  replace A0 := A0.below b6 A0.lt
  replace A5 := A5.below b6 A5.lt
  replace T0 := T0.bel b6
  replace T5 := T5.bel b6
  replace B0 := rstep B0 b6
  clear hb1 t6 b6 HG2
  generalize w6.heap.size = g6 at *
  generalize (w6.alloc _).setRow _ _ = W7 at *
  have HS : ∀ (d : Nat) (os : Array Obj), Calls Try.prog 17 #[.agg (recC V u5), .agg (recC V u6)] (grow (redrawn W7 d) os) fun e w'' => e = .returned (.bool true) ∧ ∃ p : Regrown, w'' = grow (redrawn W7 p.d) p.os := fun d os => by
    have h := same_rec (told_grown T5 d os) (told_grown T6 d os) HV
    rw [sameR_self] at h
    exact Calls.regrown_of h
  have HI2 : ∀ (d : Nat) (os : Array Obj), Calls Try.prog 15 #[.agg (recC r u)] (grow (redrawn W7 d) os) fun e w'' => e = .returned (.bool rb) ∧ ∃ p : Regrown, w'' = grow (redrawn W7 p.d) p.os := fun d os => Calls.regrown_of (HI _ (told_grown T0 d os))
  have HJ2 : ∀ (d : Nat) (os : Array Obj), Calls Try.prog 16 #[.agg (recC r u)] (grow (redrawn W7 d) os) fun e w'' => e = .returned (.bool rb) ∧ ∃ p : Regrown, w'' = grow (redrawn W7 p.d) p.os := fun d os => Calls.regrown_of (HJ _ (told_grown T0 d os))
  have q1 : (rb == rb) = true := by simp
  have q2 : (P.toList == P.toList) = true := by simp
  have q3 : ((pe : Int) == (pe : Int)) = true := by simp
  have q4 : ((ge : Int) == (ge : Int)) = true := by simp
  clear HI HJ HV
  refine wp_region_quiet_below (by kernel_rfl) (by kernel_rfl) ?_
  repeat (first
    | go_big_quiet_skip
    | (go_big_quiet_want
       first
       | (first
          | refine q_loadR _ rfl w.heap.size rfl r u A0 ?_
          | refine q_loadR _ rfl g5 rfl V u5 A5 ?_
          | refine q_loadR _ rfl g6 rfl V u6 A6 ?_
          simp only [Act.put, List.setIfInBounds_toArray, List.set_cons_succ, List.set_cons_zero]
          go_big_quiet_on)
       | (go_big_quiet_op
          first | go_big_quiet_on | go_big_quiet_call (first | with_reducible exact HR.grown _ _ | with_reducible exact HS _ _ | with_reducible exact HI2 _ _ | with_reducible exact HJ2 _ _))))
  refine wpQuiet_nil ?_
  intro _ hw'
  obtain ⟨⟨dq, osq⟩, hw''⟩ := hw'
  subst hw''
  replace B0 := rstep B0 (below_regrown _ dq osq)
  go_wp2
  go_ret
  exact ⟨rfl, B0⟩
theorem walk {r : Rc} {u : Value} {w : World} (hT : Told w u r.items) (hW : r.Wf) (s : ByteArray) (_ : s.size ≤ maxLen) :
    Calls Try.prog 3 #[.agg (recC r u), .string s] w fun e w' => e = .returned (.bool true) ∧ Below w.heap.size w w' := by
  cases hb : bigB r
  · by_cases h5 : s.size ≤ 5000
    · exact core s hT hW hb h5
    · exact let_go s hT (.inr ⟨hb, by omega⟩)
  · exact let_go s hT (.inl hb)
set_option maxRecDepth 100000 in
theorem lifted (os : Os) (started : os.Started) (H : Type) (enc : TypeId × Value → H) :
    ReturnsInHanded {} Try.checked os 3 .any (Rows.recordBytesSpec.pre6 enc Try.prog Try.f3 Rows.recordBytesRow.domain false) (Rows.recordBytesSpec.post enc Try.prog Try.f3 false true false false) := by
  refine returnsInHanded_of_change (C := Try.checked) own started (by kernel_rfl) Try.func3
    (ChangeSpec.witness6 (enc := enc) (C := Try.checked) false ⟨#[], #[.agg #[.int .i64 0, .slice none 0 0, .int .i64 0, .int .u64 0, .int .u64 0], .string ⟨#[]⟩], []⟩ 8 (by kernel_rfl) (by kernel_rfl) (by kernel_rfl) (by kernel_rfl)) ?_
  intro W base args ds gs before hval0 hW hcnd _
  have hval : ∀ (j : Nat) t v, Try.f3.params[j]? = some t → args[j]? = some v → Value.okWide Try.prog W .any base t v := hval0
  have hW' := hW
  obtain ⟨p, q, hA0, hV, rfl, hfz, hnd⟩ := hW
  have hA : DataW.TrodAll enc Try.prog W 0 (fun _ => true) true Try.f3.params.toList args.toList ds p := hA0
  rw [Try.params3] at hA hval
  obtain ⟨v0, vs0, d0, ds0, p0, q0, hargs, rfl, rfl, h0, r0⟩ := trodAll_cons hA
  obtain ⟨v1, vs1, d1, ds1, p1, q1, rfl, rfl, rfl, h1, r1⟩ := trodAll_cons r0
  obtain ⟨rfl, rfl, rfl⟩ := trodAll_nil r1
  obtain rfl : args = #[v0, v1] := by cases args; simp_all
  obtain ⟨rfl, rfl⟩ := trodVars_none hV
  have k0 := h0
  have lt0 : ∀ x ∈ p0, x.block < W.heap.size := by obtain ⟨m, hm⟩ := k0; exact DataW.trod_lt m _ _ _ hm
  obtain ⟨R0, u0, wf0, rfl, tl0⟩ := open_rec (hval 0 27 v0 rfl rfl) h0
  have k1 := h1
  have lt1 : ∀ x ∈ p1, x.block < W.heap.size := by obtain ⟨m, hm⟩ := k1; exact DataW.trod_lt m _ _ _ hm
  obtain ⟨n1, rfl, _, _, ws1⟩ := open_string Try.underlying9 (hval 1 9 v1 rfl rfl) h1
  clear hA0 hval0
  refine (walk tl0 wf0 n1 ws1).mono fun e W' ⟨he, bel⟩ => ?_
  subst he
  exact ⟨_, rfl, _, _, _, [], _, [], hW', trodAll_mk1 (shut_bool Try.underlying4 _), (trodAll_cons_mk (Below.trod laidOut (by kernel_rfl) (of_decide_eq_true (by kernel_rfl)) k0 bel lt0) (trodAll_cons_mk (Below.trod laidOut (by kernel_rfl) (of_decide_eq_true (by kernel_rfl)) k1 bel lt1) trodAll_mk0)), rfl, bel.frame _, fun h => by cases h⟩

theorem proved : Rows.RecordBytesSaid :=
  OpenClaim.holds_of_wide 3 Try.f3 rfl rfl rfl rfl rfl rfl rfl ⟨rfl, rfl, rfl, rfl, rfl⟩ rfl rfl rfl rfl rfl (by kernel_rfl) Try.func3 (by kernel_rfl)
    (of_decide_eq_true (by kernel_rfl)) (by unfold Func.isWrapper; first | (rw [if_pos (by decide +kernel)]; kernel_rfl) | (rw [if_neg (by decide +kernel)]; exact ⟨rfl, rfl⟩))
    (fun os started H enc _ => lifted os started H enc)
end Go.Proofs.Ytkicndengkcojaa.RecBytesLaw
