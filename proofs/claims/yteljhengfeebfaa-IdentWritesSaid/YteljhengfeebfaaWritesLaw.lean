/- IdentWrites: for every place and text the call returns true: a place is written just as the document's program writes it, and a text is just that place, or none. No condition. -/
import Derived.Test.YteljhengfeebfaaQ
namespace Go.Proofs.Yteljhengfeebfaa.WritesLaw
open Go.ChangeShapes Go.WideShapes Go.ChangeAt Go.RowKit Go.Sort
open Go.ChangeMaps (open_string shut_string)
set_option linter.unusedVariables false


theorem long (a : Nat) (s : ByteArray) (w : World) (h : 200 < s.size) (hs : s.size ≤ 9223372036854775807) : Calls Try.prog 4 #[idv a, .string s] w fun e w' => e = .returned (.bool true) ∧ Below w.heap.size w w' := by
  rw [show idv a = .agg (row (dig 20 a)) from rfl]
  go_enter Try.func4, Try.ntmps4
  go_wp2
  go_ret
  exact ⟨rfl, (Below.refl _ _).alloc (Nat.le_refl _) _⟩

set_option maxHeartbeats 2000000 in
theorem short (a n : Nat) (s : ByteArray) (w : World) (h : s.size ≤ 200) (code : Int)
    (c22 : ∀ w : World, Calls Try.prog 22 #[.string s] w fun e w' => e = .returned (.tuple #[idv n, .int .i64 code]) ∧ Below w.heap.size w w')
    (c23 : ∀ w : World, Calls Try.prog 23 #[.string s] w fun e w' => e = .returned (.tuple #[idv n, .int .i64 code]) ∧ Below w.heap.size w w') :
    Calls Try.prog 4 #[idv a, .string s] w fun e w' => e = .returned (.bool true) ∧ Below w.heap.size w w' := by
  have P22 := Lib.hid c22
  have P23 := Lib.hid c23
  clear c22 c23
  have t24 := text_all a
  have t25 := refText_all a
  generalize textB a = T at *
  have T24 := Lib.hid t24
  have T25 := Lib.hid t25
  clear t24 t25
  rw [show idv a = .agg (row (dig 20 a)) from rfl]
  go_enter Try.func4, Try.ntmps4
  go_upto_region 3 with (fail)
  have A1 : At (w.alloc (.cells (row (dig 20 a)) 23)) w.heap.size a := At.new w a
  have B1 : Below w.heap.size w (w.alloc (.cells (row (dig 20 a)) 23)) := (Below.refl _ _).alloc (Nat.le_refl _) _
  generalize w.alloc (.cells (row (dig 20 a)) 23) = W1 at *
  go_upto_region 4 with (first | (go_at_call 22; with_reducible refine (P22.out _).mono ?_; rintro e w3 ⟨rfl, hb⟩) | (refine wpList_store_new rfl rfl _ _ rfl _ rfl rfl ?_))
  have B3 := B1.trans ((hb.mono B1.size).trans ((Below.refl w.heap.size w3).alloc (Nat.le_trans B1.size hb.size) (.cells (row (dig 20 n)) 23)))
  replace A1 := (A1.below hb).alloc (.cells (row (dig 20 n)) 23)
  have A2 := At.new w3 n
  clear hb B1
  generalize w3.heap.size = g3 at *
  generalize w3.alloc _ = W3 at *
  go_upto_region 5 with (first | (go_at_call 23; with_reducible refine (P23.out _).mono ?_; rintro e w4 ⟨rfl, hb⟩) | (refine wpList_store_new rfl rfl _ _ rfl _ rfl rfl ?_))
  have B4 := B3.trans ((hb.mono B3.size).trans ((Below.refl w.heap.size w4).alloc (Nat.le_trans B3.size hb.size) (.cells (row (dig 20 n)) 23)))
  replace A1 := (A1.below hb).alloc (.cells (row (dig 20 n)) 23)
  replace A2 := (A2.below hb).alloc (.cells (row (dig 20 n)) 23)
  have A3 := At.new w4 n
  clear hb B3
  generalize w4.heap.size = g4 at *
  generalize w4.alloc _ = W4 at *
  have C11 := Lib.hid (fun (d : Nat) (os : Array Obj) => Calls.regrown_of (placed_all (grow (redrawn W4 d) os)))
  have C24 := Lib.hid (fun (d : Nat) (os : Array Obj) => Calls.regrown_of (T24.out (grow (redrawn W4 d) os)))
  have C25 := Lib.hid (fun (d : Nat) (os : Array Obj) => Calls.regrown_of (T25.out (grow (redrawn W4 d) os)))
  refine wp_region_quiet_below (by kernel_rfl) (by kernel_rfl) ?_
  repeat (first
    | go_big_quiet_skip
    | (go_big_quiet_want
       first
       | (first | (refine q_at _ rfl _ _ rfl (by first | with_reducible exact A1 | with_reducible exact A2 | with_reducible exact A3) ?_) | refine q_eql _ _ rfl _ _ rfl rfl (eqB_self _) ?_
          simp only [Act.put, List.setIfInBounds_toArray, List.set_cons_succ, List.set_cons_zero]
          go_big_quiet_on)
       | (go_big_quiet_op
          first | go_big_quiet_on | go_big_quiet_call (first | with_reducible exact C11.out _ _ | with_reducible exact C24.out _ _ | with_reducible exact C25.out _ _))))
  refine wpQuiet_nil ?_
  intro _ hw'
  obtain ⟨⟨dq, osq⟩, hw''⟩ := hw'
  subst hw''
  have HB : Hid (Below w.heap.size w (grow (redrawn W4 dq) osq)) := B4.trans ((below_regrown W4 dq osq).mono B4.size)
  go_wp2
  go_ret
  exact ⟨rfl, HB.out⟩

theorem walk (a : Nat) (s : ByteArray) (w : World) (hs : s.size ≤ 9223372036854775807) : Calls Try.prog 4 #[idv a, .string s] w fun e w' => e = .returned (.bool true) ∧ Below w.heap.size w w' := by
  rcases Nat.lt_or_ge 200 s.size with h | h
  · exact long a s w h hs
  · rcases parsed_cases s with ⟨_, n, hp⟩ | hp
    · exact short a n s w h 0 (fun w => hp ▸ parse_all s w) (fun w => hp ▸ refParse_all s w)
    · exact short a 0 s w h 3 (fun w => hp ▸ parse_all s w) (fun w => hp ▸ refParse_all s w)

set_option maxRecDepth 100000 in
theorem lifted (os : Os) (started : os.Started) (H : Type) (enc : TypeId × Value → H) :
    ReturnsInHanded {} Try.checked os 4 .any (Rows.identWritesSpec.pre6 enc Try.prog Try.f4 Rows.identWritesRow.domain false) (Rows.identWritesSpec.post enc Try.prog Try.f4 false true false false) := by
  refine returnsInHanded_of_change (C := Try.checked) own started (by kernel_rfl) Try.func4
    (ChangeSpec.witness6 (enc := enc) (C := Try.checked) false ⟨#[], #[.agg #[.int .u8 0, .int .u8 0, .int .u8 0, .int .u8 0, .int .u8 0, .int .u8 0, .int .u8 0, .int .u8 0, .int .u8 0, .int .u8 0, .int .u8 0, .int .u8 0, .int .u8 0, .int .u8 0, .int .u8 0, .int .u8 0, .int .u8 0, .int .u8 0, .int .u8 0, .int .u8 0], .string ⟨#[]⟩], []⟩ 8 (by kernel_rfl) (by kernel_rfl) (by kernel_rfl) (by kernel_rfl)) ?_
  intro W base args ds gs before hval0 hW hcnd _
  have hval : ∀ (j : Nat) t v, Try.f4.params[j]? = some t → args[j]? = some v → Value.okWide Try.prog W .any base t v := hval0
  have hW' := hW
  obtain ⟨p, q, hA0, hV, rfl, hfz, hnd⟩ := hW
  have hA : DataW.TrodAll enc Try.prog W 0 (fun _ => true) true Try.f4.params.toList args.toList ds p := hA0
  rw [Try.params4] at hA hval
  obtain ⟨v0, vs0, d0, ds0, p0, q0, hargs, rfl, rfl, h0, r0⟩ := trodAll_cons hA
  obtain ⟨v1, vs1, d1, ds1, p1, q1, rfl, rfl, rfl, h1, r1⟩ := trodAll_cons r0
  obtain ⟨rfl, rfl, rfl⟩ := trodAll_nil r1
  obtain rfl : args = #[v0, v1] := by cases args; simp_all
  obtain ⟨rfl, rfl⟩ := trodVars_none hV
  have k0 := h0
  have lt0 : ∀ x ∈ p0, x.block < W.heap.size := by obtain ⟨m, hm⟩ := k0; exact DataW.trod_lt m _ _ _ hm
  obtain ⟨n0, _, rfl⟩ := open_id (hval 0 23 v0 rfl rfl) h0
  have k1 := h1
  have lt1 : ∀ x ∈ p1, x.block < W.heap.size := by obtain ⟨m, hm⟩ := k1; exact DataW.trod_lt m _ _ _ hm
  obtain ⟨n1, rfl, _, _, ws1⟩ := open_string Try.underlying9 (hval 1 9 v1 rfl rfl) h1
  clear hA0 hval0
  refine (walk n0 n1 W ws1).mono fun e W' ⟨he, bel⟩ => ?_
  subst he
  exact ⟨_, rfl, _, _, _, [], _, [], hW', trodAll_mk1 (shut_bool Try.underlying4 _), (trodAll_cons_mk (Below.trod laidOut (by kernel_rfl) (of_decide_eq_true (by kernel_rfl)) k0 bel lt0) (trodAll_cons_mk (Below.trod laidOut (by kernel_rfl) (of_decide_eq_true (by kernel_rfl)) k1 bel lt1) trodAll_mk0)), rfl, bel.frame _, fun h => by cases h⟩

theorem proved : Rows.IdentWritesSaid :=
  OpenClaim.holds_of_wide 4 Try.f4 rfl rfl rfl rfl rfl rfl rfl ⟨rfl, rfl, rfl, rfl, rfl⟩ rfl rfl rfl rfl rfl (by kernel_rfl) Try.func4 (by kernel_rfl)
    (of_decide_eq_true (by kernel_rfl)) (by unfold Func.isWrapper; first | (rw [if_pos (by decide +kernel)]; kernel_rfl) | (rw [if_neg (by decide +kernel)]; exact ⟨rfl, rfl⟩))
    (fun os started H enc _ => lifted os started H enc)
end Go.Proofs.Yteljhengfeebfaa.WritesLaw
