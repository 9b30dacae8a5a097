/- ShaDoes: for every state and text the call returns true: a text is padded, has words as a block, steps a state and has a sum just as the document's program says, or is refused. No condition. -/
import Derived.Test.YtcmaneddhjlbdaaShaSame
import Derived.Test.YtcmaneddhjlbdaaShaSumRef
import Derived.Test.YtcmaneddhjlbdaaShaKnown
import Derived.Test.YtcmaneddhjlbdaaOwn
namespace Go.Proofs.Ytcmaneddhjlbdaa.ShaDoesLaw
open Go.ChangeShapes Go.WideShapes Go.ChangeAt Go.RowKit Go.Sort
open Go.ChangeMaps (open_string shut_string)
set_option linter.unusedVariables false

/-- a call that tells a value, and leaves what was there -/
def Says (f : FuncId) (args : Array Value) (v : Value) : Prop := ∀ w : World, Calls Try.prog f args w fun e w' => e = .returned v ∧ Below w.heap.size w w'
theorem Says.calls {f : FuncId} {args : Array Value} {v : Value} (h : Says f args v) (w : World) : Calls Try.prog f args w fun e w' => e = .returned v ∧ Below w.heap.size w w' := h w
def WordsOf (f : FuncId) (s : ByteArray) : Prop := ∀ w : World, Calls Try.prog f #[.string s] w (SaysWords s w)
theorem WordsOf.calls {f : FuncId} {s : ByteArray} (h : WordsOf f s) (w : World) : Calls Try.prog f #[.string s] w (SaysWords s w) := h w

theorem skipped (st : S5) (s : ByteArray) (w : World) (h : (1000 < s.size ∧ s.size ≤ 4096) ∨ 5000 < s.size) (hs : s.size ≤ 9223372036854775807) : Calls Try.prog 3 #[stv st, .string s] w fun e w' => e = .returned (.bool true) ∧ Below w.heap.size w w' := by
  rw [box_st]
  rcases h with ⟨h1, h2⟩ | h1
  · have d1 : decide ((1000 : Int) < s.size) = true := by simp; omega
    have d2 : decide ((s.size : Int) ≤ 4096) = true := by simp; omega
    go_enter Try.func3, Try.ntmps3
    go_wp2
    go_ret
    exact ⟨rfl, (Below.refl _ _).alloc (Nat.le_refl _) _⟩
  · have d1 : decide ((1000 : Int) < s.size) = true := by simp; omega
    have d2 : decide ((s.size : Int) ≤ 4096) = false := by simp; omega
    have d3 : decide ((5000 : Int) < s.size) = true := by simp; omega
    go_enter Try.func3, Try.ntmps3
    go_wp2
    go_ret
    exact ⟨rfl, (Below.refl _ _).alloc (Nat.le_refl _) _⟩

set_option maxHeartbeats 4000000 in
set_option maxRecDepth 100000 in
theorem core (st R : S5) (s P : ByteArray) (N : Nat) (cp cs cm : Int) (w : World) (h : s.size ≤ 1000 ∨ (4096 < s.size ∧ s.size ≤ 5000))
    (c8 : Says 8 #[.string s] (.tuple #[.string P, .int .i64 cp])) (c9 : Says 9 #[.string s] (.tuple #[.string P, .int .i64 cp]))
    (c10 : WordsOf 10 s) (c11 : WordsOf 11 s)
    (c12 : Says 12 #[.agg (row32 st.list), .string s] (.tuple #[.agg (row32 R.list), .int .i64 cs])) (c13 : Says 13 #[.agg (row32 st.list), .string s] (.tuple #[.agg (row32 R.list), .int .i64 cs]))
    (c14 : Says 14 #[.string s] (.tuple #[idv N, .int .i64 cm])) (c15 : Says 15 #[.string s] (.tuple #[idv N, .int .i64 cm]))
    (c16 : Says 16 #[] (.bool true)) (c18 : Says 18 #[] (.agg (row32 startS.list))) (c19 : Says 19 #[] (.agg (row32 startS.list))) :
    Calls Try.prog 3 #[stv st, .string s] w fun e w' => e = .returned (.bool true) ∧ Below w.heap.size w w' := by
  rw [box_st]
  have hcase : decide ((1000 : Int) < s.size) = false ∨ (decide ((1000 : Int) < s.size) = true ∧ decide ((s.size : Int) ≤ 4096) = false ∧ decide ((5000 : Int) < s.size) = false) := by
    rcases h with h | h
    · left; simp; omega
    · right; refine ⟨?_, ?_, ?_⟩ <;> (simp; omega)
  have d3 : decide ((5000 : Int) < s.size) = false := by simp; omega
  clear h
  have W0h := Blk.new w (row32 st.list) 24
  have B0 := (Below.refl w.heap.size w).alloc (Nat.le_refl _) (.cells (row32 st.list) 24)
  rw [show row32 st.list = #[.int .u32 (st.a : Nat), .int .u32 (st.b : Nat), .int .u32 (st.c : Nat), .int .u32 (st.d : Nat), .int .u32 (st.e : Nat)] from rfl] at B0
  have H0 : Blk (w.alloc (.cells #[.int .u32 (st.a : Nat), .int .u32 (st.b : Nat), .int .u32 (st.c : Nat), .int .u32 (st.d : Nat), .int .u32 (st.e : Nat)] 24)) w.heap.size (row32 st.list) 24 := W0h
  clear W0h
  rcases hcase with d1 | ⟨d1, d2, _⟩
  all_goals
    go_enter Try.func3, Try.ntmps3
    go_upto_region 3 with (fail)
    generalize w.alloc _ = W0 at *
    go_upto_region 4 with (go_at_call 8; with_reducible refine (c8.calls _).mono ?_; rintro e w1 ⟨rfl, hb⟩)
    replace H0 := H0.below hb H0.lt
    replace B0 := B0.trans (hb.mono B0.size)
    clear hb
    go_upto_region 5 with (go_at_call 9; with_reducible refine (c9.calls _).mono ?_; rintro e w2 ⟨rfl, hb⟩)
    replace H0 := H0.below hb H0.lt
    replace B0 := B0.trans (hb.mono B0.size)
    clear hb
    go_upto_region 6 with (go_at_call 10; (with_reducible refine (c10.calls _).mono ?_); rintro e w3 ⟨va, rfl, WA, hb⟩)
    replace H0 := H0.below hb H0.lt
    replace B0 := B0.trans (hb.mono B0.size)
    clear hb
    go_upto_region 7 with (go_at_call 11; (with_reducible refine (c11.calls _).mono ?_); rintro e w4 ⟨vb, rfl, WB, hb⟩)
    replace H0 := H0.below hb H0.lt
    replace WA := WA.below hb
    replace B0 := B0.trans (hb.mono B0.size)
    clear hb
    go_upto_region 8 with (first | (refine wpList_load_row rfl 24 _ rfl w.heap.size rfl 24 _ (0, 0) _ H0 Try.underlying24 rfl (infoRow _) ?_) | (go_at_call 12; with_reducible refine (c12.calls _).mono ?_; rintro e w5 ⟨rfl, hb⟩) | (refine wpList_store_newrow rfl 24 _ _ rfl (row32 R.list) rfl rfl (infoRow _) (row32_one _) rfl ?_))
    replace H0 := (H0.below hb H0.lt).alloc (.cells (row32 R.list) 24)
    replace WA := (WA.below hb).alloc (.cells (row32 R.list) 24)
    replace WB := (WB.below hb).alloc (.cells (row32 R.list) 24)
    have S1 := Blk.new w5 (row32 R.list) 24
    replace B0 := B0.trans ((hb.mono B0.size).trans ((Below.refl w.heap.size w5).alloc (Nat.le_trans B0.size hb.size) (.cells (row32 R.list) 24)))
    clear hb
    generalize w5.heap.size = gw5 at *
    generalize w5.alloc _ = Ww5 at *
    go_upto_region 9 with (first | (refine wpList_load_row rfl 24 _ rfl w.heap.size rfl 24 _ (0, 0) _ H0 Try.underlying24 rfl (infoRow _) ?_) | (go_at_call 13; with_reducible refine (c13.calls _).mono ?_; rintro e w6 ⟨rfl, hb⟩) | (refine wpList_store_newrow rfl 24 _ _ rfl (row32 R.list) rfl rfl (infoRow _) (row32_one _) rfl ?_))
    replace S1 := (S1.below hb S1.lt).alloc (.cells (row32 R.list) 24)
    replace WA := (WA.below hb).alloc (.cells (row32 R.list) 24)
    replace WB := (WB.below hb).alloc (.cells (row32 R.list) 24)
    have S2 := Blk.new w6 (row32 R.list) 24
    replace B0 := B0.trans ((hb.mono B0.size).trans ((Below.refl w.heap.size w6).alloc (Nat.le_trans B0.size hb.size) (.cells (row32 R.list) 24)))
    clear hb
    generalize w6.heap.size = gw6 at *
    generalize w6.alloc _ = Ww6 at *
    clear H0
    go_upto_region 10 with (first | (go_at_call 14; with_reducible refine (c14.calls _).mono ?_; rintro e w7 ⟨rfl, hb⟩) | (refine wpList_store_new rfl rfl _ _ rfl _ rfl rfl ?_))
    replace S1 := (S1.below hb S1.lt).alloc (.cells (row (dig 20 N)) 34)
    replace S2 := (S2.below hb S2.lt).alloc (.cells (row (dig 20 N)) 34)
    replace WA := (WA.below hb).alloc (.cells (row (dig 20 N)) 34)
    replace WB := (WB.below hb).alloc (.cells (row (dig 20 N)) 34)
    have A1 := At.new w7 N
    replace B0 := B0.trans ((hb.mono B0.size).trans ((Below.refl w.heap.size w7).alloc (Nat.le_trans B0.size hb.size) (.cells (row (dig 20 N)) 34)))
    clear hb
    generalize w7.heap.size = gw7 at *
    generalize w7.alloc _ = Ww7 at *
    go_upto_region 11 with (first | (go_at_call 15; with_reducible refine (c15.calls _).mono ?_; rintro e w8 ⟨rfl, hb⟩) | (refine wpList_store_new rfl rfl _ _ rfl _ rfl rfl ?_))
    replace S1 := (S1.below hb S1.lt).alloc (.cells (row (dig 20 N)) 34)
    replace S2 := (S2.below hb S2.lt).alloc (.cells (row (dig 20 N)) 34)
    replace WA := (WA.below hb).alloc (.cells (row (dig 20 N)) 34)
    replace WB := (WB.below hb).alloc (.cells (row (dig 20 N)) 34)
    replace A1 := (A1.below hb).alloc (.cells (row (dig 20 N)) 34)
    have A2 := At.new w8 N
    replace B0 := B0.trans ((hb.mono B0.size).trans ((Below.refl w.heap.size w8).alloc (Nat.le_trans B0.size hb.size) (.cells (row (dig 20 N)) 34)))
    clear hb
    generalize w8.heap.size = gw8 at *
    generalize w8.alloc _ = Ww8 at *
    go_wp2_with (first | (go_at_call 16; with_reducible refine (c16.calls _).mono ?_; rintro e w9 ⟨rfl, hb⟩; replace S1 := S1.below hb S1.lt; replace S2 := S2.below hb S2.lt; replace A1 := A1.below hb; replace A2 := A2.below hb; replace B0 := B0.trans (hb.mono B0.size); replace WA := WA.below hb; replace WB := WB.below hb; clear hb) | (go_at_call 17; (with_reducible refine (same_all s va vb _ WA WB).mono ?_); rintro e w10 ⟨rfl, hb⟩; replace S1 := S1.below hb S1.lt; replace S2 := S2.below hb S2.lt; replace A1 := A1.below hb; replace A2 := A2.below hb; replace B0 := B0.trans (hb.mono B0.size); clear hb WA WB) | (go_at_call 18; with_reducible refine (c18.calls _).mono ?_; rintro e w11 ⟨rfl, hb⟩; replace B0 := B0.trans (hb.mono B0.size); clear hb) | (go_at_call 19; with_reducible refine (c19.calls _).mono ?_; rintro e w12 ⟨rfl, hb⟩; replace B0 := B0.trans (hb.mono B0.size); clear hb) | (go_guarded; refine o_row 24 _ rfl _ rfl (row32 R.list) 24 _ (by first | with_reducible exact S1 | with_reducible exact S2) Try.underlying24 rfl (infoRow _) ?_; simp only [Act.put, List.setIfInBounds_toArray, List.set_cons_succ, List.set_cons_zero]) | (go_guarded; refine o_load _ rfl _ rfl _ (by first | with_reducible exact A1 | with_reducible exact A2) ?_; simp only [Act.put, List.setIfInBounds_toArray, List.set_cons_succ, List.set_cons_zero]) | (go_guarded; refine o_eqst _ _ rfl R rfl rfl ?_; simp only [Act.put, List.setIfInBounds_toArray, List.set_cons_succ, List.set_cons_zero]) | (go_guarded; refine o_eqst _ _ rfl startS rfl rfl ?_; simp only [Act.put, List.setIfInBounds_toArray, List.set_cons_succ, List.set_cons_zero]) | (go_guarded; refine o_eql _ _ rfl _ _ rfl rfl (eqB_self _) ?_; simp only [Act.put, List.setIfInBounds_toArray, List.set_cons_succ, List.set_cons_zero]))
    go_ret
    exact ⟨rfl, B0⟩

theorem step_says (st : S5) (ok : st.ok) (s : ByteArray) : ∃ (R : S5) (c : Int), Says 12 #[.agg (row32 st.list), .string s] (.tuple #[.agg (row32 R.list), .int .i64 c]) ∧ Says 13 #[.agg (row32 st.list), .string s] (.tuple #[.agg (row32 R.list), .int .i64 c]) := by
  by_cases h : s.size = 64
  · exact ⟨stepS st s, 0, fun w => step_yes st ok s w h, fun w => refStep_yes st ok s w h⟩
  · exact ⟨zeroS, 1, fun w => step_no st s w h, fun w => refStep_no st s w h⟩
theorem walk (st : S5) (ok : st.ok) (s : ByteArray) (w : World) (hs : s.size ≤ 9223372036854775807) : Calls Try.prog 3 #[stv st, .string s] w fun e w' => e = .returned (.bool true) ∧ Below w.heap.size w w' := by
  by_cases h : (1000 < s.size ∧ s.size ≤ 4096) ∨ 5000 < s.size
  · exact skipped st s w h hs
  · obtain ⟨R, cs, c12, c13⟩ := step_says st ok s
    by_cases h1 : s.size ≤ 1000
    · exact core st R s (padB s) (sumN s) 0 cs 0 w (.inl h1) (fun w => pad_short s w (by omega)) (fun w => refPad_short s w (by omega)) (words_all s) (refWords_all s) c12 c13 (fun w => sum_short s w (by omega)) (fun w => refSum_short s w (by omega)) known_all start_any refStart_any
    · exact core st R s ⟨#[]⟩ 0 2 cs 2 w (.inr (by omega)) (fun w => (pad_long s w (by omega) hs).mono fun _ _ ⟨a, b⟩ => ⟨a, b ▸ Below.refl _ _⟩) (fun w => (refPad_long s w (by omega) hs).mono fun _ _ ⟨a, b⟩ => ⟨a, b ▸ Below.refl _ _⟩) (words_all s) (refWords_all s) c12 c13 (fun w => sum_long s w (by omega) hs) (fun w => refSum_long s w (by omega) hs) known_all start_any refStart_any

set_option maxRecDepth 100000 in
theorem lifted (os : Os) (started : os.Started) (H : Type) (enc : TypeId × Value → H) :
    ReturnsInHanded {} Try.checked os 3 .any (Rows.shaDoesSpec.pre6 enc Try.prog Try.f3 Rows.shaDoesRow.domain false) (Rows.shaDoesSpec.post enc Try.prog Try.f3 false true false false) := by
  refine returnsInHanded_of_change (C := Try.checked) own started (by kernel_rfl) Try.func3
    (ChangeSpec.witness6 (enc := enc) (C := Try.checked) false ⟨#[], #[.agg #[.int .u32 0, .int .u32 0, .int .u32 0, .int .u32 0, .int .u32 0], .string ⟨#[]⟩], []⟩ 8 (by kernel_rfl) (by kernel_rfl) (by kernel_rfl) (by kernel_rfl)) ?_
  intro W base args ds gs before hval0 hW hcnd _
  have hval : ∀ (j : Nat) t v, Try.f3.params[j]? = some t → args[j]? = some v → Value.okWide Try.prog W .any base t v := hval0
  have hW' := hW
  obtain ⟨p, q, hA0, hV, rfl, hfz, hnd⟩ := hW
  have hA : DataW.TrodAll enc Try.prog W 0 (fun _ => true) true Try.f3.params.toList args.toList ds p := hA0
  rw [Try.params3] at hA hval
  obtain ⟨v0, vs0, d0, ds0, p0, q0, hargs, rfl, rfl, h0, r0⟩ := trodAll_cons hA
  obtain ⟨v1, vs1, d1, ds1, p1, q1, rfl, rfl, rfl, h1, r1⟩ := trodAll_cons r0
  obtain ⟨rfl, rfl, rfl⟩ := trodAll_nil r1
  obtain rfl : args = #[v0, v1] := by cases args; simp_all
  obtain ⟨rfl, rfl⟩ := trodVars_none hV
  have k0 := h0
  have lt0 : ∀ x ∈ p0, x.block < W.heap.size := by obtain ⟨m, hm⟩ := k0; exact DataW.trod_lt m _ _ _ hm
  obtain ⟨n0, ok0, rfl⟩ := open_st (hval 0 24 v0 rfl rfl) h0
  have k1 := h1
  have lt1 : ∀ x ∈ p1, x.block < W.heap.size := by obtain ⟨m, hm⟩ := k1; exact DataW.trod_lt m _ _ _ hm
  obtain ⟨n1, rfl, _, _, ws1⟩ := open_string Try.underlying9 (hval 1 9 v1 rfl rfl) h1
  clear hA0 hval0
  refine (walk n0 ok0 n1 W ws1).mono fun e W' ⟨he, bel⟩ => ?_
  subst he
  exact ⟨_, rfl, _, _, _, [], _, [], hW', trodAll_mk1 (shut_bool Try.underlying4 _), (trodAll_cons_mk (Below.trod laidOut (by kernel_rfl) (of_decide_eq_true (by kernel_rfl)) k0 bel lt0) (trodAll_cons_mk (Below.trod laidOut (by kernel_rfl) (of_decide_eq_true (by kernel_rfl)) k1 bel lt1) trodAll_mk0)), rfl, bel.frame _, fun h => by cases h⟩

theorem proved : Rows.ShaDoesSaid :=
  OpenClaim.holds_of_wide 3 Try.f3 rfl rfl rfl rfl rfl rfl rfl ⟨rfl, rfl, rfl, rfl, rfl⟩ rfl rfl rfl rfl rfl (by kernel_rfl) Try.func3 (by kernel_rfl)
    (of_decide_eq_true (by kernel_rfl)) (by unfold Func.isWrapper; first | (rw [if_pos (by decide +kernel)]; kernel_rfl) | (rw [if_neg (by decide +kernel)]; exact ⟨rfl, rfl⟩))
    (fun os started H enc _ => lifted os started H enc)
end Go.Proofs.Ytcmaneddhjlbdaa.ShaDoesLaw
