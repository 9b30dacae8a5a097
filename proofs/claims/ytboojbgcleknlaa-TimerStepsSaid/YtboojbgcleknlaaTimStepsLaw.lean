/- TimerSteps: for every row of times and any two times the call returns true: it plays no part in how many steps a time is come to. No condition. -/
import Derived.Test.YtboojbgcleknlaaTimTwo
namespace Go.Proofs.Ytboojbgcleknlaa.TimStepsLaw
open Go Go.ChangeShapes Go.WideShapes Go.ChangeAt Go.RowKit Go.Sort
open Go.ChangeMaps (open_string shut_string)

theorem due_two {R : List Du} (ho : Ord R) {half to : Int} (h : half ≤ to) : dueK half R ++ dueK to (restK half R) = dueK to R := by
  refine ord_uniq ?_ (ho.filter _) fun d => ?_
  · refine List.pairwise_append.2 ⟨ho.filter _, (Ord.filter (Ord.filter ho _) _), fun a ha b hb => ?_⟩
    have h1 := ((mem_dueK _ _ _).1 ha).2
    have h2 := ((mem_restK _ _ _).1 ((mem_dueK _ _ _).1 hb).1).2
    exact .inl (by omega)
  · rw [List.mem_append, mem_dueK, mem_dueK, mem_restK, mem_dueK]
    constructor
    · rintro (⟨h1, h2⟩ | ⟨⟨h1, h2⟩, h3⟩)
      · exact ⟨h1, by omega⟩
      · exact ⟨h1, h3⟩
    · rintro ⟨h1, h2⟩
      by_cases h3 : d.tm ≤ half
      · exact .inl ⟨h1, h3⟩
      · exact .inr ⟨⟨h1, h3⟩, h2⟩
theorem rest_two (R : List Du) {half to : Int} (h : half ≤ to) : restK to (restK half R) = restK to R := by
  unfold restK
  rw [List.filter_filter]
  refine List.filter_congr fun d _ => ?_
  by_cases h1 : d.tm ≤ to
  · simp [h1]
  · have h2 : ¬ d.tm ≤ half := by omega
    simp [h1, h2]
set_option maxRecDepth 100000 in
set_option maxHeartbeats 4000000 in
theorem main (A : List Int) (v : Value) {w : World} (hA : Num w v A) (half to : Int) (h1 : A.length ≤ 100) (h2 : ¬ half < 0) (h3 : ¬ to < half) : Calls Try.prog 4 #[v, .int .i64 half, .int .i64 to] w fun e w' => e = .returned (.bool true) ∧ Below w.heap.size w w' := by
  obtain ⟨va, vc, rfl⟩ := hA.form
  have HA := Lib.hid hA
  have H1 := Lib.hid (set_of hA (Below.refl _ _) h1)
  obtain ⟨R, hR⟩ : ∃ R, R = rowA A A.length := ⟨_, rfl⟩
  rw [← hR] at H1
  have HR := Lib.hid hR
  have HL : Hid (A.length ≤ 100) := h1
  obtain ⟨n, hn⟩ : ∃ n, n = A.length := ⟨_, rfl⟩
  have hn1 : ¬ (100 : Int) < (n : Int) := by omega
  rw [← hn] at H1 HA ⊢
  clear hA hR h1
  have HN := Lib.hid hn
  clear hn
  go_enter Try.func4, Try.ntmps4
  go_upto_region 4 with (go_at_call 20; (with_reducible refine H1.out.mono ?_); rintro e w1 ⟨rfl, k1⟩; have HT1 := Lib.hid k1; clear k1)
  have H2 : Hid (Calls Try.prog 20 #[.slice va n vc] w1 fun e w' => e = .returned (.pointer (some ⟨w1.heap.size + 1, 0, none⟩)) ∧ HasT w1.heap.size w1 w' (w1.heap.size + 1) 0 R) := by
    have := set_of HA.out HT1.out.below HL.out
    rw [← HR.out] at this
    exact this
  go_upto_region 7 with (go_at_call 20; (with_reducible refine H2.out.mono ?_); rintro e w2 ⟨rfl, k2⟩; have HT2 := Lib.hid (Two.of HT1.out k2); clear k2)
  clear H1 H2 HT1
  generalize w.heap.size + 1 = g1 at *
  generalize w1.heap.size + 1 = g2 at *
  have H3 := Lib.hid (two_tick1 HT2.out (t := half) (by omega))
  go_upto_region 8 with (go_at_call 12; (with_reducible refine H3.out.mono ?_); rintro e w3 ⟨a1, c1, rfl, i1, t1, _⟩; have HT3 := Lib.hid t1; have HI1 := Lib.hid i1; clear t1 i1)
  have H4 := Lib.hid (two_tick1 HT3.out (t := to) (by omega))
  go_upto_region 9 with (go_at_call 12; (with_reducible refine H4.out.mono ?_); rintro e w4 ⟨a2, c2, rfl, i2, t2, y2⟩; have HT4 := Lib.hid t2; have HI2 := Lib.hid i2; have HI3 := Lib.hid (y2 _ _ HI1.out); clear t2 i2 y2)
  have H5 := Lib.hid (two_tick2 HT4.out (t := to) (by omega))
  go_upto_region 10 with (go_at_call 12; (with_reducible refine H5.out.mono ?_); rintro e w5 ⟨a3, c3, rfl, i3, t3, y3⟩; have HT5 := Lib.hid t3; have HI4 := Lib.hid i3; have HI5 := Lib.hid (y3 _ _ HI2.out); have HI6 := Lib.hid (y3 _ _ HI3.out); clear t3 i3 y3)
  have hlen := HT2.out.len
  have z1 : (dueK half R).length ≤ 1000 := Nat.le_trans (List.length_filter_le ..) hlen
  have z2 : (dueK to (restK half R)).length ≤ 1000 := Nat.le_trans (List.length_filter_le ..) (Nat.le_trans (List.length_filter_le ..) hlen)
  have z3 : (dueK to R).length ≤ 1000 := Nat.le_trans (List.length_filter_le ..) hlen
  have hdue := congrArg (List.map (·.id)) (due_two HT2.out.ord (half := half) (to := to) (by omega))
  rw [List.map_append] at hdue
  have HDU := Lib.hid hdue
  have hrest := rest_two R (half := half) (to := to) (by omega)
  rw [hrest] at HT5
  obtain ⟨b1, d1, w6, hap1, o1, gr1⟩ := app_ints (W := w5) (B := w5.heap.size) (l := []) (World.ownsRow_nil _ _ _ _) HI6.out (Nat.le_refl _) (by simp only [List.length_nil, List.length_map]; omega)
  have hb1 : Below w5.heap.size w5 w6 := ⟨gr1.os, gr1.tape, gr1.output, gr1.size, fun k hk => gr1.block k hk (by intro e; cases e)⟩
  rw [List.nil_append] at o1
  have HI7 := HI5.out.bel hb1
  simp only [List.length_nil, Nat.zero_add, List.length_map] at hap1 o1
  obtain ⟨b2, d2, w7, hap2, o2, gr2⟩ := app_ints (W := w6) (B := w5.heap.size) (l := (dueK half R).map (·.id)) (by rw [List.length_map]; exact o1) HI7 hb1.size (by simp only [List.length_map]; omega)
  have hb2 : Below w5.heap.size w5 w7 := hb1.trans ⟨gr2.os, gr2.tape, gr2.output, gr2.size, fun k hk => gr2.block k (by have := hb1.size; omega) (fun e => by have := (o1.lt k e.symm).1; omega)⟩
  simp only [List.length_map] at hap2 o2
  rw [hdue] at o2
  have hI7 : IsI w7 (.slice b2 ((dueK half R).length + (dueK to (restK half R)).length) d2) ((dueK to R).map (·.id)) := own_isI o2 (by rw [← hdue, List.length_append, List.length_map, List.length_map])
  have HC : Hid (∀ w8, Below w7.heap.size w7 w8 → Calls Try.prog 14 #[.slice b2 ((dueK half R).length + (dueK to (restK half R)).length) d2, .slice a3 (dueK to R).length c3] w8 fun e w' => e = .returned (.bool true) ∧ Hid (Two w.heap.size w w' g1 to (restK to R) g2 to (restK to R))) := fun w8 hb8 =>
    (ints_same (hI7.bel hb8) ((HI4.out.bel hb2).bel hb8) (by rw [List.length_map]; omega)).mono fun e w' hh => ⟨hh.1, ((HT5.out.bel hb2).bel hb8).bel hh.2⟩
  have HAP1 := Lib.hid hap1
  have HAP2 := Lib.hid hap2
  clear hap1 hap2 o1 o2 gr1 gr2 hb1 hb2 hI7 HI7 hdue hrest HI1 HI2 HI3 HI4 HI5 HI6 HT2 HT3 HT4 HT5 H3 H4 H5 HDU
  generalize (dueK half R).length = y1 at *
  generalize (dueK to (restK half R)).length = y2 at *
  generalize (dueK to R).length = y3 at *
  go_wp2_with (first
    | (at_builtin; refine Lib.wpList_append_run _ rfl _ _ 34 34 rfl _ _ rfl rfl _ _ HAP1.out ?_)
    | (at_builtin; refine Lib.wpList_append_run _ rfl _ _ 34 34 rfl _ _ rfl rfl _ _ HAP2.out ?_)
    | (go_at_call 19; (with_reducible refine (timed_any _).mono ?_); rintro e w8 ⟨rfl, b8⟩; have HC8 := Lib.hid (HC.out _ b8); clear b8)
    | (go_at_call 14; (with_reducible refine HC8.out.mono ?_); rintro e w9 ⟨rfl, h9⟩)
    | (go_at_call 18; (first | (with_reducible refine (two_size1 h9.out).mono ?_) | (with_reducible refine (two_size2 h9.out).mono ?_)); rintro e w10 ⟨rfl, rfl⟩)
    | (go_at_call 17; (with_reducible refine (two_now1 h9.out).mono ?_); rintro e w11 ⟨rfl, rfl⟩))
  go_ret
  exact ⟨by simp, h9.out.below⟩
set_option maxRecDepth 100000 in
set_option maxHeartbeats 2000000 in
theorem walk (A : List Int) (v : Value) {w : World} (hA : Num w v A) (half : Int) (_ : -9223372036854775808 ≤ half ∧ half ≤ 9223372036854775807) (to : Int) (_ : -9223372036854775808 ≤ to ∧ to ≤ 9223372036854775807) : Calls Try.prog 4 #[v, .int .i64 half, .int .i64 to] w fun e w' => e = .returned (.bool true) ∧ Below w.heap.size w w' := by
  by_cases h1 : A.length ≤ 100
  · by_cases h2 : half < 0
    · obtain ⟨va, vc, rfl⟩ := hA.form
      have hn1 : ¬ (100 : Int) < (A.length : Int) := by omega
      clear hA h1
      generalize A.length = n at *
      go_enter Try.func4, Try.ntmps4
      go_wp2_with (go_at_call 19; (with_reducible refine (timed_any _).mono ?_); rintro e w1 ⟨rfl, b1⟩)
      go_ret
      exact ⟨rfl, b1⟩
    · by_cases h3 : to < half
      · obtain ⟨va, vc, rfl⟩ := hA.form
        have hn1 : ¬ (100 : Int) < (A.length : Int) := by omega
        clear hA h1
        generalize A.length = n at *
        go_enter Try.func4, Try.ntmps4
        go_wp2_with (go_at_call 19; (with_reducible refine (timed_any _).mono ?_); rintro e w1 ⟨rfl, b1⟩)
        go_ret
        exact ⟨rfl, b1⟩
      · exact main A v hA half to h1 h2 h3
  · obtain ⟨va, vc, rfl⟩ := hA.form
    have hn1 : (100 : Int) < (A.length : Int) := by omega
    clear hA h1
    generalize A.length = n at *
    go_enter Try.func4, Try.ntmps4
    go_wp2_with (go_at_call 19; (with_reducible refine (timed_any _).mono ?_); rintro e w1 ⟨rfl, b1⟩)
    go_ret
    exact ⟨rfl, b1⟩

set_option maxRecDepth 100000 in
theorem lifted (os : Os) (started : os.Started) (H : Type) (enc : TypeId × Value → H) :
    ReturnsInHanded {} Try.checked os 4 .any (Rows.timerStepsSpec.pre6 enc Try.prog Try.f4 Rows.timerStepsRow.domain false) (Rows.timerStepsSpec.post enc Try.prog Try.f4 false true false false) := by
  refine returnsInHanded_of_change (C := Try.checked) own started (by kernel_rfl) Try.func4
    (ChangeSpec.witness6 (enc := enc) (C := Try.checked) false ⟨#[], #[.slice none 0 0, .int .i64 0, .int .i64 0], []⟩ 8 (by kernel_rfl) (by kernel_rfl) (by kernel_rfl) (by kernel_rfl)) ?_
  intro W base args ds gs before hval0 hW hcnd _
  have hval : ∀ (j : Nat) t v, Try.f4.params[j]? = some t → args[j]? = some v → Value.okWide Try.prog W .any base t v := hval0
  have hW' := hW
  obtain ⟨p, q, hA0, hV, rfl, hfz, hnd⟩ := hW
  have hA : DataW.TrodAll enc Try.prog W 0 (fun _ => true) true Try.f4.params.toList args.toList ds p := hA0
  rw [Try.params4] at hA hval
  obtain ⟨v0, vs0, d0, ds0, p0, q0, hargs, rfl, rfl, h0, r0⟩ := trodAll_cons hA
  obtain ⟨v1, vs1, d1, ds1, p1, q1, rfl, rfl, rfl, h1, r1⟩ := trodAll_cons r0
  obtain ⟨v2, vs2, d2, ds2, p2, q2, rfl, rfl, rfl, h2, r2⟩ := trodAll_cons r1
  obtain ⟨rfl, rfl, rfl⟩ := trodAll_nil r2
  obtain rfl : args = #[v0, v1, v2] := by cases args; simp_all
  obtain ⟨rfl, rfl⟩ := trodVars_none hV
  have k0 := h0
  have lt0 : ∀ x ∈ p0, x.block < W.heap.size := by obtain ⟨m, hm⟩ := k0; exact DataW.trod_lt m _ _ _ hm
  obtain ⟨n0, ok0⟩ := open_nums (hval 0 34 v0 rfl rfl) h0
  have k1 := h1
  have lt1 : ∀ x ∈ p1, x.block < W.heap.size := by obtain ⟨m, hm⟩ := k1; exact DataW.trod_lt m _ _ _ hm
  obtain ⟨n1, ok1, rfl⟩ := open_i64 (hval 1 3 v1 rfl rfl) h1
  have k2 := h2
  have lt2 : ∀ x ∈ p2, x.block < W.heap.size := by obtain ⟨m, hm⟩ := k2; exact DataW.trod_lt m _ _ _ hm
  obtain ⟨n2, ok2, rfl⟩ := open_i64 (hval 2 3 v2 rfl rfl) h2
  clear hA0 hval0
  refine (walk n0 v0 ok0 n1 ok1 n2 ok2).mono fun e W' ⟨he, bel⟩ => ?_
  subst he
  exact ⟨_, rfl, _, _, _, [], _, [], hW', trodAll_mk1 (shut_bool Try.underlying4 _), (trodAll_cons_mk (Below.trod laidOut (by kernel_rfl) (of_decide_eq_true (by kernel_rfl)) k0 bel lt0) (trodAll_cons_mk (Below.trod laidOut (by kernel_rfl) (of_decide_eq_true (by kernel_rfl)) k1 bel lt1) (trodAll_cons_mk (Below.trod laidOut (by kernel_rfl) (of_decide_eq_true (by kernel_rfl)) k2 bel lt2) trodAll_mk0))), rfl, bel.frame _, fun h => by cases h⟩

theorem proved : Rows.TimerStepsSaid :=
  OpenClaim.holds_of_wide 4 Try.f4 rfl rfl rfl rfl rfl rfl rfl ⟨rfl, rfl, rfl, rfl, rfl⟩ rfl rfl rfl rfl rfl (by kernel_rfl) Try.func4 (by kernel_rfl)
    (of_decide_eq_true (by kernel_rfl)) (by unfold Func.isWrapper; first | (rw [if_pos (by decide +kernel)]; kernel_rfl) | (rw [if_neg (by decide +kernel)]; exact ⟨rfl, rfl⟩))
    (fun os started H enc _ => lifted os started H enc)
end Go.Proofs.Ytboojbgcleknlaa.TimStepsLaw
