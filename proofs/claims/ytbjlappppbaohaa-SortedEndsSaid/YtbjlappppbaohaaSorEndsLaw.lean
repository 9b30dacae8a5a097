/- SortedEnds: for all items the call returns true: the least and the greatest item are the first and the last one of all. No condition. -/
import Derived.Test.YtbjlappppbaohaaSorQ
namespace Go.Proofs.Ytbjlappppbaohaa.SorEndsLaw
open Go Go.ChangeShapes Go.WideShapes Go.ChangeAt Go.RowKit Go.Sort
open Go.ChangeMaps (open_string shut_string)

theorem range_top {L : List It} (h : ∀ x ∈ L, x.1 < 18446744073709551616) (hl : L.length ≤ 1000) : (rangeL L 0 18446744073709551615).take 1000 = L := by
  rw [range_all (fun x hx => by have := h x hx; omega), List.take_of_length_le hl]
theorem min_at {L : List It} (h : 0 < L.length) : L[0]? = some (minL L) := by
  cases L with
  | nil => simp at h
  | cons x L => rfl
theorem max_at {L : List It} (h : 0 < L.length) : L[L.length - 1]? = some (maxL L) := by
  unfold maxL
  rw [List.getLastD_eq_getLast?, ← List.getLast?_eq_getElem?]
  cases hq : L.getLast? with
  | none => rw [List.getLast?_eq_none_iff] at hq; subst hq; simp at h
  | some y => rfl
set_option maxRecDepth 100000 in
set_option maxHeartbeats 4000000 in
theorem walk (l : List It) (v : Value) {w : World} (hS : Told w v l) (hk : ∀ x ∈ l, x.1 < 18446744073709551616) : Calls Try.prog 6 #[v] w fun e w' => e = .returned (.bool true) ∧ Below w.heap.size w w' := by
  obtain ⟨a, c, rfl⟩ := hS.form
  by_cases h60 : l.length ≤ 60
  · have HF := Lib.hid (filled_any hS hk h60)
    have hlen : (fillL l).length ≤ 60 := by
      have := (fill_ok l _ hk l.length (Nat.le_refl _)).2.1
      rw [List.take_length] at this
      omega
    have hc0 : ¬ (60 : Int) < (l.length : Int) := by omega
    clear hS hk h60
    generalize fillL l = M at *
    generalize l.length = n0 at *
    have HG := Lib.hid (ord_gives)
    go_enter Try.func6, Try.ntmps6
    go_upto_region 6 with (go_at_call 13; (with_reducible refine HF.out.mono ?_); rintro e w1 ⟨rfl, h1⟩; have H1 := Lib.hid h1; clear h1)
    have HR : Hid (Calls Try.prog 16 #[.pointer (some ⟨w.heap.size, 0, none⟩), .int .u64 0, .int .u64 18446744073709551615, .int .i64 1000] w1 (HadRows w.heap.size w w1 w.heap.size M M)) := by
      have := has_range H1.out 0 18446744073709551615 1000 (by decide)
      rw [range_top H1.out.key (by omega)] at this
      exact this
    go_upto_region 7 with (go_at_call 16; (with_reducible refine HR.out.mono ?_); rintro e w2 ⟨ra, rc, rfl, t2, h2, b2⟩)
    have HM := Lib.hid (has_min h2)
    go_upto_region 8 with (first
      | (go_at_call 20; (with_reducible refine HM.out.mono ?_); rintro e w3 ⟨rfl, h3, b3⟩)
      | (refine p_storeA rfl _ _ rfl w3.heap.size rfl (minL M).1 (minL M).2 rfl #[.int .u64 0, .string ⟨#[]⟩] rfl (Blk.new _ _ _) ?_))
    have m4 := made w3 (minL M).1 (minL M).2 #[.int .u64 0, .string ⟨#[]⟩]
    have h4 := h3.bel m4.bel
    have t4 := (t2.bel b3).bel m4.bel
    clear h2 t2 b2 h3 b3 HM HR
    generalize World.setRow _ _ _ = w4 at *
    generalize w3.heap.size = g3 at *
    have HX := Lib.hid (has_max h4)
    go_upto_region 9 with (first
      | (go_at_call 21; (with_reducible refine HX.out.mono ?_); rintro e w5 ⟨rfl, h5, b5⟩)
      | (refine p_storeA rfl _ _ rfl w5.heap.size rfl (maxL M).1 (maxL M).2 rfl #[.int .u64 0, .string ⟨#[]⟩] rfl (Blk.new _ _ _) ?_))
    have m6 := made w5 (maxL M).1 (maxL M).2 #[.int .u64 0, .string ⟨#[]⟩]
    have h6 := h5.bel m6.bel
    have t6 := (t4.bel b5).bel m6.bel
    have A6 := (m4.later (b5.trans (m6.bel.mono b5.size))).blk
    have B6 := m6.blk
    clear h4 t4 b5 h5 m4 m6 HX
    generalize World.setRow _ _ _ = w6 at *
    generalize w5.heap.size = g5 at *
    have HZ := Lib.hid (has_size h6)
    have H6 := Lib.hid h6
    clear h6
    rcases Nat.eq_zero_or_pos M.length with h0 | hpos
    · obtain rfl := List.eq_nil_of_length_eq_zero h0
      rw [show minL [] = (0, ⟨#[]⟩) from rfl] at A6
      rw [show maxL [] = (0, ⟨#[]⟩) from rfl] at B6
      have he : eqI (0, ⟨#[]⟩) (0, ⟨#[]⟩) = true := eqI_self _
      clear t6
      go_upto_region 12 with (go_at_call 11; (with_reducible refine HZ.out.mono ?_); rintro e w7 ⟨rfl, rfl⟩)
      refine wp_region_quiet_below (by kernel_rfl) (by kernel_rfl) ?_
      repeat (first
        | go_big_quiet_skip
        | (go_big_quiet_want
           first
           | (first | (refine q_loadA _ rfl _ rfl 0 ⟨#[]⟩ (by first | with_reducible exact A6 | with_reducible exact B6) ?_) | (refine q_eqlI _ _ rfl (0, ⟨#[]⟩) (0, ⟨#[]⟩) rfl rfl he ?_)
              simp only [Act.put, List.setIfInBounds_toArray, List.set_cons_succ, List.set_cons_zero]
              go_big_quiet_on)
           | (go_big_quiet_op
              first | go_big_quiet_on | go_big_quiet_call (first | with_reducible exact HG.out.grown _ _))))
      refine wpQuiet_nil ?_
      intro _ hw'
      have hbe := Lib.hid (H6.out.bel (quiet_end hw')).below
      clear hw'
      go_wp2
      go_ret
      exact ⟨rfl, hbe.out⟩
    · have hx0 := min_at hpos
      have hxm := max_at hpos
      obtain ⟨m, hm⟩ : ∃ m, m + 1 = M.length := ⟨M.length - 1, by omega⟩
      obtain ⟨b, o, c1, e1, _, _, _, r0⟩ := Src.at t6 hx0
      simp only [Value.slice.injEq, true_and] at e1
      obtain ⟨rfl, rfl⟩ := e1
      obtain ⟨b', o', c1, e1, _, _, _, rm⟩ := Src.at t6 hxm
      simp only [Value.slice.injEq, Option.some.injEq, Addr.mk.injEq, true_and, and_true] at e1
      obtain ⟨⟨rfl, rfl⟩, rfl⟩ := e1
      have hd : decide (0 < M.length) = true := by simpa using hpos
      rw [← hm] at rm HZ hlen
      rw [Nat.add_sub_cancel] at rm
      rw [Nat.zero_mul, Nat.add_zero] at r0
      have hn1 : ¬ ((m : Int) + 1 = 0) := by omega
      have hn3 : ((m : Int) + 1 == 0) = false := by simp; omega
      have hn4 : decide (0 < (m : Int) + 1) = true := decide_eq_true (by omega)
      have hn2 : 0 < (m : Int) + 1 := by omega
      have hw : IntKind.i64.wrap ((m : Int) + 1 - 1) = (m : Int) := by rw [IntKind.wrap_i64]; omega
      have he := eqI_self (minL M)
      have he2 := eqI_self (maxL M)
      rw [hd, ← hm]
      clear hx0 hxm t6 hd hpos
      clear hm
      generalize minL M = x at *
      generalize maxL M = y at *
      go_upto_region 12 with (go_at_call 11; (with_reducible refine HZ.out.mono ?_); rintro e w7 ⟨rfl, rfl⟩)
      refine wp_region_quiet_below (by kernel_rfl) (by kernel_rfl) ?_
      repeat (first
        | go_big_quiet_skip
        | (go_big_quiet_want
           first
           | (first | (refine q_loadA _ rfl _ rfl x.1 x.2 (by with_reducible exact A6) ?_) | (refine q_loadA _ rfl _ rfl y.1 y.2 (by with_reducible exact B6) ?_) | (refine q_midA _ rfl _ _ rfl x.1 x.2 (by with_reducible exact r0) ?_) | (refine q_midA _ rfl _ _ rfl y.1 y.2 (by with_reducible exact rm) ?_) | (refine q_eqlI _ _ rfl x x rfl rfl he ?_) | (refine q_eqlI _ _ rfl y y rfl rfl he2 ?_)
              simp only [Act.put, List.setIfInBounds_toArray, List.set_cons_succ, List.set_cons_zero]
              go_big_quiet_on)
           | (go_big_quiet_op
              first | go_big_quiet_on | go_big_quiet_call (first | with_reducible exact HG.out.grown _ _))))
      refine wpQuiet_nil ?_
      intro _ hw'
      have hbe := Lib.hid (H6.out.bel (quiet_end hw')).below
      clear hw'
      go_wp2
      go_ret
      exact ⟨rfl, hbe.out⟩
  · have hc0 : (60 : Int) < (l.length : Int) := by omega
    clear hS
    generalize l.length = n0 at *
    go_enter Try.func6, Try.ntmps6
    go_wp2
    go_ret
    exact ⟨rfl, Below.refl _ _⟩

set_option maxRecDepth 100000 in
theorem lifted (os : Os) (started : os.Started) (H : Type) (enc : TypeId × Value → H) :
    ReturnsInHanded {} Try.checked os 6 .any (Rows.sortedEndsSpec.pre6 enc Try.prog Try.f6 Rows.sortedEndsRow.domain false) (Rows.sortedEndsSpec.post enc Try.prog Try.f6 false true false false) := by
  refine returnsInHanded_of_change (C := Try.checked) own started (by kernel_rfl) Try.func6
    (ChangeSpec.witness6 (enc := enc) (C := Try.checked) false ⟨#[], #[.slice none 0 0], []⟩ 8 (by kernel_rfl) (by kernel_rfl) (by kernel_rfl) (by kernel_rfl)) ?_
  intro W base args ds gs before hval0 hW hcnd _
  have hval : ∀ (j : Nat) t v, Try.f6.params[j]? = some t → args[j]? = some v → Value.okWide Try.prog W .any base t v := hval0
  have hW' := hW
  obtain ⟨p, q, hA0, hV, rfl, hfz, hnd⟩ := hW
  have hA : DataW.TrodAll enc Try.prog W 0 (fun _ => true) true Try.f6.params.toList args.toList ds p := hA0
  rw [Try.params6] at hA hval
  obtain ⟨v0, vs0, d0, ds0, p0, q0, hargs, rfl, rfl, h0, r0⟩ := trodAll_cons hA
  obtain ⟨rfl, rfl, rfl⟩ := trodAll_nil r0
  obtain rfl : args = #[v0] := by cases args; simp_all
  obtain ⟨rfl, rfl⟩ := trodVars_none hV
  have k0 := h0
  have lt0 : ∀ x ∈ p0, x.block < W.heap.size := by obtain ⟨m, hm⟩ := k0; exact DataW.trod_lt m _ _ _ hm
  obtain ⟨n0, ok0, ky0⟩ := open_items (hval 0 27 v0 rfl rfl) h0
  clear hA0 hval0
  refine (walk n0 v0 ok0 ky0).mono fun e W' ⟨he, bel⟩ => ?_
  subst he
  exact ⟨_, rfl, _, _, _, [], _, [], hW', trodAll_mk1 (shut_bool Try.underlying4 _), (trodAll_cons_mk (Below.trod laidOut (by kernel_rfl) (of_decide_eq_true (by kernel_rfl)) k0 bel lt0) trodAll_mk0), rfl, bel.frame _, fun h => by cases h⟩

theorem proved : Rows.SortedEndsSaid :=
  OpenClaim.holds_of_wide 6 Try.f6 rfl rfl rfl rfl rfl rfl rfl ⟨rfl, rfl, rfl, rfl, rfl⟩ rfl rfl rfl rfl rfl (by kernel_rfl) Try.func6 (by kernel_rfl)
    (of_decide_eq_true (by kernel_rfl)) (by unfold Func.isWrapper; first | (rw [if_pos (by decide +kernel)]; kernel_rfl) | (rw [if_neg (by decide +kernel)]; exact ⟨rfl, rfl⟩))
    (fun os started H enc _ => lifted os started H enc)
end Go.Proofs.Ytbjlappppbaohaa.SorEndsLaw
