/- SortedKeeps: for all items, keys and values the call returns true: what is put is got, and stands at its rank; other keys stay, and what is dropped is gone. No condition. -/
import Derived.Test.YtbjlappppbaohaaSorQ
namespace Go.Proofs.Ytbjlappppbaohaa.SorKeepsLaw
open Go Go.ChangeShapes Go.WideShapes Go.ChangeAt Go.RowKit Go.Sort
open Go.ChangeMaps (open_string shut_string)

theorem range_top {L : List It} {n : Nat} (h : ∀ x ∈ L, x.1 < 18446744073709551616) (hl : L.length ≤ n) : (rangeL L 0 18446744073709551615).take n = L := by
  rw [range_all (fun x hx => by have := h x hx; omega), List.take_of_length_le hl]

set_option maxRecDepth 100000 in
/-- nothing is asked -/
theorem let_go (a : Option Addr) (n c k o : Nat) (s : ByteArray) (w : World) (h : 60 < n ∨ (¬ 60 < n ∧ 200 < s.size)) :
    Calls Try.prog 4 #[.slice a n c, .int .u64 (k : Int), .int .u64 (o : Int), .string s] w fun e w' => e = .returned (.bool true) ∧ Below w.heap.size w w' := by
  rcases h with h | ⟨h, h'⟩
  · have hc : (60 : Int) < (n : Int) := by omega
    go_enter Try.func4, Try.ntmps4
    go_wp2
    go_ret
    exact ⟨rfl, Below.refl _ _⟩
  · have hc : ¬ (60 : Int) < (n : Int) := by omega
    have hc2 : (200 : Int) < (s.size : Int) := by omega
    go_enter Try.func4, Try.ntmps4
    go_wp2
    go_ret
    exact ⟨rfl, Below.refl _ _⟩

set_option maxRecDepth 100000 in
set_option maxHeartbeats 4000000 in
/-- a value that is too long -/
theorem big (a : Option Addr) (n c k o : Nat) (s : ByteArray) (w : World) (M : List It) (hn : n ≤ 60) (h1 : s.size ≤ 200) (h2 : 64 < s.size)
    (hF : Calls Try.prog 13 #[.slice a n c] w fun e w' => e = .returned (.pointer (some ⟨w.heap.size, 0, none⟩)) ∧ Has w.heap.size w w' w.heap.size M) :
    Calls Try.prog 4 #[.slice a n c, .int .u64 (k : Int), .int .u64 (o : Int), .string s] w fun e w' => e = .returned (.bool true) ∧ Below w.heap.size w w' := by
  have HF := Lib.hid hF
  have HP := Lib.hid (put_big w.heap.size k s h2)
  have hc : ¬ (60 : Int) < (n : Int) := by omega
  have hc2 : ¬ (200 : Int) < (s.size : Int) := by omega
  have hc3 : (64 : Int) < (s.size : Int) := by omega
  clear hF hn h1 h2
  go_enter Try.func4, Try.ntmps4
  go_upto_region 6 with (go_at_call 13; (with_reducible refine HF.out.mono ?_); rintro e w1 ⟨rfl, h1⟩; have H1 := Lib.hid h1; clear h1)
  have HS := Lib.hid (has_size H1.out)
  have HG := Lib.hid (has_get H1.out o)
  go_upto_region 8 with (first
    | (go_at_call 11; (with_reducible refine HS.out.mono ?_); rintro e w2 ⟨rfl, rfl⟩)
    | (go_at_call 14; (with_reducible refine HG.out.mono ?_); rintro e w2 ⟨rfl, h2, b2⟩; have H2 := Lib.hid h2; clear h2 b2))
  have hor := ordered_any w2
  have HO := Lib.hid hor
  have HZ : Hid (∀ w', Below w2.heap.size w2 w' → Calls Try.prog 11 #[.pointer (some ⟨w.heap.size, 0, none⟩)] w' fun e w'' => e = .returned (.int .i64 M.length) ∧ w' = w'') := fun w' hb => has_size (H2.out.bel hb)
  clear hor
  go_wp2_with (first
    | (go_at_call 15; (with_reducible refine (HP.out _).mono ?_); rintro e w3 ⟨rfl, rfl⟩)
    | (go_at_call 12; (with_reducible refine HO.out.mono ?_); rintro e w3 ⟨rfl, b3⟩)
    | (go_at_call 11; (with_reducible refine (HZ.out _ b3).mono ?_); rintro e w4 ⟨rfl, rfl⟩))
  go_ret
  exact ⟨rfl, (H2.out.bel b3).below⟩

set_option maxRecDepth 100000 in
set_option maxHeartbeats 4000000 in
/-- a value that is put -/
theorem core (a : Option Addr) (n c k o : Nat) (s : ByteArray) (w : World) (M : List It) (hn : n ≤ 60) (hk : k < 18446744073709551616) (h1 : s.size ≤ 64) (hM : M.length ≤ 60)
    (hF : Calls Try.prog 13 #[.slice a n c] w fun e w' => e = .returned (.pointer (some ⟨w.heap.size, 0, none⟩)) ∧ Has w.heap.size w w' w.heap.size M) :
    Calls Try.prog 4 #[.slice a n c, .int .u64 (k : Int), .int .u64 (o : Int), .string s] w fun e w' => e = .returned (.bool true) ∧ Below w.heap.size w w' := by
  have HF := Lib.hid hF
  have hc : ¬ (60 : Int) < (n : Int) := by omega
  have hc2 : ¬ (200 : Int) < (s.size : Int) := by omega
  have hc3 : ¬ (64 : Int) < (s.size : Int) := by omega
  clear hF hn
  go_enter Try.func4, Try.ntmps4
  go_upto_region 6 with (go_at_call 13; (with_reducible refine HF.out.mono ?_); rintro e w1 ⟨rfl, h1⟩; have H1 := Lib.hid h1; clear h1)
  have HS := Lib.hid (has_size H1.out)
  have HG := Lib.hid (has_get H1.out o)
  go_upto_region 8 with (first
    | (go_at_call 11; (with_reducible refine HS.out.mono ?_); rintro e w2 ⟨rfl, rfl⟩)
    | (go_at_call 14; (with_reducible refine HG.out.mono ?_); rintro e w2 ⟨rfl, h2, b2⟩; have H2 := Lib.hid h2; clear h2 b2))
  clear HS HG HF
  have hSM := H2.out.sorted
  have HP := Lib.hid (has_put H2.out k s h1 (by omega) hk)
  -- the map with what was put
  obtain ⟨K, hK⟩ : ∃ K, K = putL M k s := ⟨_, rfl⟩
  have g1 : valL K k = s := by rw [hK]; unfold valL; rw [get_put]; rfl
  have g2 : hasL K k = true := by rw [hK]; unfold hasL; rw [get_put]; rfl
  have g3 : o ≠ k → valL K o = valL M o ∧ hasL K o = hasL M o := fun h => by rw [hK]; unfold valL hasL; rw [get_put_other hSM k o s h]; exact ⟨rfl, rfl⟩
  have g4 : K.length = if hasL M k then M.length else M.length + 1 := by rw [hK]; exact put_length hSM k s
  have gl : K.length ≤ 61 := by rw [hK]; have := put_len_le hSM k s; omega
  rw [← hK] at HP
  have hSK : Sorted K := by rw [hK]; exact put_sorted hSM k s
  have g5 := at_rank hSK g2
  have g6 := rank_lt hSK g2
  rw [g1] at g5
  have g7 : rankL (dropL (dropL K k) k) k = rankL K k := by unfold rankL; rw [lo_drop, lo_drop]
  have g8 : hasL (dropL K k) k = false := by unfold hasL; rw [get_drop]; rfl
  have g9 : (dropL (dropL K k) k).length + 1 = K.length := by rw [drop_no (drop_sorted hSK k) k g8]; exact drop_length hSK k g2
  have G4 := Lib.hid g4
  have G9 := Lib.hid g9
  have G7 := Lib.hid g7
  clear hK H1 hM hSM g4 g9 g7
  go_upto_region 11 with (go_at_call 15; (with_reducible refine HP.out.mono ?_); rintro e w3 ⟨rfl, h3⟩; have H3 := Lib.hid h3; clear h3)
  have HG1 := Lib.hid (has_get H3.out k)
  rw [g1, g2] at HG1
  go_upto_region 12 with (go_at_call 14; (with_reducible refine HG1.out.mono ?_); rintro e w4 ⟨rfl, h4, b4⟩; have H4 := Lib.hid h4; clear h4 b4)
  have HG2 := Lib.hid (has_get H4.out o)
  go_upto_region 13 with (go_at_call 14; (with_reducible refine HG2.out.mono ?_); rintro e w5 ⟨rfl, h5, b5⟩; have H5 := Lib.hid h5; clear h5 b5)
  have HR : Hid (Calls Try.prog 16 #[.pointer (some ⟨w.heap.size, 0, none⟩), .int .u64 0, .int .u64 18446744073709551615, .int .i64 100] w5 (HadRows w.heap.size w w5 w.heap.size K K)) := by
    have := has_range H5.out 0 18446744073709551615 100 (by decide)
    rw [range_top H5.out.key (by omega)] at this
    exact this
  go_upto_region 14 with (go_at_call 16; (with_reducible refine HR.out.mono ?_); rintro e w6 ⟨ra, rc, rfl, t6, h6, b6⟩; have H6 := Lib.hid h6; clear h6 b6)
  have HK := Lib.hid (has_rank H6.out k)
  go_upto_region 15 with (go_at_call 17; (with_reducible refine HK.out.mono ?_); rintro e w7 ⟨rfl, h7, b7⟩; have H7 := Lib.hid h7; clear h7)
  obtain ⟨b, of, c1, e1, x1, _, _, _⟩ := (t6.bel b7).at g5
  simp only [Value.slice.injEq, true_and] at e1
  obtain ⟨rfl, rfl⟩ := e1
  have HS := Lib.hid (has_size H7.out)
  have HD1 := Lib.hid (has_drop H7.out k)
  rw [g1, g2] at HD1
  clear HP HG1 HG2 HR HK H3 H4 H5 H6 t6 b7 g5 H2
  have x2 : w7.cell? ⟨b, of + rankL K k * 2, none⟩ = some (.int .u64 (k : Int)) := x1
  clear x1 g1 g2
  have g4 := G4.out
  have g9 := G9.out
  have g7 := G7.out
  clear G4 G9 G7
  obtain ⟨m, hm⟩ : ∃ m, K.length = m + 1 := ⟨K.length - 1, by omega⟩
  have hz : (dropL (dropL K k) k).length = m := by omega
  have hr : rankL K k < m + 1 := by omega
  have HZ := Lib.hid hz
  have H7' := Lib.hid g7
  have H8' := Lib.hid g8
  rw [hm] at HS g4 gl
  rw [hm]
  clear hm g6 g7 g8 g9 hz hSK
  generalize rankL K k = r at *
  have r1 : ¬ ((r : Int) < 0) := by omega
  have r2 : ¬ (m + 1 ≤ r) := by omega
  have r3 : ¬ ((m : Int) + 1 ≤ (r : Int)) := by omega
  have r4 : decide ((m : Int) + 1 ≤ (r : Int)) = false := by simp; omega
  have zq : ((m : Int) + 1 == (m : Int)) = false := by simp; omega
  have zq2 : ¬ ((m : Int) + 1 = (m : Int)) := by omega
  have zk : ((k : Int) != (k : Int)) = false := by simp
  have zs : (s.toList != s.toList) = false := by simp
  have zs2 : (s.toList == s.toList) = true := by simp
  have hw : IntKind.i64.wrap ((m : Int) + 1 - 1) = (m : Int) := by rw [IntKind.wrap_i64]; omega
  have FIN : Hid (∀ (w10 : World), Has w.heap.size w w10 w.heap.size (dropL (dropL K k) k) → (Calls Try.prog 12 #[] w10 fun e w' => e = .returned (.bool true) ∧ Has w.heap.size w w' w.heap.size (dropL (dropL K k) k)) ∧
      (Calls Try.prog 17 #[.pointer (some ⟨w.heap.size, 0, none⟩), .int .u64 (k : Int)] w10 fun e w' => e = .returned (.int .i64 (r : Int)) ∧ Has w.heap.size w w' w.heap.size (dropL (dropL K k) k)) ∧
      (Calls Try.prog 11 #[.pointer (some ⟨w.heap.size, 0, none⟩)] w10 fun e w' => e = .returned (.int .i64 (m : Int)) ∧ w10 = w')) := fun w10 h10 => by
    refine ⟨(ordered_any w10).mono ?_, ?_, ?_⟩
    · rintro e w' ⟨rfl, hb⟩
      exact ⟨rfl, h10.bel hb⟩
    · have := has_rank h10 k
      rw [H7'.out] at this
      refine this.mono ?_
      rintro e w' ⟨rfl, h, _⟩
      exact ⟨rfl, h⟩
    · have := has_size h10
      rw [HZ.out] at this
      exact this
  clear HZ H7'
  have CASE : (hasL M k = true ∧ M.length = m + 1) ∨ (hasL M k = false ∧ M.length = m) := by
    cases hb : hasL M k with
    | true => rw [hb, if_pos rfl] at g4; exact .inl ⟨rfl, g4.symm⟩
    | false => rw [hb] at g4; exact .inr ⟨rfl, by simp at g4; omega⟩
  clear g4
  by_cases hko : o = k
  · subst hko
    clear g3
    rcases CASE with ⟨q1, q2⟩ | ⟨q1, q2⟩
    all_goals
      rw [q1, q2]
      clear q1 q2
      go_upto_region 18 with (first
        | (go_at_call 11; (with_reducible refine HS.out.mono ?_); rintro e w8 ⟨rfl, rfl⟩)
        | (go_at_call 18; (with_reducible refine HD1.out.mono ?_); rintro e w8 ⟨rfl, h8⟩; have H8 := Lib.hid h8; clear h8))
      have HG8 := Lib.hid (has_get H8.out o)
      rw [H8'.out] at HG8
      go_upto_region 19 with (go_at_call 14; (with_reducible refine HG8.out.mono ?_); rintro e w9 ⟨rfl, h9, b9⟩; have H9 := Lib.hid h9; clear h9 b9)
      have HD2 := Lib.hid (has_drop H9.out o)
      rw [H8'.out] at HD2
      go_upto_region 20 with (go_at_call 18; (with_reducible refine HD2.out.mono ?_); rintro e w10 ⟨rfl, h10⟩; have H10 := Lib.hid h10; clear h10)
      go_wp2_with (first
        | (go_at_call 12; (with_reducible refine (FIN.out _ H10.out).1.mono ?_); rintro e w11 ⟨rfl, h11⟩; have H11 := Lib.hid h11; clear h11)
        | (go_at_call 17; (with_reducible refine (FIN.out _ H11.out).2.1.mono ?_); rintro e w12 ⟨rfl, h12⟩; have H12 := Lib.hid h12; clear h12)
        | (go_at_call 11; (with_reducible refine (FIN.out _ H12.out).2.2.mono ?_); rintro e w13 ⟨rfl, rfl⟩))
      go_ret
      exact ⟨rfl, H12.out.below⟩
  · obtain ⟨q3, q4⟩ := g3 hko
    rw [q3, q4]
    have z1 : ((k : Int) != (o : Int)) = true := by simp; omega
    have z2 : ¬ ((k : Int) = (o : Int)) := by omega
    have z3 : ¬ k = o := fun h => hko h.symm
    clear g3 q3 q4
    generalize valL M o = so at *
    generalize hasL M o = bo at *
    have z4 : (so.toList != so.toList) = false := by simp
    have z5 : (bo != bo) = false := by simp
    rcases CASE with ⟨q1, q2⟩ | ⟨q1, q2⟩
    all_goals
      rw [q1, q2]
      clear q1 q2
      go_upto_region 18 with (first
        | (go_at_call 11; (with_reducible refine HS.out.mono ?_); rintro e w8 ⟨rfl, rfl⟩)
        | (go_at_call 18; (with_reducible refine HD1.out.mono ?_); rintro e w8 ⟨rfl, h8⟩; have H8 := Lib.hid h8; clear h8))
      have HG8 := Lib.hid (has_get H8.out k)
      rw [H8'.out] at HG8
      go_upto_region 19 with (go_at_call 14; (with_reducible refine HG8.out.mono ?_); rintro e w9 ⟨rfl, h9, b9⟩; have H9 := Lib.hid h9; clear h9 b9)
      have HD2 := Lib.hid (has_drop H9.out k)
      rw [H8'.out] at HD2
      go_upto_region 20 with (go_at_call 18; (with_reducible refine HD2.out.mono ?_); rintro e w10 ⟨rfl, h10⟩; have H10 := Lib.hid h10; clear h10)
      go_wp2_with (first
        | (go_at_call 12; (with_reducible refine (FIN.out _ H10.out).1.mono ?_); rintro e w11 ⟨rfl, h11⟩; have H11 := Lib.hid h11; clear h11)
        | (go_at_call 17; (with_reducible refine (FIN.out _ H11.out).2.1.mono ?_); rintro e w12 ⟨rfl, h12⟩; have H12 := Lib.hid h12; clear h12)
        | (go_at_call 11; (with_reducible refine (FIN.out _ H12.out).2.2.mono ?_); rintro e w13 ⟨rfl, rfl⟩))
      go_ret
      exact ⟨rfl, H12.out.below⟩

theorem walk (l : List It) (v : Value) {w : World} (hS : Told w v l) (hk : ∀ x ∈ l, x.1 < 18446744073709551616) (k : Nat) (hk1 : k < 18446744073709551616) (o : Nat) (_ : o < 18446744073709551616) (s : ByteArray) (_ : s.size ≤ maxLen) :
    Calls Try.prog 4 #[v, .int .u64 (k : Int), .int .u64 (o : Int), .string s] w fun e w' => e = .returned (.bool true) ∧ Below w.heap.size w w' := by
  obtain ⟨a, c, rfl⟩ := hS.form
  by_cases h60 : l.length ≤ 60
  · by_cases h200 : s.size ≤ 200
    · have hF := filled_any hS hk h60
      have hlen := (fill_ok l _ hk l.length (Nat.le_refl _)).2.1
      rw [List.take_length] at hlen
      by_cases h64 : s.size ≤ 64
      · exact core a _ c k o s w _ h60 hk1 h64 (by omega) hF
      · exact big a _ c k o s w _ h60 h200 (by omega) hF
    · exact let_go a _ c k o s w (.inr ⟨by omega, by omega⟩)
  · exact let_go a _ c k o s w (.inl (by omega))

set_option maxRecDepth 100000 in
theorem lifted (os : Os) (started : os.Started) (H : Type) (enc : TypeId × Value → H) :
    ReturnsInHanded {} Try.checked os 4 .any (Rows.sortedKeepsSpec.pre6 enc Try.prog Try.f4 Rows.sortedKeepsRow.domain false) (Rows.sortedKeepsSpec.post enc Try.prog Try.f4 false true false false) := by
  refine returnsInHanded_of_change (C := Try.checked) own started (by kernel_rfl) Try.func4
    (ChangeSpec.witness6 (enc := enc) (C := Try.checked) false ⟨#[], #[.slice none 0 0, .int .u64 0, .int .u64 0, .string ⟨#[]⟩], []⟩ 8 (by kernel_rfl) (by kernel_rfl) (by kernel_rfl) (by kernel_rfl)) ?_
  intro W base args ds gs before hval0 hW hcnd _
  have hval : ∀ (j : Nat) t v, Try.f4.params[j]? = some t → args[j]? = some v → Value.okWide Try.prog W .any base t v := hval0
  have hW' := hW
  obtain ⟨p, q, hA0, hV, rfl, hfz, hnd⟩ := hW
  have hA : DataW.TrodAll enc Try.prog W 0 (fun _ => true) true Try.f4.params.toList args.toList ds p := hA0
  rw [Try.params4] at hA hval
  obtain ⟨v0, vs0, d0, ds0, p0, q0, hargs, rfl, rfl, h0, r0⟩ := trodAll_cons hA
  obtain ⟨v1, vs1, d1, ds1, p1, q1, rfl, rfl, rfl, h1, r1⟩ := trodAll_cons r0
  obtain ⟨v2, vs2, d2, ds2, p2, q2, rfl, rfl, rfl, h2, r2⟩ := trodAll_cons r1
  obtain ⟨v3, vs3, d3, ds3, p3, q3, rfl, rfl, rfl, h3, r3⟩ := trodAll_cons r2
  obtain ⟨rfl, rfl, rfl⟩ := trodAll_nil r3
  obtain rfl : args = #[v0, v1, v2, v3] := by cases args; simp_all
  obtain ⟨rfl, rfl⟩ := trodVars_none hV
  have k0 := h0
  have lt0 : ∀ x ∈ p0, x.block < W.heap.size := by obtain ⟨m, hm⟩ := k0; exact DataW.trod_lt m _ _ _ hm
  obtain ⟨n0, ok0, ky0⟩ := open_items (hval 0 27 v0 rfl rfl) h0
  have k1 := h1
  have lt1 : ∀ x ∈ p1, x.block < W.heap.size := by obtain ⟨m, hm⟩ := k1; exact DataW.trod_lt m _ _ _ hm
  obtain ⟨n1, ok1, rfl⟩ := open_u64 (hval 1 31 v1 rfl rfl) h1
  have k2 := h2
  have lt2 : ∀ x ∈ p2, x.block < W.heap.size := by obtain ⟨m, hm⟩ := k2; exact DataW.trod_lt m _ _ _ hm
  obtain ⟨n2, ok2, rfl⟩ := open_u64 (hval 2 31 v2 rfl rfl) h2
  have k3 := h3
  have lt3 : ∀ x ∈ p3, x.block < W.heap.size := by obtain ⟨m, hm⟩ := k3; exact DataW.trod_lt m _ _ _ hm
  obtain ⟨n3, rfl, _, _, ws3⟩ := open_string Try.underlying9 (hval 3 9 v3 rfl rfl) h3
  clear hA0 hval0
  refine (walk n0 v0 ok0 ky0 n1 ok1 n2 ok2 n3 ws3).mono fun e W' ⟨he, bel⟩ => ?_
  subst he
  exact ⟨_, rfl, _, _, _, [], _, [], hW', trodAll_mk1 (shut_bool Try.underlying4 _), (trodAll_cons_mk (Below.trod laidOut (by kernel_rfl) (of_decide_eq_true (by kernel_rfl)) k0 bel lt0) (trodAll_cons_mk (Below.trod laidOut (by kernel_rfl) (of_decide_eq_true (by kernel_rfl)) k1 bel lt1) (trodAll_cons_mk (Below.trod laidOut (by kernel_rfl) (of_decide_eq_true (by kernel_rfl)) k2 bel lt2) (trodAll_cons_mk (Below.trod laidOut (by kernel_rfl) (of_decide_eq_true (by kernel_rfl)) k3 bel lt3) trodAll_mk0)))), rfl, bel.frame _, fun h => by cases h⟩

theorem proved : Rows.SortedKeepsSaid :=
  OpenClaim.holds_of_wide 4 Try.f4 rfl rfl rfl rfl rfl rfl rfl ⟨rfl, rfl, rfl, rfl, rfl⟩ rfl rfl rfl rfl rfl (by kernel_rfl) Try.func4 (by kernel_rfl)
    (of_decide_eq_true (by kernel_rfl)) (by unfold Func.isWrapper; first | (rw [if_pos (by decide +kernel)]; kernel_rfl) | (rw [if_neg (by decide +kernel)]; exact ⟨rfl, rfl⟩))
    (fun os started H enc _ => lifted os started H enc)
end Go.Proofs.Ytbjlappppbaohaa.SorKeepsLaw
