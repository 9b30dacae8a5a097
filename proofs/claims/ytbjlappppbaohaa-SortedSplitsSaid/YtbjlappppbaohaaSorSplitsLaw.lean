/- SortedSplits: for all items, keys and numbers the call returns true: ranges side by side are one range, rising; a short one is the beginning of a longer one. No condition. -/
import Derived.Test.YtbjlappppbaohaaSorCut
namespace Go.Proofs.Ytbjlappppbaohaa.SorSplitsLaw
open Go Go.ChangeShapes Go.WideShapes Go.ChangeAt Go.RowKit Go.Sort
open Go.ChangeMaps (open_string shut_string)

theorem drewN_bel (w : World) (n : Nat) : Below w.heap.size w (w.drewN n) := (⟨rfl, rfl, rfl, Nat.le_refl _, fun _ _ => rfl⟩ : Below w.heap.size w (w.drewN n))
set_option maxRecDepth 100000 in
/-- nothing is asked -/
theorem let_go (a : Option Addr) (n c lo mid hi : Nat) (most : Int) (w : World) (h : 60 < n) :
    Calls Try.prog 5 #[.slice a n c, .int .u64 (lo : Int), .int .u64 (mid : Int), .int .u64 (hi : Int), .int .i64 most] w fun e w' => e = .returned (.bool true) ∧ Below w.heap.size w w' := by
  have hc : (60 : Int) < (n : Int) := by omega
  go_enter Try.func5, Try.ntmps5
  go_wp2
  go_ret
  exact ⟨rfl, Below.refl _ _⟩

set_option maxRecDepth 100000 in
set_option maxHeartbeats 4000000 in
/-- the ends are the wrong way round -/
theorem back (a : Option Addr) (n c lo mid hi : Nat) (most : Int) (w : World) (M : List It) (hn : n ≤ 60) (hlh : hi < lo)
    (hF : Calls Try.prog 13 #[.slice a n c] w fun e w' => e = .returned (.pointer (some ⟨w.heap.size, 0, none⟩)) ∧ Has w.heap.size w w' w.heap.size M) :
    Calls Try.prog 5 #[.slice a n c, .int .u64 (lo : Int), .int .u64 (mid : Int), .int .u64 (hi : Int), .int .i64 most] w fun e w' => e = .returned (.bool true) ∧ Below w.heap.size w w' := by
  have HF := Lib.hid hF
  have HR : Hid (∀ w1, Calls Try.prog 16 #[.pointer (some ⟨w.heap.size, 0, none⟩), .int .u64 (lo : Int), .int .u64 (hi : Int), .int .i64 1000] w1 fun e w' => e = .returned (.tuple #[.slice none 0 0, .int .i64 5]) ∧ w1 = w') := range_back w.heap.size lo hi 1000 hlh
  have hc : ¬ (60 : Int) < (n : Int) := by omega
  clear hF hn
  go_enter Try.func5, Try.ntmps5
  go_wp2_with (first
    | (go_at_call 13; (with_reducible refine HF.out.mono ?_); rintro e w1 ⟨rfl, h1⟩; have H1 := Lib.hid h1; clear h1)
    | (go_at_call 16; (with_reducible refine (HR.out _).mono ?_); rintro e w2 ⟨rfl, rfl⟩)
    | (go_at_call 12; (with_reducible refine (ordered_any _).mono ?_); rintro e w3 ⟨rfl, b3⟩))
  go_ret
  exact ⟨rfl, (H1.out.bel b3).below⟩

set_option maxRecDepth 100000 in
set_option maxHeartbeats 4000000 in
theorem core (a : Option Addr) (n0 c0 lo mid hi : Nat) (most : Int) (w : World) (M : List It) (hn0 : n0 ≤ 60) (hlh : ¬ hi < lo) (hh : hi < 18446744073709551616) (hM : M.length ≤ 60) (hm1 : most ≤ 9223372036854775807)
    (hF : Calls Try.prog 13 #[.slice a n0 c0] w fun e w' => e = .returned (.pointer (some ⟨w.heap.size, 0, none⟩)) ∧ Has w.heap.size w w' w.heap.size M) :
    Calls Try.prog 5 #[.slice a n0 c0, .int .u64 (lo : Int), .int .u64 (mid : Int), .int .u64 (hi : Int), .int .i64 most] w fun e w' => e = .returned (.bool true) ∧ Below w.heap.size w w' := by
  have HF := Lib.hid hF
  have hc : ¬ (60 : Int) < (n0 : Int) := by omega
  have hKl := range_len M lo hi
  obtain ⟨K, hK⟩ : ∃ K, K = rangeL M lo hi := ⟨_, rfl⟩
  have HK := Lib.hid hK
  rw [← hK] at hKl
  clear hF hn0 hK
  go_enter Try.func5, Try.ntmps5
  go_upto_region 6 with (go_at_call 13; (with_reducible refine HF.out.mono ?_); rintro e w1 ⟨rfl, h1⟩; have H1 := Lib.hid h1; clear h1)
  have HR : Hid (Calls Try.prog 16 #[.pointer (some ⟨w.heap.size, 0, none⟩), .int .u64 (lo : Int), .int .u64 (hi : Int), .int .i64 1000] w1 (HadLies w.heap.size w w1 w.heap.size M K)) := by
    have := lies_all H1.out lo hi 1000 hlh (by omega)
    rw [← HK.out] at this
    exact this
  go_wp2_with (go_at_call 16; (with_reducible refine HR.out.mono ?_); rintro e w2 ⟨b, of, c, n, rfl, l2, h2, b2⟩; have L2 := Lib.hid l2; have H2 := Lib.hid h2; clear l2 h2 b2)
  have hn : n ≤ 60 := by have := L2.out.1; omega
  go_loopw [14] (fun i wr => ∃ k : Nat, k ≤ n ∧ i = .int .i64 k ∧ Has w.heap.size w wr w.heap.size M ∧ Lies wr b of c n K) (fun i _ => n - (intOf i).toNat)
  case atStart => exact ⟨0, by omega, rfl, H2.out, L2.out⟩
  case round =>
    clear HR H1 HF
    obtain ⟨k, hk, rfl, hH, hL⟩ := hrel
    have HH := Lib.hid hH
    have HL := Lib.hid hL
    clear hH hL
    by_cases hlt : k < n
    · obtain ⟨x, hx⟩ : ∃ x, K[k]? = some x := ⟨_, List.getElem?_eq_getElem (by have := L2.out.1; omega)⟩
      have hin := range_in (L := M) (lo := lo) (hi := hi) (x := x) (by rw [← HK.out]; exact List.mem_of_getElem? hx)
      have x0 := HL.out.at hx
      have g1 : decide (x.1 < lo) = false := by simp; omega
      have g2 : decide (hi < x.1) = false := by simp; omega
      have FIN : Hid (∀ w', Below wr.heap.size wr w' → Has w.heap.size w w' w.heap.size M ∧ Lies w' b of c n K) := fun w' hb => ⟨HH.out.bel hb, HL.out.bel hb⟩
      cases k with
      | zero =>
        clear hin
        generalize x.1 = kx at *
        rw [Nat.zero_mul, Nat.add_zero] at x0
        go_wp2
        go_quiet (fail)
        go_wp2
        exact ⟨⟨1, by omega, by go_num, (FIN.out _ (drewN_bel wr _)).1, (FIN.out _ (drewN_bel wr _)).2⟩, by simp [intOf]; omega⟩
      | succ j =>
        obtain ⟨y, hy⟩ : ∃ y, K[j]? = some y := ⟨_, List.getElem?_eq_getElem (by have := L2.out.1; omega)⟩
        have y0 := HL.out.at hy
        have hs := sorted_get (by rw [HK.out]; exact range_sorted HH.out.sorted lo hi) (Nat.lt_succ_self j) hy hx
        have g3 : decide (x.1 ≤ y.1) = false := by simp; omega
        have g4 : decide (0 < (j : Int) + 1) = true := decide_eq_true (by omega)
        have hw : IntKind.i64.wrap ((j : Int) + 1 - 1) = (j : Int) := by rw [IntKind.wrap_i64]; omega
        clear hin hs hx hy
        generalize x.1 = kx at *
        generalize y.1 = ky at *
        go_wp2
        go_quiet (fail)
        go_wp2
        exact ⟨⟨j + 1 + 1, by omega, by go_num, (FIN.out _ (drewN_bel wr _)).1, (FIN.out _ (drewN_bel wr _)).2⟩, by simp [intOf]; omega⟩
    · obtain rfl : n = k := by omega
      have H3 : Hid (Has w.heap.size w wr w.heap.size M) := HH
      have L3 : Hid (Lies wr b of c n K) := HL
      have hw1 : IntKind.u64.wrap ((mid : Int) + 1) = (mid : Int) + 1 ∨ ¬ mid < hi := by
        rcases Nat.lt_or_ge mid hi with h | h
        · left; rw [IntKind.wrap_u64]; omega
        · right; omega
      clear H2 L2 HH HL
      rcases Int.lt_or_le most 0 with hms | hms
      · have HR := Lib.hid (range_neg w.heap.size lo hi most hlh hms)
        go_upto_region 17 with (go_at_call 16; (with_reducible refine (HR.out _).mono ?_); rintro e w4 ⟨rfl, rfl⟩)
        clear HR
        by_cases hout : mid < lo ∨ (¬ mid < lo ∧ hi ≤ mid)
        · rcases hout with g1 | ⟨g1, g2⟩
          all_goals
            go_wp2_with (go_at_call 12; (with_reducible refine (ordered_any _).mono ?_); rintro e w5 ⟨rfl, b5⟩)
            go_ret
            exact ⟨rfl, (H3.out.bel b5).below⟩
        · have g1 : ¬ mid < lo := by omega
          have g2 : ¬ hi ≤ mid := by omega
          have hw2 : IntKind.u64.wrap ((mid : Int) + 1) = (mid : Int) + 1 := hw1.resolve_right (by omega)
          have HR1 : Hid (Calls Try.prog 16 #[.pointer (some ⟨w.heap.size, 0, none⟩), .int .u64 (lo : Int), .int .u64 (mid : Int), .int .i64 1000] wr (HadLies w.heap.size w wr w.heap.size M (rangeL M lo mid))) := lies_all H3.out lo mid 1000 (by omega) (by omega)
          go_upto_region 20 with (go_at_call 16; (with_reducible refine HR1.out.mono ?_); rintro e w5 ⟨b1, of1, c1, n1, rfl, l5, h5, b5⟩; have L5 := Lib.hid l5; have H5 := Lib.hid h5; clear l5 h5)
          have HR2 : Hid (Calls Try.prog 16 #[.pointer (some ⟨w.heap.size, 0, none⟩), .int .u64 ((mid : Int) + 1), .int .u64 (hi : Int), .int .i64 1000] w5 (HadLies w.heap.size w w5 w.heap.size M (rangeL M (mid + 1) hi))) := lies_all H5.out (mid + 1) hi 1000 (by omega) (by omega)
          go_upto_region 22 with (go_at_call 16; (with_reducible refine HR2.out.mono ?_); rintro e w6 ⟨b2, of2, c2, n2, rfl, l6, h6, b6⟩; have L6 := Lib.hid l6; have H6 := Lib.hid h6; clear l6 h6)
          have l51 := L5.out.bel b6
          have lw := (L3.out.bel b5).bel b6
          have q3 : n1 ≤ 60 := by have := range_len M lo mid; have := L5.out.1; omega
          have q4 : n2 ≤ 60 := by have := range_len M (mid + 1) hi; have := L6.out.1; omega
          go_upto_region 23 with (at_builtin; refine wpList_joinA rfl _ _ rfl w6.heap.size (.slice none 0 0) [] (rangeL M lo mid) 0 n1 rfl (World.ownsRow_nil _ _ _ _) _ rfl l51.told (by omega) (Below.refl _ _) (Nat.le_refl _) ?_; intro v7 w7 o7 b7 s7)
          have l67 := L6.out.bel b7
          have lw7 := lw.bel b7
          have l57 := l51.bel b7
          have h7 := H6.out.bel b7
          rw [Nat.zero_add, List.nil_append] at o7
          obtain ⟨a7, d7, rfl⟩ := (own_src o7).form
          have HO7 := Lib.hid o7
          have HL67 := Lib.hid l67
          have HB7 := Lib.hid b7
          have HL7 := Lib.hid lw7
          have H7 := Lib.hid h7
          clear o7 l67 b7 lw7 h7 l51 HR1 HR2 b5 b6 l57
          go_upto_region 24 with (at_builtin; (refine wpList_joinA rfl _ _ rfl w6.heap.size (.slice a7 n1 d7) (rangeL M lo mid) (rangeL M (mid + 1) hi) n1 n2 rfl HO7.out (.slice (some ⟨b2, of2, none⟩) n2 c2) rfl HL67.out.told (by omega) HB7.out s7 ?_); intro v8 w8 o8 b8 s8; have S8 := Lib.hid (own_src o8); have HB8 := Lib.hid b8; clear o8 b8)
          obtain ⟨a8, d8, rfl⟩ := S8.out.form
          have BB := Lib.hid (HB8.out)
          have h8 := Lib.hid (H6.out.bel HB8.out)
          have hl8 := Lib.hid (lw.bel HB8.out)
          have hcat : rangeL M lo mid ++ rangeL M (mid + 1) hi = K := by rw [HK.out]; exact range_split H3.out.sorted lo mid hi (by omega) (by omega)
          have hct := range_count (L := M) lo mid (by omega)
          rw [← L5.out.1] at hct
          have r9 := rank_le M (mid + 1)
          have hw3 : IntKind.i64.wrap ((rankL M (mid + 1) : Int) - (rankL M lo : Int)) = (n1 : Int) := by rw [IntKind.wrap_i64]; omega
          have HS9 : Hid (∀ w9, Below w8.heap.size w8 w9 → Calls Try.prog 19 #[.slice a8 (n1 + n2) d8, .slice (some ⟨b, of, none⟩) n c] w9 fun e w' => e = .returned (.bool true) ∧ Has w.heap.size w w' w.heap.size M) := fun w9 b9 => by
            have := src_same (S8.out.bel b9) (hl8.out.bel b9).told (by omega)
            rw [hcat, decide_eq_true rfl] at this
            refine this.mono ?_
            rintro e w' ⟨rfl, hb⟩
            exact ⟨rfl, (h8.out.bel b9).bel hb⟩
          have HR9 : Hid (∀ w9, Has w.heap.size w w9 w.heap.size M → Calls Try.prog 17 #[.pointer (some ⟨w.heap.size, 0, none⟩), .int .u64 ((mid : Int) + 1)] w9 fun e w' => e = .returned (.int .i64 (rankL M (mid + 1))) ∧ Has w.heap.size w w' w.heap.size M) := fun w9 h9 => by
            refine (has_rank h9 (mid + 1)).mono ?_
            rintro e w' ⟨rfl, h, _⟩
            exact ⟨rfl, h⟩
          have HR10 : Hid (∀ w9, Has w.heap.size w w9 w.heap.size M → Calls Try.prog 17 #[.pointer (some ⟨w.heap.size, 0, none⟩), .int .u64 (lo : Int)] w9 fun e w' => e = .returned (.int .i64 (rankL M lo)) ∧ Has w.heap.size w w' w.heap.size M) := fun w9 h9 => by
            refine (has_rank h9 lo).mono ?_
            rintro e w' ⟨rfl, h, _⟩
            exact ⟨rfl, h⟩
          clear hcat hct r9 HO7 HL67 HB7 HL7 H7
          generalize rankL M (mid + 1) = r2 at *
          generalize rankL M lo = r1 at *
          go_wp2_with (first
            | (go_at_call 12; (with_reducible refine (ordered_any _).mono ?_); rintro e w9 ⟨rfl, b9⟩)
            | (go_at_call 19; (with_reducible refine (HS9.out _ b9).mono ?_); rintro e w10 ⟨rfl, h10⟩; have H10 := Lib.hid h10; clear h10)
            | (go_at_call 17; (with_reducible refine (HR9.out _ H10.out).mono ?_); rintro e w11 ⟨rfl, h11⟩; have H11 := Lib.hid h11; clear h11)
            | (go_at_call 17; (with_reducible refine (HR10.out _ H11.out).mono ?_); rintro e w12 ⟨rfl, h12⟩; have H12 := Lib.hid h12; clear h12))
          go_ret
          exact ⟨rfl, H12.out.below⟩
      · obtain ⟨m, rfl⟩ := Int.eq_ofNat_of_zero_le hms
        have HR : Hid (Calls Try.prog 16 #[.pointer (some ⟨w.heap.size, 0, none⟩), .int .u64 (lo : Int), .int .u64 (hi : Int), .int .i64 (m : Int)] wr (HadLies w.heap.size w wr w.heap.size M (K.take m))) := by
          have := lies_range H3.out lo hi m hlh
          rw [← HK.out] at this
          exact this
        go_upto_region 15 with (go_at_call 16; (with_reducible refine HR.out.mono ?_); rintro e w4 ⟨b4, of4, c4, p, rfl, l4, h4, b4'⟩; have L4 := Lib.hid l4; have H4 := Lib.hid h4; have B4 := Lib.hid b4'; clear l4 h4 b4')
        have LW := Lib.hid (L3.out.bel B4.out)
        have hp : p = min m n := by rw [L4.out.1, List.length_take, ← L3.out.1]
        have hpn : p ≤ n := by omega
        have hnc := L3.out.2.1
        have HMN : Hid ((if (n : Int) < (m : Int) then (n : Int) else (m : Int)) = (p : Int)) := by
          show _ = _
          rw [hp]; split <;> omega
        have HSM : Hid (Calls Try.prog 19 #[.slice (some ⟨b4, of4, none⟩) p c4, .slice (some ⟨b, of, none⟩) p c] w4 fun e w' => e = .returned (.bool true) ∧ Below w4.heap.size w4 w') := by
          have := src_same L4.out.told (LW.out.take p hpn) (by omega)
          have hKm : K.take m = K.take p := by rw [hp, L3.out.1, List.take_eq_take_min]
          rw [hKm, decide_eq_true rfl] at this
          exact this
        have hms' : ¬ ((m : Int) < 0) := by omega
        have hpc : p ≤ c := by omega
        clear HR hp
        go_upto_region 17 with (first
          | (go_guarded; refine o_min _ _ _ _ rfl _ _ rfl rfl p (by exact HMN.out) ?_; simp only [Act.put, List.setIfInBounds_toArray, List.set_cons_succ, List.set_cons_zero])
          | (go_guarded; refine o_to 27 _ _ rfl 46 2 Try.underlying27 sizeA b of n c p _ rfl rfl rfl hpc ?_; simp only [Act.put, List.setIfInBounds_toArray, List.set_cons_succ, List.set_cons_zero])
          | (go_at_call 19; (with_reducible refine HSM.out.mono ?_); rintro e w5 ⟨rfl, b5⟩; have HA := Lib.hid (H4.out.bel b5); have LA := Lib.hid (LW.out.bel b5); clear b5))
        clear H3 L3 HSM HMN hpn hnc hpc LW H4 L4 B4
        have H3 := HA
        have L3 := LA
        clear HA LA
        by_cases hout : mid < lo ∨ (¬ mid < lo ∧ hi ≤ mid)
        · rcases hout with g1 | ⟨g1, g2⟩
          all_goals
            go_wp2_with (go_at_call 12; (with_reducible refine (ordered_any _).mono ?_); rintro e w55 ⟨rfl, b5⟩)
            go_ret
            exact ⟨rfl, (H3.out.bel b5).below⟩
        · have g1 : ¬ mid < lo := by omega
          have g2 : ¬ hi ≤ mid := by omega
          have hw2 : IntKind.u64.wrap ((mid : Int) + 1) = (mid : Int) + 1 := hw1.resolve_right (by omega)
          have HR1 : Hid (Calls Try.prog 16 #[.pointer (some ⟨w.heap.size, 0, none⟩), .int .u64 (lo : Int), .int .u64 (mid : Int), .int .i64 1000] w5 (HadLies w.heap.size w w5 w.heap.size M (rangeL M lo mid))) := lies_all H3.out lo mid 1000 (by omega) (by omega)
          go_upto_region 20 with (go_at_call 16; (with_reducible refine HR1.out.mono ?_); rintro e w55 ⟨b1, of1, c1, n1, rfl, l5, h5, b5⟩; have L5 := Lib.hid l5; have H5 := Lib.hid h5; clear l5 h5)
          have HR2 : Hid (Calls Try.prog 16 #[.pointer (some ⟨w.heap.size, 0, none⟩), .int .u64 ((mid : Int) + 1), .int .u64 (hi : Int), .int .i64 1000] w55 (HadLies w.heap.size w w55 w.heap.size M (rangeL M (mid + 1) hi))) := lies_all H5.out (mid + 1) hi 1000 (by omega) (by omega)
          go_upto_region 22 with (go_at_call 16; (with_reducible refine HR2.out.mono ?_); rintro e w6 ⟨b2, of2, c2, n2, rfl, l6, h6, b6⟩; have L6 := Lib.hid l6; have H6 := Lib.hid h6; clear l6 h6)
          have l51 := L5.out.bel b6
          have lw := (L3.out.bel b5).bel b6
          have q3 : n1 ≤ 60 := by have := range_len M lo mid; have := L5.out.1; omega
          have q4 : n2 ≤ 60 := by have := range_len M (mid + 1) hi; have := L6.out.1; omega
          go_upto_region 23 with (at_builtin; refine wpList_joinA rfl _ _ rfl w6.heap.size (.slice none 0 0) [] (rangeL M lo mid) 0 n1 rfl (World.ownsRow_nil _ _ _ _) _ rfl l51.told (by omega) (Below.refl _ _) (Nat.le_refl _) ?_; intro v7 w7 o7 b7 s7)
          have l67 := L6.out.bel b7
          have lw7 := lw.bel b7
          have l57 := l51.bel b7
          have h7 := H6.out.bel b7
          rw [Nat.zero_add, List.nil_append] at o7
          obtain ⟨a7, d7, rfl⟩ := (own_src o7).form
          have HO7 := Lib.hid o7
          have HL67 := Lib.hid l67
          have HB7 := Lib.hid b7
          have HL7 := Lib.hid lw7
          have H7 := Lib.hid h7
          clear o7 l67 b7 lw7 h7 l51 HR1 HR2 b5 b6 l57
          go_upto_region 24 with (at_builtin; (refine wpList_joinA rfl _ _ rfl w6.heap.size (.slice a7 n1 d7) (rangeL M lo mid) (rangeL M (mid + 1) hi) n1 n2 rfl HO7.out (.slice (some ⟨b2, of2, none⟩) n2 c2) rfl HL67.out.told (by omega) HB7.out s7 ?_); intro v8 w8 o8 b8 s8; have S8 := Lib.hid (own_src o8); have HB8 := Lib.hid b8; clear o8 b8)
          obtain ⟨a8, d8, rfl⟩ := S8.out.form
          have BB := Lib.hid (HB8.out)
          have h8 := Lib.hid (H6.out.bel HB8.out)
          have hl8 := Lib.hid (lw.bel HB8.out)
          have hcat : rangeL M lo mid ++ rangeL M (mid + 1) hi = K := by rw [HK.out]; exact range_split H3.out.sorted lo mid hi (by omega) (by omega)
          have hct := range_count (L := M) lo mid (by omega)
          rw [← L5.out.1] at hct
          have r9 := rank_le M (mid + 1)
          have hw3 : IntKind.i64.wrap ((rankL M (mid + 1) : Int) - (rankL M lo : Int)) = (n1 : Int) := by rw [IntKind.wrap_i64]; omega
          have HS9 : Hid (∀ w9, Below w8.heap.size w8 w9 → Calls Try.prog 19 #[.slice a8 (n1 + n2) d8, .slice (some ⟨b, of, none⟩) n c] w9 fun e w' => e = .returned (.bool true) ∧ Has w.heap.size w w' w.heap.size M) := fun w9 b9 => by
            have := src_same (S8.out.bel b9) (hl8.out.bel b9).told (by omega)
            rw [hcat, decide_eq_true rfl] at this
            refine this.mono ?_
            rintro e w' ⟨rfl, hb⟩
            exact ⟨rfl, (h8.out.bel b9).bel hb⟩
          have HR9 : Hid (∀ w9, Has w.heap.size w w9 w.heap.size M → Calls Try.prog 17 #[.pointer (some ⟨w.heap.size, 0, none⟩), .int .u64 ((mid : Int) + 1)] w9 fun e w' => e = .returned (.int .i64 (rankL M (mid + 1))) ∧ Has w.heap.size w w' w.heap.size M) := fun w9 h9 => by
            refine (has_rank h9 (mid + 1)).mono ?_
            rintro e w' ⟨rfl, h, _⟩
            exact ⟨rfl, h⟩
          have HR10 : Hid (∀ w9, Has w.heap.size w w9 w.heap.size M → Calls Try.prog 17 #[.pointer (some ⟨w.heap.size, 0, none⟩), .int .u64 (lo : Int)] w9 fun e w' => e = .returned (.int .i64 (rankL M lo)) ∧ Has w.heap.size w w' w.heap.size M) := fun w9 h9 => by
            refine (has_rank h9 lo).mono ?_
            rintro e w' ⟨rfl, h, _⟩
            exact ⟨rfl, h⟩
          clear hcat hct r9 HO7 HL67 HB7 HL7 H7
          generalize rankL M (mid + 1) = r2 at *
          generalize rankL M lo = r1 at *
          go_wp2_with (first
            | (go_at_call 12; (with_reducible refine (ordered_any _).mono ?_); rintro e w9 ⟨rfl, b9⟩)
            | (go_at_call 19; (with_reducible refine (HS9.out _ b9).mono ?_); rintro e w10 ⟨rfl, h10⟩; have H10 := Lib.hid h10; clear h10)
            | (go_at_call 17; (with_reducible refine (HR9.out _ H10.out).mono ?_); rintro e w11 ⟨rfl, h11⟩; have H11 := Lib.hid h11; clear h11)
            | (go_at_call 17; (with_reducible refine (HR10.out _ H11.out).mono ?_); rintro e w12 ⟨rfl, h12⟩; have H12 := Lib.hid h12; clear h12))
          go_ret
          exact ⟨rfl, H12.out.below⟩

theorem walk (l : List It) (v : Value) {w : World} (hS : Told w v l) (hk : ∀ x ∈ l, x.1 < 18446744073709551616) (lo : Nat) (_ : lo < 18446744073709551616) (mid : Nat) (_ : mid < 18446744073709551616) (hi : Nat) (hh : hi < 18446744073709551616) (most : Int) (hm : -9223372036854775808 ≤ most ∧ most ≤ 9223372036854775807) :
    Calls Try.prog 5 #[v, .int .u64 (lo : Int), .int .u64 (mid : Int), .int .u64 (hi : Int), .int .i64 most] w fun e w' => e = .returned (.bool true) ∧ Below w.heap.size w w' := by
  obtain ⟨a, c, rfl⟩ := hS.form
  by_cases h60 : l.length ≤ 60
  · have hF := filled_any hS hk h60
    have hlen := (fill_ok l _ hk l.length (Nat.le_refl _)).2.1
    rw [List.take_length] at hlen
    by_cases hlh : hi < lo
    · exact back a _ c lo mid hi most w _ h60 hlh hF
    · exact core a _ c lo mid hi most w _ h60 hlh hh (by omega) hm.2 hF
  · exact let_go a _ c lo mid hi most w (by omega)

set_option maxRecDepth 100000 in
theorem lifted (os : Os) (started : os.Started) (H : Type) (enc : TypeId × Value → H) :
    ReturnsInHanded {} Try.checked os 5 .any (Rows.sortedSplitsSpec.pre6 enc Try.prog Try.f5 Rows.sortedSplitsRow.domain false) (Rows.sortedSplitsSpec.post enc Try.prog Try.f5 false true false false) := by
  refine returnsInHanded_of_change (C := Try.checked) own started (by kernel_rfl) Try.func5
    (ChangeSpec.witness6 (enc := enc) (C := Try.checked) false ⟨#[], #[.slice none 0 0, .int .u64 0, .int .u64 0, .int .u64 0, .int .i64 0], []⟩ 8 (by kernel_rfl) (by kernel_rfl) (by kernel_rfl) (by kernel_rfl)) ?_
  intro W base args ds gs before hval0 hW hcnd _
  have hval : ∀ (j : Nat) t v, Try.f5.params[j]? = some t → args[j]? = some v → Value.okWide Try.prog W .any base t v := hval0
  have hW' := hW
  obtain ⟨p, q, hA0, hV, rfl, hfz, hnd⟩ := hW
  have hA : DataW.TrodAll enc Try.prog W 0 (fun _ => true) true Try.f5.params.toList args.toList ds p := hA0
  rw [Try.params5] at hA hval
  obtain ⟨v0, vs0, d0, ds0, p0, q0, hargs, rfl, rfl, h0, r0⟩ := trodAll_cons hA
  obtain ⟨v1, vs1, d1, ds1, p1, q1, rfl, rfl, rfl, h1, r1⟩ := trodAll_cons r0
  obtain ⟨v2, vs2, d2, ds2, p2, q2, rfl, rfl, rfl, h2, r2⟩ := trodAll_cons r1
  obtain ⟨v3, vs3, d3, ds3, p3, q3, rfl, rfl, rfl, h3, r3⟩ := trodAll_cons r2
  obtain ⟨v4, vs4, d4, ds4, p4, q4, rfl, rfl, rfl, h4, r4⟩ := trodAll_cons r3
  obtain ⟨rfl, rfl, rfl⟩ := trodAll_nil r4
  obtain rfl : args = #[v0, v1, v2, v3, v4] := by cases args; simp_all
  obtain ⟨rfl, rfl⟩ := trodVars_none hV
  have k0 := h0
  have lt0 : ∀ x ∈ p0, x.block < W.heap.size := by obtain ⟨m, hm⟩ := k0; exact DataW.trod_lt m _ _ _ hm
  obtain ⟨n0, ok0, ky0⟩ := open_items (hval 0 27 v0 rfl rfl) h0
  have k1 := h1
  have lt1 : ∀ x ∈ p1, x.block < W.heap.size := by obtain ⟨m, hm⟩ := k1; exact DataW.trod_lt m _ _ _ hm
  obtain ⟨n1, ok1, rfl⟩ := open_u64 (hval 1 31 v1 rfl rfl) h1
  have k2 := h2
  have lt2 : ∀ x ∈ p2, x.block < W.heap.size := by obtain ⟨m, hm⟩ := k2; exact DataW.trod_lt m _ _ _ hm
  obtain ⟨n2, ok2, rfl⟩ := open_u64 (hval 2 31 v2 rfl rfl) h2
  have k3 := h3
  have lt3 : ∀ x ∈ p3, x.block < W.heap.size := by obtain ⟨m, hm⟩ := k3; exact DataW.trod_lt m _ _ _ hm
  obtain ⟨n3, ok3, rfl⟩ := open_u64 (hval 3 31 v3 rfl rfl) h3
  have k4 := h4
  have lt4 : ∀ x ∈ p4, x.block < W.heap.size := by obtain ⟨m, hm⟩ := k4; exact DataW.trod_lt m _ _ _ hm
  obtain ⟨n4, ok4, rfl⟩ := open_i64 (hval 4 3 v4 rfl rfl) h4
  clear hA0 hval0
  refine (walk n0 v0 ok0 ky0 n1 ok1 n2 ok2 n3 ok3 n4 ok4).mono fun e W' ⟨he, bel⟩ => ?_
  subst he
  exact ⟨_, rfl, _, _, _, [], _, [], hW', trodAll_mk1 (shut_bool Try.underlying4 _), (trodAll_cons_mk (Below.trod laidOut (by kernel_rfl) (of_decide_eq_true (by kernel_rfl)) k0 bel lt0) (trodAll_cons_mk (Below.trod laidOut (by kernel_rfl) (of_decide_eq_true (by kernel_rfl)) k1 bel lt1) (trodAll_cons_mk (Below.trod laidOut (by kernel_rfl) (of_decide_eq_true (by kernel_rfl)) k2 bel lt2) (trodAll_cons_mk (Below.trod laidOut (by kernel_rfl) (of_decide_eq_true (by kernel_rfl)) k3 bel lt3) (trodAll_cons_mk (Below.trod laidOut (by kernel_rfl) (of_decide_eq_true (by kernel_rfl)) k4 bel lt4) trodAll_mk0))))), rfl, bel.frame _, fun h => by cases h⟩

theorem proved : Rows.SortedSplitsSaid :=
  OpenClaim.holds_of_wide 5 Try.f5 rfl rfl rfl rfl rfl rfl rfl ⟨rfl, rfl, rfl, rfl, rfl⟩ rfl rfl rfl rfl rfl (by kernel_rfl) Try.func5 (by kernel_rfl)
    (of_decide_eq_true (by kernel_rfl)) (by unfold Func.isWrapper; first | (rw [if_pos (by decide +kernel)]; kernel_rfl) | (rw [if_neg (by decide +kernel)]; exact ⟨rfl, rfl⟩))
    (fun os started H enc _ => lifted os started H enc)
end Go.Proofs.Ytbjlappppbaohaa.SorSplitsLaw
