/- Two rows that stand in order, one behind the other, are merged in place. -/
import Derived.Test.YtkcljbolopephaaTabSymB
namespace Go.Proofs.Ytkcljbolopephaa
set_option maxRecDepth 100000
open Go Go.RowKit Go.Sort

/-- where two rows are parted, so that what is ahead goes ahead -/
structure SymAt (f : Nat → Pe) (a m e d x t : Nat) : Prop where
  ax : a ≤ x
  xm : x ≤ m
  mt : m ≤ t
  te : t ≤ e
  mid : d + m = x + t
  u1 : Up (seg f a m)
  u2 : Up (seg f m e)
  hA : x = a ∨ t = e ∨ (f (x - 1)).1 ≤ (f t).1
  hB : x = m ∨ t = m ∨ (f (t - 1)).1 < (f x).1
theorem SymAt.l {f : Nat → Pe} {a m e d x t : Nat} (h : SymAt f a m e d x t) : seg (rot f x m t) a d = seg f a x ++ seg f m t := by
  have := h.ax; have := h.xm; have := h.mt; have := h.mid
  rw [seg_split (rot f x m t) (show a ≤ x by omega) (show x ≤ d by omega)]
  congr 1
  · exact seg_congr fun i _ hi => rot_out f h.xm h.mt (.inl hi)
  · rw [show d = x + (t - m) by omega]; exact rot_fst f h.mt
theorem SymAt.r {f : Nat → Pe} {a m e d x t : Nat} (h : SymAt f a m e d x t) : seg (rot f x m t) d e = seg f x m ++ seg f t e := by
  have := h.ax; have := h.xm; have := h.mt; have := h.mid; have := h.te
  rw [seg_split (rot f x m t) (show d ≤ t by omega) (show t ≤ e by omega)]
  congr 1
  · rw [show d = x + (t - m) by omega]; exact rot_snd f h.xm h.mt
  · exact seg_congr fun i hi _ => rot_out f h.xm h.mt (.inr hi)
theorem up_part {f : Nat → Pe} {a b c d : Nat} (h : Up (seg f a d)) (h1 : a ≤ b) (h2 : c ≤ d) : Up (seg f b c) := by
  rw [up_seg] at h ⊢
  exact fun i j h3 h4 h5 => h i j (by omega) h4 (by omega)
theorem SymAt.p1 {f : Nat → Pe} {a m e d x t : Nat} (h : SymAt f a m e d x t) : Up (seg (rot f x m t) a x) := by
  rw [seg_congr (g := f) fun i _ hi => rot_out f h.xm h.mt (.inl hi)]
  exact up_part h.u1 (Nat.le_refl _) h.xm
theorem SymAt.p2 {f : Nat → Pe} {a m e d x t : Nat} (h : SymAt f a m e d x t) : Up (seg (rot f x m t) x d) := by
  have := h.ax; have := h.xm; have := h.mt; have := h.mid
  rw [show d = x + (t - m) by omega, rot_fst f h.mt]
  exact up_part h.u2 (Nat.le_refl _) h.te
theorem SymAt.p3 {f : Nat → Pe} {a m e d x t : Nat} (h : SymAt f a m e d x t) : Up (seg (rot f x m t) d t) := by
  have := h.ax; have := h.xm; have := h.mt; have := h.mid
  rw [show d = x + (t - m) by omega, rot_snd f h.xm h.mt]
  exact up_part h.u1 h.ax (Nat.le_refl _)
theorem SymAt.p4 {f : Nat → Pe} {a m e d x t : Nat} (h : SymAt f a m e d x t) : Up (seg (rot f x m t) t e) := by
  rw [seg_congr (g := f) fun i hi _ => rot_out f h.xm h.mt (.inr hi)]
  exact up_part h.u2 h.mt (Nat.le_refl _)
theorem SymAt.left0 {f : Nat → Pe} {a m e d x t : Nat} (h : SymAt f a m e d x t) (hn : ¬ (a < x ∧ x < d)) : Up (seg (rot f x m t) a d) := by
  have := h.ax; have := h.xm; have := h.mt; have := h.mid
  by_cases h1 : a < x
  · rw [show d = x by omega]; exact h.p1
  · obtain rfl : x = a := by omega
    exact h.p2
theorem SymAt.right0 {f : Nat → Pe} {a m e d x t : Nat} (h : SymAt f a m e d x t) (hn : ¬ (d < t ∧ t < e)) : Up (seg (rot f x m t) d e) := by
  have := h.ax; have := h.xm; have := h.mt; have := h.mid; have := h.te
  by_cases h1 : d < t
  · have e1 : t = e := by omega
    have := h.p3
    rwa [e1] at this ⊢
  · rw [show d = t by omega]; exact h.p4
theorem SymAt.rot0 {f : Nat → Pe} {a m e d x t : Nat} (h : SymAt f a m e d x t) (hn : ¬ (x < m ∧ m < t)) : rot f x m t = f := by
  have := h.xm; have := h.mt
  exact rot_none f h.xm h.mt (by omega)
theorem SymAt.fin {f : Nat → Pe} {a m e d x t : Nat} (h : SymAt f a m e d x t) {R1 R2 : List Pe} (h1 : SO (seg (rot f x m t) a d) R1) (h2 : SO (seg (rot f x m t) d e) R2) : SO (seg f a e) (R1 ++ R2) := by
  have := h.ax; have := h.xm; have := h.mt; have := h.mid; have := h.te
  have v1 := up_seg.1 h.u1
  have v2 := up_seg.1 h.u2
  rw [h.l] at h1
  rw [h.r] at h2
  rw [seg_split f (show a ≤ m by omega) (show m ≤ e by omega), seg_split f h.ax h.xm, seg_split f h.mt h.te]
  refine SO.merge h1 h2 ?_ ?_ ?_ ?_
  · intro y hy z hz
    obtain ⟨i, i1, i2, rfl⟩ := seg_mem hy
    obtain ⟨j, j1, j2, rfl⟩ := seg_mem hz
    exact v1 i j i1 (by omega) j2
  · intro y hy z hz
    obtain ⟨i, i1, i2, rfl⟩ := seg_mem hy
    obtain ⟨j, j1, j2, rfl⟩ := seg_mem hz
    exact v2 i j i1 (by omega) j2
  · intro y hy z hz
    obtain ⟨i, i1, i2, rfl⟩ := seg_mem hy
    obtain ⟨j, j1, j2, rfl⟩ := seg_mem hz
    rcases h.hA with h3 | h3 | h3
    · omega
    · omega
    · have w1 : (f i).1 ≤ (f (x - 1)).1 := by
        rcases Nat.lt_or_ge i (x - 1) with h4 | h4
        · exact v1 i (x - 1) i1 h4 (by omega)
        · obtain rfl : i = x - 1 := by omega
          exact Int.le_refl _
      have w2 : (f t).1 ≤ (f j).1 := by
        rcases Nat.lt_or_ge t j with h4 | h4
        · exact v2 t j h.mt h4 j2
        · obtain rfl : t = j := by omega
          exact Int.le_refl _
      omega
  · intro y hy z hz
    obtain ⟨i, i1, i2, rfl⟩ := seg_mem hy
    obtain ⟨j, j1, j2, rfl⟩ := seg_mem hz
    rcases h.hB with h3 | h3 | h3
    · omega
    · omega
    · have w1 : (f x).1 ≤ (f i).1 := by
        rcases Nat.lt_or_ge x i with h4 | h4
        · exact v1 x i h.ax h4 i2
        · obtain rfl : i = x := by omega
          exact Int.le_refl _
      have w2 : (f j).1 ≤ (f (t - 1)).1 := by
        rcases Nat.lt_or_ge j (t - 1) with h4 | h4
        · exact v2 j (t - 1) j1 h4 (by omega)
        · obtain rfl : j = t - 1 := by omega
          exact Int.le_refl _
      omega
/-- what a merge answers -/
def Merges (w : World) (b o n : Nat) (f : Nat → Pe) (a e : Nat) (r : Ending) (w' : World) : Prop :=
  ∃ g, Does w b o n g r w' ∧ (∀ x, x < a ∨ e ≤ x → g x = f x) ∧ SO (seg f a e) (seg g a e)
set_option maxHeartbeats 16000000 in
theorem symMain {w : World} {b o c n : Nat} {f : Nat → Pe} (h : Dat w b o f n) (a m e : Nat) (hn : n ≤ 1000) (ha : a + 1 < m) (hm : m + 1 < e) (he : e ≤ n) (hu1 : Up (seg f a m)) (hu2 : Up (seg f m e))
    (ih : ∀ {w : World} {f : Nat → Pe}, Dat w b o f n → ∀ a' m' e', a' < m' → m' < e' → e' ≤ n → e' - a' < e - a → Up (seg f a' m') → Up (seg f m' e') →
      Calls Try.prog 84 #[.slice (some ⟨b, o, none⟩) n c, .int .i64 (a' : Int), .int .i64 (m' : Int), .int .i64 (e' : Int), cmpF] w (Merges w b o n f a' e')) :
    Calls Try.prog 84 #[.slice (some ⟨b, o, none⟩) n c, .int .i64 (a : Int), .int .i64 (m : Int), .int .i64 (e : Int), cmpF] w (Merges w b o n f a e) := by
  have H := Lib.hid h
  have HU1 := Lib.hid hu1
  have HU2 := Lib.hid hu2
  have HI : Hid (∀ (w : World) (f : Nat → Pe), Dat w b o f n → ∀ a' m' e', a' < m' → m' < e' → e' ≤ n → e' - a' < e - a → Up (seg f a' m') → Up (seg f m' e') →
      Calls Try.prog 84 #[.slice (some ⟨b, o, none⟩) n c, .int .i64 (a' : Int), .int .i64 (m' : Int), .int .i64 (e' : Int), cmpF] w (Merges w b o n f a' e')) := fun w f => ih (w := w) (f := f)
  clear h hu1 hu2 ih
  have w1 : IntKind.i64.wrap ((m : Int) - (a : Int)) = ((m - a : Nat) : Int) := by rw [← Int.ofNat_sub (by omega)]; exact IntWalk.i64_in _ (by omega)
  have w2 : IntKind.i64.wrap ((e : Int) - (m : Int)) = ((e - m : Nat) : Int) := by rw [← Int.ofNat_sub (by omega)]; exact IntWalk.i64_in _ (by omega)
  have d1 : (((m - a : Nat) : Int) == 1) = false := by simp; omega
  have d2 : (((e - m : Nat) : Int) == 1) = false := by simp; omega
  generalize m - a = ma at *
  generalize e - m = em at *
  obtain ⟨d, hd⟩ : ∃ d, d = (a + e) / 2 := ⟨_, rfl⟩
  have hsh : ((a : Int) + (e : Int)) / 2 = (d : Int) := by omega
  have hd1 : 2 * d ≤ a + e := by omega
  have hd2 : a + e ≤ 2 * d + 1 := by omega
  clear hd
  have w3 := sum_in d m (by omega)
  obtain ⟨N, hN⟩ : ∃ N, N = d + m - 1 := ⟨_, rfl⟩
  have hN1 : d + m = N + 1 := by omega
  rw [hN1] at w3
  have w4 : IntKind.i64.wrap (((N + 1 : Nat) : Int) - 1) = (N : Int) := sub_in N (by omega)
  have w4' : IntKind.i64.wrap ((N : Int) + 1 - 1) = (N : Int) := sub_in' N (by omega)
  clear hN
  go_enter Try.func84, Try.ntmps84
  go_upto_region 27 with (fail)
  clear w1 w2 w3 d1 d2 hsh
  obtain ⟨s0, r0, hS, hcase⟩ : ∃ s0 r0 : Nat, (a ≤ s0 ∧ s0 ≤ r0 ∧ r0 ≤ m ∧ ((s0 = a ∨ N + 1 = e + s0) ∧ N + 1 ≤ e + s0) ∧ ((r0 = m ∨ N + 1 = m + r0) ∧ m + r0 ≤ N + 1) ∧ ∀ c, s0 ≤ c → c < r0 → c < m ∧ m ≤ N - c ∧ N - c < e ∧ c ≤ N) ∧ ((d < m ∧ s0 + e = N + 1 ∧ r0 = d) ∨ (¬ d < m ∧ s0 = a ∧ r0 = m)) := by
    by_cases hdm : d < m
    · exact ⟨N + 1 - e, d, ⟨by omega, by omega, by omega, by omega, by omega, fun c h1 h2 => by omega⟩, .inl ⟨hdm, by omega, rfl⟩⟩
    · exact ⟨a, m, ⟨by omega, by omega, by omega, by omega, by omega, fun c h1 h2 => by omega⟩, .inr ⟨hdm, rfl, rfl⟩⟩
  have HS := Lib.hid hS
  clear hS
  go_upto_if 140 with (fail)
  go_cut [20, 21] from 138 (fun u v wx => u = .int .i64 (s0 : Int) ∧ v = .int .i64 (r0 : Int) ∧ wx = w)
  case first =>
    rcases hcase with ⟨h1, h2, h3⟩ | ⟨h1, h2, h3⟩
    · have w5 : IntKind.i64.wrap (((N + 1 : Nat) : Int) - (e : Int)) = (s0 : Int) := by rw [show ((N + 1 : Nat) : Int) - (e : Int) = (s0 : Int) by omega]; exact IntWalk.i64_in _ (by omega)
      have w5' : IntKind.i64.wrap ((N : Int) + 1 - (e : Int)) = (s0 : Int) := by rw [show (N : Int) + 1 - (e : Int) = (s0 : Int) by omega]; exact IntWalk.i64_in _ (by omega)
      go_wp2
      go_meet
      exact ⟨rfl, by rw [h3], rfl⟩
    · go_wp2
      go_meet
      exact ⟨by rw [h2], by rw [h3], rfl⟩
  case rest =>
    obtain ⟨rfl, rfl, hcut⟩ := hcut
    replace hcut := hcut.symm
    subst hcut
    clear hcase
    have hsr : s0 ≤ r0 := HS.out.2.1
    have hrm : r0 ≤ m := HS.out.2.2.1
    go_upto_region 33 with (fail)
    clear w4 w4'
    go_loopw [20, 21] (fun x y wr => ∃ i j : Nat, x = .int .i64 (i : Int) ∧ y = .int .i64 (j : Int) ∧ s0 ≤ i ∧ i ≤ j ∧ j ≤ r0 ∧ (i = s0 ∨ (f (i - 1)).1 ≤ (f (N + 1 - i)).1) ∧ (j = r0 ∨ (f (N - j)).1 < (f j).1) ∧ Below w.heap.size w wr) (fun x y _ => (intOf y).toNat - (intOf x).toNat)
    case atStart => exact ⟨s0, r0, rfl, rfl, Nat.le_refl _, hsr, Nat.le_refl _, .inl rfl, .inl rfl, Below.refl _ _⟩
    case round =>
      obtain ⟨i, j, rfl, rfl, hi, hij, hj, hl, hg, hB⟩ := hrel
      have HLo := Lib.hid hl
      have HHi := Lib.hid hg
      have HB := Lib.hid hB
      clear hl hg hB
      by_cases hlt : i < j
      · obtain ⟨k, hk⟩ : ∃ k, k = (i + j) / 2 := ⟨_, rfl⟩
        have hsh : ((i : Int) + (j : Int)) / 2 = (k : Int) := by omega
        have h1 : i ≤ k := by omega
        have h2 : k < j := by omega
        clear hk
        obtain ⟨k1, k2, k3, k4⟩ := HS.out.2.2.2.2.2 k (by omega) (by omega)
        obtain ⟨q, hq⟩ : ∃ q, q = N - k := ⟨_, rfl⟩
        have hqN : q + k = N := by omega
        have hq2 : IntKind.i64.wrap ((N : Int) - (k : Int)) = (q : Int) := by rw [show (N : Int) - (k : Int) = (q : Int) by omega]; exact IntWalk.i64_in _ (by omega)
        have hD := H.out.bel HB.out
        have r1 := hD.at (i := q) (by omega)
        have r2 := hD.at (i := k) (by omega)
        have hC := cmp_gives (f q) (f k)
        have hcv := cmpV_lt (f q).1 (f k).1
        have b1 : (q : Int) < (n : Int) := by omega
        have b2 : (0 : Int) ≤ (q : Int) := by omega
        have b3 : (k : Int) < (n : Int) := by omega
        have b5 : (0 : Int) ≤ (k : Int) := by omega
        have HQ := Lib.hid hqN
        clear hD hq hqN k1 k2 k3 k4
        generalize hcc : cmpV (f q).1 (f k).1 = cc at *
        clear hcc
        by_cases hx : (f q).1 < (f k).1
        · rw [decide_eq_true hx] at hcv
          have hz := Lib.hid hx
          clear HHi hx
          generalize hfx : f q = y at *
          generalize hfy : f k = x at *
          go_upto_region 35 with (fail)
          clear hsh
          refine wp_region_quiet_below (by kernel_rfl) (by kernel_rfl) ?_
          repeat (first
            | go_big_quiet_skip
            | (go_big_quiet_want
               first
               | (first | (refine q_midP _ rfl b (o + q * 21) rfl y (by with_reducible exact r1) ?_) | (refine q_midP _ rfl b (o + k * 21) rfl x (by with_reducible exact r2) ?_)
                  simp only [Act.put, List.setIfInBounds_toArray, List.set_cons_succ, List.set_cons_zero]
                  go_big_quiet_on)
               | (go_big_quiet_op
                  first | go_big_quiet_on | go_big_quiet_call (first | with_reducible exact hC.grown _ _))))
          refine wpQuiet_nil ?_
          intro w2 hw'
          have hb2 := quiet_end hw'
          clear hw'
          have HB2 := Lib.hid (step HB.out hb2)
          clear hb2 r1 r2
          go_wp2
          exact ⟨⟨i, k, rfl, rfl, hi, h1, by omega, HLo.out, .inr (by rw [show N - k = q by have := HQ.out; omega, hfx, hfy]; exact hz.out), HB2.out⟩, by simp [intOf]; omega⟩
        · rw [decide_eq_false hx] at hcv
          have hz : Hid ((f k).1 ≤ (f q).1) := (by omega : (f k).1 ≤ (f q).1)
          clear HLo hx
          generalize hfx : f q = y at *
          generalize hfy : f k = x at *
          go_upto_region 35 with (fail)
          clear hsh
          refine wp_region_quiet_below (by kernel_rfl) (by kernel_rfl) ?_
          repeat (first
            | go_big_quiet_skip
            | (go_big_quiet_want
               first
               | (first | (refine q_midP _ rfl b (o + q * 21) rfl y (by with_reducible exact r1) ?_) | (refine q_midP _ rfl b (o + k * 21) rfl x (by with_reducible exact r2) ?_)
                  simp only [Act.put, List.setIfInBounds_toArray, List.set_cons_succ, List.set_cons_zero]
                  go_big_quiet_on)
               | (go_big_quiet_op
                  first | go_big_quiet_on | go_big_quiet_call (first | with_reducible exact hC.grown _ _))))
          refine wpQuiet_nil ?_
          intro w2 hw'
          have hb2 := quiet_end hw'
          clear hw'
          have HB2 := Lib.hid (step HB.out hb2)
          clear hb2 r1 r2
          go_wp2
          exact ⟨⟨k + 1, j, by go_num, rfl, by omega, by omega, hj, .inr (by rw [Nat.add_sub_cancel, show N + 1 - (k + 1) = q by have := HQ.out; omega, hfx, hfy]; exact hz.out), HHi.out, HB2.out⟩, by simp [intOf]; omega⟩
      · obtain rfl : j = i := by omega
        have hS := HS.out
        obtain ⟨t, ht⟩ : ∃ t, t = N + 1 - j := ⟨_, rfl⟩
        have w5 : IntKind.i64.wrap (((N + 1 : Nat) : Int) - (j : Int)) = (t : Int) := by rw [show ((N + 1 : Nat) : Int) - (j : Int) = (t : Int) by omega]; exact IntWalk.i64_in _ (by omega)
        have w5' : IntKind.i64.wrap ((N : Int) + 1 - (j : Int)) = (t : Int) := by rw [show (N : Int) + 1 - (j : Int) = (t : Int) by omega]; exact IntWalk.i64_in _ (by omega)
        have T : SymAt f a m e d j t := ⟨by omega, by omega, by omega, by omega, by omega, HU1.out, HU2.out, by
          rcases HLo.out with h1 | h1
          · omega
          · exact .inr (.inr (by rw [ht]; exact h1)), by
          rcases HHi.out with h1 | h1
          · omega
          · exact .inr (.inr (by rw [show t - 1 = N - j by omega]; exact h1))⟩
        have hD := H.out.bel HB.out
        have hG := bel_grown HB.out (some b)
        have g1 := T.ax
        have g2 := T.xm
        have g3 := T.mt
        have g4 := T.te
        have g5 : d < e := by omega
        have g6 : j ≤ d ∧ d ≤ t := by have := T.mid; omega
        have g7 : a < d := by omega
        have HT := Lib.hid T
        have HD := Lib.hid hD
        have HG := Lib.hid hG
        clear T hD hG hS ht HLo HHi HB H HU1 HU2 HS hi hj hlt hij hN1 hd1 hd2 hsr hrm
        go_upto_region 39 with (fail)
        clear w5 w5'
        obtain ⟨B, hBB⟩ : ∃ B, B = decide (j < m ∧ m < t) := ⟨_, rfl⟩
        have HBB := Lib.hid hBB
        clear hBB
        go_cut [185] from 178 (fun v wx => v = .bool B ∧ wx = wr)
        case first =>
          by_cases c1 : j < m
          · by_cases c2 : m < t
            · have hb : B = true := by rw [HBB.out]; exact decide_eq_true ⟨c1, c2⟩
              clear HBB
              subst hb
              go_wp2
              go_meet
              exact ⟨rfl, rfl⟩
            · have hb : B = false := by rw [HBB.out]; exact decide_eq_false (fun h => c2 h.2)
              clear HBB
              subst hb
              go_wp2
              go_meet
              exact ⟨rfl, rfl⟩
          · have hb : B = false := by rw [HBB.out]; exact decide_eq_false (fun h => c1 h.1)
            clear HBB
            subst hb
            go_wp2
            go_meet
            exact ⟨rfl, rfl⟩
        case rest =>
          obtain ⟨rfl, hcut⟩ := hcut
          replace hcut := hcut.symm
          subst hcut
          go_upto_if 185 with (fail)
          go_cut [] from 178 (fun wx => Hid (Dat wx b o (rot f j m t) n) ∧ Hid (w.grownBy wx (some b)))
          case first =>
            cases B
            · have c1 := of_decide_eq_false HBB.out.symm
              have HD1 : Hid (Dat wr b o (rot f j m t) n) := (by rw [HT.out.rot0 c1]; exact HD.out : Dat wr b o (rot f j m t) n)
              clear c1
              go_wp2
              go_meet
              exact ⟨HD1, HG⟩
            · have c1 := of_decide_eq_true HBB.out.symm
              have HS := Lib.hid (rotate_any (v := cmpF) (c := c) HD.out j m t hn c1.1 c1.2 (by omega))
              go_wp2_with (go_at_call 85; (with_reducible refine HS.out.mono ?_); rintro e1 W1 ⟨rfl, hD1, hG1⟩; have HD1 := Lib.hid hD1; have HG1 := Lib.hid (grownBy_trans HG.out hG1); clear hD1 hG1)
              go_meet
              exact ⟨HD1, HG1⟩
          case rest =>
            obtain ⟨HD1, HG1⟩ := hcut
            clear HD HG
            go_upto_region 41 with (fail)
            clear HBB
            obtain ⟨B, hBB⟩ : ∃ B, B = decide (a < j ∧ j < d) := ⟨_, rfl⟩
            have HBB := Lib.hid hBB
            clear hBB
            go_cut [199] from 192 (fun v wx => v = .bool B ∧ wx = wc)
            case first =>
              by_cases c1 : a < j
              · by_cases c2 : j < d
                · have hb : B = true := by rw [HBB.out]; exact decide_eq_true ⟨c1, c2⟩
                  clear HBB
                  subst hb
                  go_wp2
                  go_meet
                  exact ⟨rfl, rfl⟩
                · have hb : B = false := by rw [HBB.out]; exact decide_eq_false (fun h => c2 h.2)
                  clear HBB
                  subst hb
                  go_wp2
                  go_meet
                  exact ⟨rfl, rfl⟩
              · have hb : B = false := by rw [HBB.out]; exact decide_eq_false (fun h => c1 h.1)
                clear HBB
                subst hb
                go_wp2
                go_meet
                exact ⟨rfl, rfl⟩
            case rest =>
              obtain ⟨rfl, hcut⟩ := hcut
              replace hcut := hcut.symm
              subst hcut
              go_upto_if 199 with (fail)
              go_cut [] from 192 (fun wx => ∃ g, Hid (Dat wx b o g n) ∧ Hid (w.grownBy wx (some b)) ∧ Hid (∀ x, x < a ∨ d ≤ x → g x = rot f j m t x) ∧ Hid (SO (seg (rot f j m t) a d) (seg g a d)))
              case first =>
                cases B
                · have c1 := of_decide_eq_false HBB.out.symm
                  have HS2 : Hid (SO (seg (rot f j m t) a d) (seg (rot f j m t) a d)) := SO.self (HT.out.left0 c1)
                  clear c1
                  go_wp2
                  go_meet
                  exact ⟨_, HD1, HG1, fun _ _ => rfl, HS2⟩
                · have c1 := of_decide_eq_true HBB.out.symm
                  have HS := Lib.hid (HI.out _ _ HD1.out a j d c1.1 c1.2 (by omega) (by omega) HT.out.p1 HT.out.p2)
                  go_wp2_with (go_at_call 84; (with_reducible refine HS.out.mono ?_); rintro e1 W2 ⟨g, ⟨rfl, hD2, hG2⟩, ho2, hs2⟩; have HD2 := Lib.hid hD2; have HG2 := Lib.hid (grownBy_trans HG1.out hG2); have HO2 := Lib.hid ho2; have HS2 := Lib.hid hs2; clear hD2 hG2 ho2 hs2)
                  go_meet
                  exact ⟨g, HD2, HG2, HO2, HS2⟩
              case rest =>
                obtain ⟨g, HD2, HG2, HO2, HS2⟩ := hcut
                clear HD1 HG1
                have e1 : seg g d t = seg (rot f j m t) d t := seg_congr fun i h1 h2 => HO2.out i (.inr h1)
                have e2 : seg g t e = seg (rot f j m t) t e := seg_congr fun i h1 h2 => HO2.out i (.inr (by omega))
                have e3 : seg g d e = seg (rot f j m t) d e := seg_congr fun i h1 h2 => HO2.out i (.inr h1)
                have P3 : Hid (Up (seg g d t)) := (by rw [e1]; exact HT.out.p3 : Up (seg g d t))
                have P4 : Hid (Up (seg g t e)) := (by rw [e2]; exact HT.out.p4 : Up (seg g t e))
                have P5 : Hid (¬ (d < t ∧ t < e) → Up (seg g d e)) := fun hh => by rw [e3]; exact HT.out.right0 hh
                have fin : ∀ q : Nat → Pe, (∀ x, x < d ∨ e ≤ x → q x = g x) → SO (seg g d e) (seg q d e) → (∀ x, x < a ∨ e ≤ x → q x = f x) ∧ SO (seg f a e) (seg q a e) := fun q hq hs => by
                  refine ⟨fun x hx => ?_, ?_⟩
                  · rw [hq x (by omega), HO2.out x (by omega)]
                    exact rot_out f g2 g3 (by omega)
                  · rw [seg_split q (show a ≤ d by omega) (show d ≤ e by omega), seg_congr (f := q) (g := g) (a := a) (b := d) fun i _ hi => hq i (.inl hi)]
                    exact HT.out.fin HS2.out (e3 ▸ hs)
                have HF := Lib.hid fin
                clear e1 e2 e3 fin HO2 HS2 HT
                clear HBB
                go_upto_region 43 with (fail)
                obtain ⟨B, hBB⟩ : ∃ B, B = decide (d < t ∧ t < e) := ⟨_, rfl⟩
                have HBB := Lib.hid hBB
                clear hBB
                go_cut [213] from 206 (fun v wx => v = .bool B ∧ wx = wc)
                case first =>
                  by_cases c1 : d < t
                  · by_cases c2 : t < e
                    · have hb : B = true := by rw [HBB.out]; exact decide_eq_true ⟨c1, c2⟩
                      clear HBB
                      subst hb
                      go_wp2
                      go_meet
                      exact ⟨rfl, rfl⟩
                    · have hb : B = false := by rw [HBB.out]; exact decide_eq_false (fun h => c2 h.2)
                      clear HBB
                      subst hb
                      go_wp2
                      go_meet
                      exact ⟨rfl, rfl⟩
                  · have hb : B = false := by rw [HBB.out]; exact decide_eq_false (fun h => c1 h.1)
                    clear HBB
                    subst hb
                    go_wp2
                    go_meet
                    exact ⟨rfl, rfl⟩
                case rest =>
                  obtain ⟨rfl, hcut⟩ := hcut
                  replace hcut := hcut.symm
                  subst hcut
                  cases B
                  · have c1 := of_decide_eq_false HBB.out.symm
                    have HQ := Lib.hid (HF.out g (fun _ _ => rfl) (SO.self (P5.out c1)))
                    clear c1
                    go_wp2
                    exact bodyPost_end (results_none rfl _ _ _) rfl ⟨g, ⟨rfl, HD2.out, HG2.out⟩, HQ.out⟩
                  · have c1 := of_decide_eq_true HBB.out.symm
                    have HS := Lib.hid (HI.out _ _ HD2.out d t e c1.1 c1.2 (by omega) (by omega) P3.out P4.out)
                    go_wp2_with (go_at_call 84; (with_reducible refine HS.out.mono ?_); rintro e1 W3 ⟨q, ⟨rfl, hD3, hG3⟩, ho3, hs3⟩; have HD3 := Lib.hid hD3; have HG3 := Lib.hid (grownBy_trans HG2.out hG3); have HQ := Lib.hid (HF.out q ho3 hs3); clear hD3 hG3 ho3 hs3)
                    exact bodyPost_end (results_none rfl _ _ _) rfl ⟨q, ⟨rfl, HD3.out, HG3.out⟩, HQ.out⟩
theorem symMerge_any {b o c n : Nat} (hn : n ≤ 1000) : ∀ (z : Nat) {w : World} {f : Nat → Pe}, Dat w b o f n → ∀ a m e, a < m → m < e → e ≤ n → e - a ≤ z → Up (seg f a m) → Up (seg f m e) →
    Calls Try.prog 84 #[.slice (some ⟨b, o, none⟩) n c, .int .i64 (a : Int), .int .i64 (m : Int), .int .i64 (e : Int), cmpF] w (Merges w b o n f a e) := by
  intro z
  induction z with
  | zero => intro w f h a m e ha hm he hz; omega
  | succ z ih =>
    intro w f h a m e ha hm he hz hu1 hu2
    by_cases h1 : m = a + 1
    · subst h1
      exact symLeft_any h a e hn (by omega) he hu2
    · by_cases h2 : e = m + 1
      · subst h2
        exact symRight_any h a m hn (by omega) he hu1
      · exact symMain h a m e hn (by omega) (by omega) he hu1 hu2 fun h' a' m' e' h1 h2 h3 h4 h5 h6 => ih h' a' m' e' h1 h2 h3 (by omega) h5 h6
end Go.Proofs.Ytkcljbolopephaa
