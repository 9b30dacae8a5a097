/- A row of peers is sorted by address, stably. -/
import Derived.Test.YtkcljbolopephaaTabSym
namespace Go.Proofs.Ytkcljbolopephaa
set_option maxRecDepth 100000
open Go Go.RowKit Go.Sort

/-- the same peers, those of one address in the same order -/
structure Sta (l R : List Pe) : Prop where
  len : R.length = l.length
  same : ∀ k, fl k R = fl k l
theorem Sta.refl (l : List Pe) : Sta l l := ⟨rfl, fun _ => rfl⟩
theorem Sta.trans {l R Q : List Pe} (h : Sta l R) (k : Sta R Q) : Sta l Q := ⟨k.len.trans h.len, fun i => (k.same i).trans (h.same i)⟩
theorem sta_part {f g : Nat → Pe} {a e n : Nat} (h1 : a ≤ e) (h2 : e ≤ n) (ho : ∀ x, x < a ∨ e ≤ x → g x = f x) (hs : SO (seg f a e) (seg g a e)) : Sta (seg f 0 n) (seg g 0 n) := by
  refine ⟨by rw [seg_length, seg_length], fun k => ?_⟩
  rw [seg_split g (show 0 ≤ a by omega) (show a ≤ n by omega), seg_split g h1 h2, seg_split f (show 0 ≤ a by omega) (show a ≤ n by omega), seg_split f h1 h2, fl_append, fl_append, fl_append, fl_append, hs.same]
  rw [seg_congr (f := g) (g := f) (a := 0) (b := a) fun i _ hi => ho i (.inl hi), seg_congr (f := g) (g := f) (a := e) (b := n) fun i hi _ => ho i (.inr hi)]
/-- the row while it is sorted -/
structure Srt (w wr : World) (b o n : Nat) (f g : Nat → Pe) : Prop where
  dat : Dat wr b o g n
  grown : w.grownBy wr (some b)
  sta : Sta (seg f 0 n) (seg g 0 n)
theorem Srt.step {w wr w2 : World} {b o n : Nat} {f g : Nat → Pe} {a e : Nat} {r : Ending} (h : Srt w wr b o n f g) (h1 : a ≤ e) (h2 : e ≤ n) (m : Merges wr b o n g a e r w2) :
    r = .returned (.tuple #[]) ∧ ∃ g2, Srt w w2 b o n f g2 ∧ (∀ x, x < a ∨ e ≤ x → g2 x = g x) ∧ Up (seg g2 a e) := by
  obtain ⟨g2, ⟨rfl, hD, hG⟩, ho, hs⟩ := m
  exact ⟨rfl, g2, ⟨hD, grownBy_trans h.grown hG, h.sta.trans (sta_part h1 h2 ho hs)⟩, ho, hs.up⟩
/-- blocks of bs stand in order from a on -/
def Bl (g : Nat → Pe) (bs a n : Nat) : Prop := ∀ k, a + k * bs < n → Up (seg g (a + k * bs) (min (a + k * bs + bs) n))
theorem Bl.next {g : Nat → Pe} {bs a n : Nat} (h : Bl g bs a n) : Bl g bs (a + bs) n := fun k hk => by
  have e : a + bs + k * bs = a + (k + 1) * bs := by rw [Nat.succ_mul]; omega
  rw [e] at hk ⊢
  exact h (k + 1) hk
theorem Bl.congr {g g2 : Nat → Pe} {bs a n : Nat} (h : Bl g bs a n) (e : ∀ x, a ≤ x → x < n → g2 x = g x) : Bl g2 bs a n := fun k hk => by
  rw [seg_congr (g := g) fun i h1 h2 => e i (by omega) (by omega)]
  exact h k hk
theorem Bl.fst {g : Nat → Pe} {bs a n : Nat} (h : Bl g bs a n) (ha : a < n) : Up (seg g a (min (a + bs) n)) := by
  have := h 0 (by omega)
  rwa [Nat.zero_mul, Nat.add_zero] at this
/-- the first q blocks of s stand in order -/
def Dn (g : Nat → Pe) (s q : Nat) : Prop := ∀ k, k < q → Up (seg g (k * s) (k * s + s))
theorem Dn.more {g g2 : Nat → Pe} {s q A : Nat} (h : Dn g s q) (hA : A = q * s) (e : ∀ x, x < A → g2 x = g x) (hu : Up (seg g2 A (A + s))) : Dn g2 s (q + 1) := fun k hk => by
  rcases Nat.lt_or_ge k q with h1 | h1
  · have h2 : (k + 1) * s ≤ q * s := Nat.mul_le_mul_right s h1
    rw [Nat.succ_mul] at h2
    rw [seg_congr (g := g) fun i _ hi => e i (by omega)]
    exact h k h1
  · obtain rfl : k = q := by omega
    rw [← hA]; exact hu
theorem Dn.all {g : Nat → Pe} {s q A n : Nat} (h : Dn g s q) (hA : A = q * s) (h1 : A ≤ n) (h2 : n < A + s) (hu : A < n → Up (seg g A n)) : Bl g s 0 n := fun k hk => by
  rw [Nat.zero_add] at hk ⊢
  rcases Nat.lt_trichotomy k q with h3 | h3 | h3
  · have h4 : (k + 1) * s ≤ q * s := Nat.mul_le_mul_right s h3
    rw [Nat.succ_mul] at h4
    rw [Nat.min_eq_left (by omega)]
    exact h k h3
  · subst h3
    rw [← hA] at hk ⊢
    rw [Nat.min_eq_right (by omega)]
    exact hu hk
  · have h4 : (q + 1) * s ≤ k * s := Nat.mul_le_mul_right s h3
    rw [Nat.succ_mul] at h4
    omega
set_option maxHeartbeats 16000000 in
theorem stable_any {w : World} {b o c n : Nat} {f : Nat → Pe} (h : Dat w b o f n) (hn : n ≤ 1000) :
    Calls Try.prog 78 #[.slice (some ⟨b, o, none⟩) n c, .int .i64 (n : Int), cmpF] w fun r w' => ∃ g, Does w b o n g r w' ∧ SO (seg f 0 n) (seg g 0 n) := by
  have HI : Hid (∀ (w : World) (g : Nat → Pe), Dat w b o g n → ∀ a e, a ≤ e → e ≤ n → Calls Try.prog 83 #[.slice (some ⟨b, o, none⟩) n c, .int .i64 (a : Int), .int .i64 (e : Int), cmpF] w (Merges w b o n g a e)) := fun w g hD a e ha he => insertion_any hD a e hn ha he
  have HM : Hid (∀ (w : World) (g : Nat → Pe), Dat w b o g n → ∀ a m e, a < m → m < e → e ≤ n → Up (seg g a m) → Up (seg g m e) → Calls Try.prog 84 #[.slice (some ⟨b, o, none⟩) n c, .int .i64 (a : Int), .int .i64 (m : Int), .int .i64 (e : Int), cmpF] w (Merges w b o n g a e)) := fun w g hD a m e ha hm he u1 u2 => symMerge_any hn (e - a) hD a m e ha hm he (Nat.le_refl _) u1 u2
  have H0 : Hid (Srt w w b o n f f) := ⟨h, World.grownBy.refl _ _, Sta.refl _⟩
  clear h
  go_enter Try.func78, Try.ntmps78
  go_upto_region 2 with (fail)
  go_loopw [7, 8] (fun x y wr => ∃ (q a e : Nat) (g : Nat → Pe), x = .int .i64 (a : Int) ∧ y = .int .i64 (e : Int) ∧ a = q * 20 ∧ e = a + 20 ∧ a ≤ n ∧ Srt w wr b o n f g ∧ Dn g 20 q) (fun _ y _ => n + 20 - (intOf y).toNat)
  case atStart => exact ⟨0, 0, 20, f, rfl, rfl, rfl, rfl, Nat.zero_le _, H0.out, fun k hk => by omega⟩
  case round =>
    obtain ⟨q, a, e, g, rfl, rfl, hA, he, han, hS, hDn⟩ := hrel
    have HS := Lib.hid hS
    have HA := Lib.hid hA
    have HDn := Lib.hid hDn
    clear hS hDn hA
    by_cases hen : e ≤ n
    · have hC := Lib.hid (HI.out _ _ HS.out.dat a e (by omega) hen)
      have w1 : IntKind.i64.wrap ((e : Int) + 20) = (e : Int) + 20 := IntWalk.i64_in _ (by omega)
      have HE := Lib.hid he
      clear he
      go_wp2_with (go_at_call 83; (with_reducible refine hC.out.mono ?_); rintro r w2 hm; obtain ⟨rfl, g2, s2, o2, u2⟩ := HS.out.step (by have := HE.out; omega) hen hm; have HS2 := Lib.hid s2; have HO2 := Lib.hid o2; have HU2 := Lib.hid u2; clear hm s2 o2 u2)
      have he := HE.out
      exact ⟨⟨q + 1, e, e + 20, g2, rfl, by go_num, by rw [he, HA.out]; omega, rfl, hen, HS2.out, HDn.out.more HA.out (fun x hx => HO2.out x (.inl hx)) (by rw [← he]; exact HU2.out)⟩, by simp [intOf]; omega⟩
    · have hC := Lib.hid (HI.out _ _ HS.out.dat a n han (Nat.le_refl _))
      have HE : Hid (a + 20 > n) := (by omega : a + 20 > n)
      clear he
      go_upto_region 7 with (go_at_call 83; (with_reducible refine hC.out.mono ?_); rintro r w2 hm; obtain ⟨rfl, g2, s2, o2, u2⟩ := HS.out.step han (Nat.le_refl _) hm; have HS2 := Lib.hid s2; have HO2 := Lib.hid o2; have HU2 := Lib.hid u2; clear hm s2 o2 u2)
      have HB : Hid (Bl g2 20 0 n) := by
        have hd : Dn g2 20 q := fun k hk => by
          have ha := HA.out
          rw [seg_congr (g := g) fun i _ hi => HO2.out i (.inl (by omega))]
          exact HDn.out k hk
        exact hd.all HA.out han HE.out fun _ => HU2.out
      clear HS HA HDn HE HO2 HU2 hC H0 HI hen han
      go_loopw [6, 7, 8, 9] (fun x _ _ _ wr => ∃ (bs : Nat) (g : Nat → Pe), x = .int .i64 (bs : Int) ∧ 20 ≤ bs ∧ bs ≤ 2000 ∧ Srt w wr b o n f g ∧ Bl g bs 0 n) (fun x _ _ _ _ => n - (intOf x).toNat)
      case atStart => exact ⟨20, g2, rfl, Nat.le_refl _, by omega, HS2.out, HB.out⟩
      case round =>
        obtain ⟨bs, g, rfl, hb1, hb2, hS, hB⟩ := hrel
        clear HS2 HB
        have HS := Lib.hid hS
        have HB := Lib.hid hB
        clear hS hB
        by_cases hlt : bs < n
        · obtain ⟨s, hs⟩ : ∃ s, s = 2 * bs := ⟨_, rfl⟩
          have w1 : IntKind.i64.wrap (2 * (bs : Int)) = (s : Int) := by rw [show 2 * (bs : Int) = (s : Int) by omega]; exact IntWalk.i64_in _ (by omega)
          have w2 : IntKind.i64.wrap ((bs : Int) * 2) = (s : Int) := by rw [show (bs : Int) * 2 = (s : Int) by omega]; exact IntWalk.i64_in _ (by omega)
          have HE := Lib.hid hs
          have hs1 : s ≤ 2000 := by omega
          have hs2 : bs < s := by omega
          clear hs
          go_upto_region 9 with (fail)
          go_loopw [7, 8] (fun x y wr => ∃ (q a e : Nat) (g : Nat → Pe), x = .int .i64 (a : Int) ∧ y = .int .i64 (e : Int) ∧ a = q * s ∧ e = a + s ∧ a ≤ n ∧ Srt w wr b o n f g ∧ Dn g s q ∧ Bl g bs a n) (fun _ y _ => n + s - (intOf y).toNat)
          case atStart => exact ⟨0, 0, s, g, rfl, rfl, by rw [Nat.zero_mul], (Nat.zero_add s).symm, Nat.zero_le _, HS.out, fun k hk => by omega, HB.out⟩
          case round =>
            clear HS HB
            obtain ⟨q, a, e, g, rfl, rfl, hA, he, han, hS, hDn, hB⟩ := hrel
            have HS := Lib.hid hS
            have HA := Lib.hid hA
            have HDn := Lib.hid hDn
            have HB := Lib.hid hB
            clear hS hDn hA hB
            obtain ⟨m, hm⟩ : ∃ m, m = a + bs := ⟨_, rfl⟩
            have w3 : IntKind.i64.wrap ((a : Int) + (bs : Int)) = (m : Int) := by rw [show (a : Int) + (bs : Int) = (m : Int) by omega]; exact IntWalk.i64_in _ (by omega)
            have HMM := Lib.hid hm
            by_cases hen : e ≤ n
            · have u1 : Up (seg g a m) := by have := HB.out.fst (by omega); rwa [Nat.min_eq_left (by omega), ← hm] at this
              have u2 : Up (seg g m e) := by have := HB.out.next.fst (by omega); rwa [← hm, Nat.min_eq_left (by have := HE.out; omega), show m + bs = e by have := HE.out; omega] at this
              have hC := Lib.hid (HM.out _ _ HS.out.dat a m e (by omega) (by have := HE.out; omega) hen u1 u2)
              have w4 : IntKind.i64.wrap ((e : Int) + (s : Int)) = (e : Int) + (s : Int) := IntWalk.i64_in _ (by omega)
              have HEe := Lib.hid he
              clear he hm u1 u2
              go_wp2_with (go_at_call 84; (with_reducible refine hC.out.mono ?_); rintro r w5 hm; obtain ⟨rfl, g2, s2, o2, u2⟩ := HS.out.step (by have := HEe.out; omega) hen hm; have HS2 := Lib.hid s2; have HO2 := Lib.hid o2; have HU2 := Lib.hid u2; clear hm s2 o2 u2)
              have he := HEe.out
              exact ⟨⟨q + 1, e, e + s, g2, rfl, by go_num, by rw [he, HA.out, Nat.succ_mul], rfl, hen, HS2.out, HDn.out.more HA.out (fun x hx => HO2.out x (.inl hx)) (by rw [← he]; exact HU2.out), by
                have h2 := HB.out.next.next
                rw [show a + bs + bs = e by have := HE.out; omega] at h2
                exact h2.congr fun x hx _ => HO2.out x (.inr hx)⟩, by simp [intOf]; omega⟩
            · by_cases hmn : m < n
              · have u1 : Up (seg g a m) := by have := HB.out.fst (by omega); rwa [Nat.min_eq_left (by omega), ← hm] at this
                have u2 : Up (seg g m n) := by have := HB.out.next.fst (by omega); rwa [← hm, Nat.min_eq_right (by have := HE.out; omega)] at this
                have hC := Lib.hid (HM.out _ _ HS.out.dat a m n (by omega) hmn (Nat.le_refl _) u1 u2)
                have HEe := Lib.hid he
                clear he hm u1 u2
                go_wp2_with (go_at_call 84; (with_reducible refine hC.out.mono ?_); rintro r w5 hm; obtain ⟨rfl, g2, s2, o2, u2⟩ := HS.out.step han (Nat.le_refl _) hm; have HS2 := Lib.hid s2; have HO2 := Lib.hid o2; have HU2 := Lib.hid u2; clear hm s2 o2 u2)
                have he := HEe.out
                have fin : Bl g2 s 0 n := by
                  have hd : Dn g2 s q := fun k hk => by
                    have ha := HA.out
                    have h4 : (k + 1) * s ≤ q * s := Nat.mul_le_mul_right s hk
                    rw [Nat.succ_mul] at h4
                    rw [seg_congr (g := g) fun i _ hi => HO2.out i (.inl (by omega))]
                    exact HDn.out k hk
                  exact hd.all HA.out han (by omega) fun _ => HU2.out
                exact ⟨⟨s, g2, rfl, by omega, hs1, HS2.out, fin⟩, by simp [intOf]; omega⟩
              · have fin : Bl g s 0 n := HDn.out.all HA.out han (by omega) fun h1 => by
                  have := HB.out.fst h1; rwa [Nat.min_eq_right (by omega)] at this
                have HF := Lib.hid fin
                clear fin he hm
                go_wp2
                exact ⟨⟨s, g, rfl, by omega, hs1, HS.out, HF.out⟩, by simp [intOf]; omega⟩
        · go_wp2
          refine bodyPost_end (results_none rfl _ _ _) rfl ⟨g, ⟨rfl, HS.out.dat, HS.out.grown⟩, ⟨HS.out.sta.len, ?_, HS.out.sta.same⟩⟩
          rcases Nat.eq_zero_or_pos n with rfl | h0
          · rw [seg_none g (Nat.le_refl _)]; exact List.Pairwise.nil
          · have := HB.out.fst h0
            rwa [Nat.min_eq_right (by omega)] at this
theorem sortStable_any {w : World} {b o c n : Nat} {f : Nat → Pe} (h : Dat w b o f n) (hn : n ≤ 1000) :
    Calls Try.prog 62 #[.slice (some ⟨b, o, none⟩) n c, cmpF] w fun r w' => ∃ g, Does w b o n g r w' ∧ SO (seg f 0 n) (seg g 0 n) := by
  have HC := Lib.hid (stable_any (c := c) h hn)
  clear h
  go_enter Try.func62, Try.ntmps62
  go_wp2_with (go_at_call 78; (with_reducible refine HC.out.mono ?_); rintro r w2 ⟨g, ⟨rfl, hD, hG⟩, hS⟩)
  exact bodyPost_end (results_none rfl _ _ _) rfl ⟨g, ⟨rfl, hD, hG⟩, hS⟩
end Go.Proofs.Ytkcljbolopephaa
