/- What the document's reader reads: items, next. -/
import Derived.Test.YtkicndengkcojaaRecGet
import Derived.Test.YtkicndengkcojaaRecFind
import Derived.Test.YtkicndengkcojaaPkC
namespace Go.Proofs.Ytkicndengkcojaa
set_option maxRecDepth 100000
open Go Go.RowKit Go.Sort

theorem drop_lt {b : List Nat} (h : ∀ x ∈ b, x < 256) (p : Nat) : ∀ x ∈ b.drop p, x < 256 := fun x hx => h x (List.mem_of_mem_drop hx)
theorem rnum_ok {b : List Nat} {p v q : Nat} (g : Nat) (hb : ∀ x ∈ b, x < 256) (hz : b.length ≤ 1000000) (hx : rdN b p = .ok (v, q)) : Gets 88 g (b.drop p) (.tuple #[.int .u64 (v : Int), .int .i64 0]) (b.drop q) := by
  unfold rdN at hx
  split at hx
  · rename_i hc
    simp only [Except.ok.injEq, Prod.mk.injEq] at hx
    obtain ⟨rfl, rfl⟩ := hx
    have h := refNumM_any g (b.drop p) (drop_lt hb p) (by rw [List.length_drop]; omega)
    rw [hc, List.drop_drop] at h
    exact h
  · cases hx
theorem rnum_no {b : List Nat} {p e : Nat} (g : Nat) (hb : ∀ x ∈ b, x < 256) (hz : b.length ≤ 1000000) (hx : rdN b p = .error e) : e ≠ 0 ∧ ∃ (v : Nat) (m : List Nat), Gets 88 g (b.drop p) (.tuple #[.int .u64 (v : Int), .int .i64 (e : Int)]) m := by
  unfold rdN at hx
  split at hx
  · cases hx
  · rename_i hc
    simp only [Except.error.injEq] at hx
    subst hx
    exact ⟨hc, _, _, refNumM_any g (b.drop p) (drop_lt hb p) (by rw [List.length_drop]; omega)⟩
theorem rtxt_ok {b : List Nat} {p q : Nat} {v : List Nat} (g : Nat) (hb : ∀ x ∈ b, x < 256) (hz : b.length ≤ 1000000) (hx : rdT b p = .ok (v, q)) : Gets 108 g (b.drop p) (.tuple #[.string (txt v), .int .i64 0]) (b.drop q) := by
  unfold rdT at hx
  split at hx
  · rename_i hc
    simp only [Except.ok.injEq, Prod.mk.injEq] at hx
    obtain ⟨rfl, rfl⟩ := hx
    have h := refTxtM_any g (b.drop p) (drop_lt hb p) (by rw [List.length_drop]; omega)
    rw [hc, List.drop_drop] at h
    exact h
  · cases hx
theorem rtxt_no {b : List Nat} {p e : Nat} (g : Nat) (hb : ∀ x ∈ b, x < 256) (hz : b.length ≤ 1000000) (hx : rdT b p = .error e) : e ≠ 0 ∧ ∃ (v m : List Nat), Gets 108 g (b.drop p) (.tuple #[.string (txt v), .int .i64 (e : Int)]) m := by
  unfold rdT at hx
  split at hx
  · cases hx
  · rename_i hc
    simp only [Except.error.injEq] at hx
    subst hx
    exact ⟨hc, _, _, refTxtM_any g (b.drop p) (drop_lt hb p) (by rw [List.length_drop]; omega)⟩
theorem rlab_ok {b : List Nat} {p n c q : Nat} (g : Nat) (hb : ∀ x ∈ b, x < 256) (hz : b.length ≤ 1000000) (hx : rdL b p = .ok ((n, c), q)) : Gets 109 g (b.drop p) (.tuple #[.agg (labc (n : Int) c), .int .i64 0]) (b.drop q) := by
  unfold rdL at hx
  split at hx
  · rename_i hc
    simp only [Except.ok.injEq, Prod.mk.injEq] at hx
    obtain ⟨⟨rfl, rfl⟩, rfl⟩ := hx
    have h := refLabM_any g (b.drop p) (drop_lt hb p) (by rw [List.length_drop]; omega)
    rw [hc, List.drop_drop] at h
    exact h
  · cases hx
theorem rlab_no {b : List Nat} {p e : Nat} (g : Nat) (hb : ∀ x ∈ b, x < 256) (hz : b.length ≤ 1000000) (hx : rdL b p = .error e) : e ≠ 0 ∧ Gets 109 g (b.drop p) (.tuple #[.agg (labc 0 0), .int .i64 (e : Int)]) (b.drop p) := by
  unfold rdL at hx
  split at hx
  · cases hx
  · rename_i hc
    simp only [Except.error.injEq] at hx
    subst hx
    have h := refLabM_any g (b.drop p) (drop_lt hb p) (by rw [List.length_drop]; omega)
    rcases rLab_code (b.drop p) with h' | ⟨h', h1, h2, h3⟩ | ⟨h', h1, h2, h3⟩
    · exact absurd h' hc
    · rw [h1, h2, h3] at h; exact ⟨hc, h⟩
    · rw [h1, h2, h3] at h; exact ⟨hc, h⟩
structure RItems (g : Nat) (b : List Nat) (w : World) (X : Except Nat (List It × Nat)) (e : Ending) (w' : World) : Prop where
  ok : ∀ L q, X = .ok (L, q) → ∃ v, e = .returned (.tuple #[v, .int .i64 0]) ∧ Told w' v L ∧ Sr w' g (b.drop q)
  no : ∀ n : Nat, X = .error n → n ≠ 0 ∧ e = .returned (.tuple #[.slice none 0 0, .int .i64 (n : Int)])
  keep : Keep w w' g g
theorem ritems_no {g : Nat} {b : List Nat} {w w' : World} {X : Except Nat (List It × Nat)} {n : Nat} (hX : X = .error n) (hn : n ≠ 0) (hk : Keep w w' g g) : RItems g b w X (.returned (.tuple #[.slice none 0 0, .int .i64 (n : Int)])) w' :=
  ⟨fun L q hx => (by rw [hX] at hx; cases hx), fun m hm => (by rw [hX] at hm; cases hm; exact ⟨hn, rfl⟩), hk⟩
theorem Sr.belowB {w w' : World} {g B : Nat} {l : List Nat} (k : Sr w g l) (hb : Below B w w') (hg : g < B) : Sr w' g l := Blk.below k hb hg

set_option maxHeartbeats 4000000 in
theorem refitems_any {w : World} {g : Nat} {b : List Nat} {p : Nat} (k0 : Sr w g (b.drop p)) (hb : ∀ x ∈ b, x < 256) (hz : b.length ≤ 1000000) :
    Calls Try.prog 89 #[.pointer (some ⟨g, 0, none⟩)] w (RItems g b w (rdIs b p)) := by
  have hg0 := k0.lt
  cases hn : rdN b p with
  | error e =>
    have HX : Hid (rdIs b p = .error e) := by unfold Hid rdIs; rw [hn]
    obtain ⟨he, v, m, hC⟩ := rnum_no g hb hz hn
    have HC := Lib.hid (hC w k0)
    have hd : ((e : Int) != 0) = true := by simp; omega
    have HE := Lib.hid he
    clear hn k0 hC he
    generalize rdIs b p = X at *
    go_enter Try.func89, Try.ntmps89
    go_wp2_with (go_at_call 88; (with_reducible refine HC.out.mono ?_); rintro e1 w1 ⟨rfl, hs1, hk1⟩)
    go_ret2
    exact ritems_no HX.out HE.out hk1
  | ok r =>
    obtain ⟨n, p1⟩ := r
    have HC := Lib.hid (rnum_ok g hb hz hn w k0)
    by_cases h16 : 16 < n
    · have HX : Hid (rdIs b p = .error 3) := by unfold Hid rdIs; rw [hn]; simp only [if_pos h16]
      have hd : decide (16 < (n : Int)) = true := decide_eq_true (by omega)
      clear hn k0 h16
      generalize rdIs b p = X at *
      go_enter Try.func89, Try.ntmps89
      go_wp2_with (go_at_call 88; (with_reducible refine HC.out.mono ?_); rintro e1 w1 ⟨rfl, hs1, hk1⟩)
      go_ret2
      exact ritems_no HX.out (by decide) hk1
    · have hX : rdIs b p = rdI b n [] p1 := by unfold rdIs; rw [hn]; simp only [if_neg h16]
      have hd : decide (16 < (n : Int)) = false := decide_eq_false (by omega)
      have hcv : IntKind.i64.wrap (n : Int) = (n : Int) := IntWalk.i64_in _ (by omega)
      have HX := Lib.hid hX
      clear hn k0 hX
      generalize rdIs b p = X at *
      go_enter Try.func89, Try.ntmps89
      go_upto_region 6 with (go_at_call 88; (with_reducible refine HC.out.mono ?_); rintro e1 w1 ⟨rfl, hs1, hk1⟩)
      have HR := Lib.hid hs1
      have HK := Lib.hid hk1
      clear hs1 hk1 HC hd
      go_wp2
      go_loopw [6, 7, 8, 9, 10, 11] (fun v i _ _ _ _ wr => ∃ (q : Nat) (L : List It) (p2 : Nat), q ≤ n ∧ i = .int .i64 (q : Int) ∧ L.length = q ∧ X = rdI b (n - q) L p2 ∧ Sr wr g (b.drop p2) ∧ Keep w wr g g ∧ wr.ownsRow w.heap.size 53 2 v q (flat L)) (fun _ i _ _ _ _ _ => n - (intOf i).toNat)
      case atStart => exact ⟨0, [], p1, by omega, rfl, rfl, HX.out, HR.out, HK.out, World.ownsRow_nil _ _ _ _⟩
      case round =>
        obtain ⟨q, L, p2, hq, rfl, hLq, hX, hR, hK, hO⟩ := hrel
        clear HX HR HK
        have HX := Lib.hid hX
        have HR := Lib.hid hR
        have HK := Lib.hid hK
        have HO := Lib.hid hO
        have HL := Lib.hid hLq
        clear hX hR hK hO hLq
        by_cases hlt : q < n
        · obtain ⟨m, hm⟩ : ∃ m, n - q = m + 1 := ⟨n - q - 1, by omega⟩
          have HX2 : Hid (X = rdI b (m + 1) L p2) := by have := HX.out; rwa [hm] at this
          have HMM : Hid (n - (q + 1) = m) := by unfold Hid; omega
          clear HX hm
          cases hn2 : rdN b p2 with
          | error e =>
            have HXE : Hid (X = .error e) := by have := HX2.out; rw [rdI, hn2] at this; exact this
            obtain ⟨he, v, m2, hC⟩ := rnum_no g hb hz hn2
            have HC := Lib.hid (hC _ HR.out)
            have hd : ((e : Int) != 0) = true := by simp; omega
            have HE := Lib.hid he
            clear hn2 hC he
            go_wp2_with (go_at_call 88; (with_reducible refine HC.out.mono ?_); rintro e1 w1 ⟨rfl, hs1, hk1⟩)
            go_ret2
            exact ritems_no HXE.out HE.out (HK.out.trans hk1)
          | ok r =>
            obtain ⟨key, p3⟩ := r
            have HC := Lib.hid (rnum_ok g hb hz hn2 _ HR.out)
            have HXK : Hid (X = if lastGe L key then .error 3 else match rdT b p3 with
              | .error e => .error e
              | .ok (t, q2) => if 64 < t.length then .error 3 else rdI b m (L ++ [(key, txt t)]) q2) := by have := HX2.out; rw [rdI, hn2] at this; exact this
            clear HX2 hn2
            go_upto_region 11 with (go_at_call 88; (with_reducible refine HC.out.mono ?_); rintro e1 w1 ⟨rfl, hr1, hk1⟩)
            have HO1 := Lib.hid (own_keepG HO.out hk1 hg0)
            have HR1 := Lib.hid hr1
            have HK1 := Lib.hid (HK.out.trans hk1)
            clear HC HR HK HO hr1 hk1
            obtain ⟨al, cl, rfl⟩ := own_formA HO1.out
            have HQ : Hid ((q = 0 ∧ lastGe L key = false) ∨ ∃ i x, q = i + 1 ∧ L[i]? = some x ∧ lastGe L key = decide (key ≤ x.1)) := by
              cases q with
              | zero => exact .inl ⟨rfl, by rw [List.eq_nil_of_length_eq_zero HL.out]; rfl⟩
              | succ i =>
                obtain ⟨x, hx⟩ : ∃ x, L[i]? = some x := ⟨_, List.getElem?_eq_getElem (by have := HL.out; omega)⟩
                exact .inr ⟨i, x, rfl, hx, lastGe_at hx HL.out key⟩
            have hTL : Told w1 (.slice al q cl) L := by have := HL.out; subst this; exact told_own HO1.out
            have HTL := Lib.hid hTL
            clear hTL
            by_cases hge : lastGe L key = true
            · have HXE : Hid (X = .error 3) := by have := HXK.out; rwa [if_pos hge] at this
              obtain ⟨i, x, hi, hx, hl⟩ : ∃ i x, q = i + 1 ∧ L[i]? = some x ∧ lastGe L key = decide (key ≤ x.1) := by
                rcases HQ.out with ⟨_, h⟩ | h
                · rw [hge] at h; cases h
                · exact h
              obtain ⟨b1, o1, rfl, x1, _, _⟩ := told_at HTL.out hx
              rw [hge] at hl
              have hd1 : decide (key ≤ x.1) = true := hl.symm
              have hw1 : IntKind.i64.wrap ((q : Int) - 1) = (i : Int) := by rw [show (q : Int) - 1 = i by omega]; exact IntWalk.i64_in _ (by omega)
              have hb1 : (i : Int) < (q : Int) := by omega
              have hp0 : decide (0 < q) = true := decide_eq_true (by omega)
              clear hx hl hge HXK HQ hi
              go_wp2
              go_ret2
              exact ritems_no HXE.out (by decide) HK1.out
            · have HXK2 : Hid (X = match rdT b p3 with
                | .error e => .error e
                | .ok (t, q2) => if 64 < t.length then .error 3 else rdI b m (L ++ [(key, txt t)]) q2) := by have := HXK.out; rwa [if_neg hge] at this
              have hgf : lastGe L key = false := by simpa using hge
              clear HXK hge
              have HW : Hid ((decide (0 < q) = false) ∨ ∃ i b1 o1 x, al = some ⟨b1, o1, none⟩ ∧ w1.cell? ⟨b1, o1 + i * 2, none⟩ = some (.int .u64 ((x : It).1 : Int)) ∧ decide (key ≤ x.1) = false ∧ IntKind.i64.wrap ((q : Int) - 1) = (i : Int) ∧ (i : Int) < (q : Int) ∧ decide (0 < q) = true) := by
                rcases HQ.out with ⟨h0, _⟩ | ⟨i, x, hi, hx, hl⟩
                · exact .inl (decide_eq_false (by omega))
                · obtain ⟨b1, o1, ha, x1, _, _⟩ := told_at HTL.out hx
                  rw [hgf] at hl
                  exact .inr ⟨i, b1, o1, x, ha, x1, hl.symm, by rw [show (q : Int) - 1 = i by omega]; exact IntWalk.i64_in _ (by omega), by omega, decide_eq_true (by omega)⟩
              clear HQ HTL hgf
              cases hn3 : rdT b p3 with
              | error e =>
                have HXE : Hid (X = .error e) := by have := HXK2.out; rw [hn3] at this; exact this
                obtain ⟨he, v, m2, hC⟩ := rtxt_no g hb hz hn3
                have HC := Lib.hid (hC _ HR1.out)
                have hd : ((e : Int) != 0) = true := by simp; omega
                have HE := Lib.hid he
                clear hn3 hC he HXK2
                rcases HW.out with h0 | ⟨i, b1, o1, x, rfl, x1, hd1, hw1, hb1, hp0⟩
                all_goals
                  clear HW
                  go_wp2_with (go_at_call 108; (with_reducible refine HC.out.mono ?_); rintro e1 w2 ⟨rfl, hs2, hk2⟩)
                  go_ret2
                  exact ritems_no HXE.out HE.out (HK1.out.trans hk2)
              | ok r =>
                obtain ⟨t, p4⟩ := r
                have HC := Lib.hid (rtxt_ok g hb hz hn3 _ HR1.out)
                have HXT : Hid (X = if 64 < t.length then .error 3 else rdI b m (L ++ [(key, txt t)]) p4) := by have := HXK2.out; rw [hn3] at this; exact this
                have hzt : (txt t).size = t.length := txt_size t
                clear hn3 HXK2
                by_cases h64 : 64 < t.length
                · have HXE : Hid (X = .error 3) := by have := HXT.out; rwa [if_pos h64] at this
                  have hd64 : decide (64 < ((txt t).size : Int)) = true := decide_eq_true (by omega)
                  clear HXT hzt h64
                  generalize txt t = str at *
                  rcases HW.out with h0 | ⟨i, b1, o1, x, rfl, x1, hd1, hw1, hb1, hp0⟩
                  all_goals
                    clear HW
                    go_wp2_with (go_at_call 108; (with_reducible refine HC.out.mono ?_); rintro e1 w2 ⟨rfl, hs2, hk2⟩)
                    go_ret2
                    exact ritems_no HXE.out (by decide) (HK1.out.trans hk2)
                · have HXE : Hid (X = rdI b m (L ++ [(key, txt t)]) p4) := by have := HXT.out; rwa [if_neg h64] at this
                  have hd64 : decide (64 < ((txt t).size : Int)) = false := decide_eq_false (by omega)
                  have hwu : IntKind.i64.wrap ((q : Int) + 1) = (q : Int) + 1 := IntWalk.i64_in _ (by omega)
                  clear HXT hzt h64
                  generalize txt t = str at *
                  rcases HW.out with h0 | ⟨i, b1, o1, x, rfl, x1, hd1, hw1, hb1, hp0⟩
                  all_goals
                    clear HW
                    go_upto_region 16 with (go_at_call 108; (with_reducible refine HC.out.mono ?_); rintro e1 w2 ⟨rfl, hr2, hk2⟩)
                    have HO2 := Lib.hid (own_keepG HO1.out hk2 hg0)
                    have HR2 := Lib.hid hr2
                    have HK2 := Lib.hid (HK1.out.trans hk2)
                    have hs2 := HK2.out.size
                    clear hr2 hk2 HC HR1 HK1 HO1
                    go_wp2_with (at_builtin; refine wpList_snocA rfl _ _ rfl w.heap.size _ L q rfl HO2.out HL.out.symm key str rfl (by omega) (Below.refl _ _) hs2 ?_; intro v' w' h1 h2 h3; have H1 := Lib.hid h1; have H2 := Lib.hid h2; clear h1 h2 h3)
                    exact ⟨⟨q + 1, L ++ [(key, str)], p4, by omega, by go_num, by rw [List.length_append, HL.out]; rfl, by rw [HMM.out]; exact HXE.out, HR2.out.belowB H2.out hg0, HK2.out.thenB H2.out, H1.out⟩, by simp [intOf]; omega⟩
        · obtain rfl : n = q := by omega
          have HXE : Hid (X = .ok (L, p2)) := by have := HX.out; rw [Nat.sub_self, rdI] at this; exact this
          clear HX
          go_wp2
          go_ret2
          refine ⟨fun L1 q1 hx => ?_, fun m hm => (by rw [HXE.out] at hm; cases hm), HK.out⟩
          rw [HXE.out] at hx
          simp only [Except.ok.injEq, Prod.mk.injEq] at hx
          obtain ⟨rfl, rfl⟩ := hx
          exact ⟨_, rfl, told_own (by rw [HL.out]; exact HO.out), HR.out⟩
end Go.Proofs.Ytkicndengkcojaa
