/- What bytes are read as: the parts of a record. -/
import Derived.Test.YtkicndengkcojaaRecPut2
import Derived.Test.YtkicndengkcojaaRecThose
import Derived.Test.YtkicndengkcojaaPkC
namespace Go.Proofs.Ytkicndengkcojaa
set_option maxRecDepth 100000
open Go Go.RowKit Go.Sort

/-! each call of a reader, as it went or as it failed -/
theorem num_ok {w : World} {g h c : Nat} {s : ByteArray} {p : Nat} (k : Rd w g h c s p) (hs : s.size ≤ 1000000) {v : Nat} {q : Nat} (hx : rdN (bytesN s) p = .ok (v, q)) :
    Calls Try.prog 85 #[.pointer (some ⟨g, 0, none⟩)] w fun r w' => r = .returned (.tuple #[.int .u64 (v : Int), .int .i64 0]) ∧ Rd w' g h c s q ∧ Keep w w' g g := by
  unfold rdN at hx
  split at hx
  · rename_i hc
    simp only [Except.ok.injEq, Prod.mk.injEq] at hx
    obtain ⟨rfl, rfl⟩ := hx
    refine (mN_any k hs).mono ?_
    rintro r w' ⟨he, h2, h3⟩
    rw [show (rNum (rest s p)).2.2 = 0 from hc] at he
    exact ⟨he, h2, h3⟩
  · cases hx
theorem num_no {w : World} {g h c : Nat} {s : ByteArray} {p : Nat} (k : Rd w g h c s p) (hs : s.size ≤ 1000000) {e : Nat} (hx : rdN (bytesN s) p = .error e) :
    e ≠ 0 ∧ ∃ v : Nat, Calls Try.prog 85 #[.pointer (some ⟨g, 0, none⟩)] w fun r w' => r = .returned (.tuple #[.int .u64 (v : Int), .int .i64 (e : Int)]) ∧ Keep w w' g g := by
  unfold rdN at hx
  split at hx
  · cases hx
  · rename_i hc
    simp only [Except.error.injEq] at hx
    subst hx
    exact ⟨hc, _, (mN_any k hs).mono fun r w' h => ⟨h.1, h.2.2⟩⟩
theorem txt_ok {w : World} {g h c : Nat} {s : ByteArray} {p : Nat} (k : Rd w g h c s p) (hs : s.size ≤ 1000000) {v : List Nat} {q : Nat} (hx : rdT (bytesN s) p = .ok (v, q)) :
    Calls Try.prog 105 #[.pointer (some ⟨g, 0, none⟩)] w fun r w' => r = .returned (.tuple #[.string (txt v), .int .i64 0]) ∧ Rd w' g h c s q ∧ Keep w w' g g := by
  unfold rdT at hx
  split at hx
  · rename_i hc
    simp only [Except.ok.injEq, Prod.mk.injEq] at hx
    obtain ⟨rfl, rfl⟩ := hx
    refine (mT_any k hs).mono ?_
    rintro r w' ⟨he, h2, h3⟩
    rw [show (rTxt (rest s p)).2.2 = 0 from hc] at he
    exact ⟨he, h2, h3⟩
  · cases hx
theorem txt_no {w : World} {g h c : Nat} {s : ByteArray} {p : Nat} (k : Rd w g h c s p) (hs : s.size ≤ 1000000) {e : Nat} (hx : rdT (bytesN s) p = .error e) :
    e ≠ 0 ∧ ∃ v : List Nat, Calls Try.prog 105 #[.pointer (some ⟨g, 0, none⟩)] w fun r w' => r = .returned (.tuple #[.string (txt v), .int .i64 (e : Int)]) ∧ Keep w w' g g := by
  unfold rdT at hx
  split at hx
  · cases hx
  · rename_i hc
    simp only [Except.error.injEq] at hx
    subst hx
    exact ⟨hc, _, (mT_any k hs).mono fun r w' h => ⟨h.1, h.2.2⟩⟩
theorem lab_ok {w : World} {g h c : Nat} {s : ByteArray} {p : Nat} (k : Rd w g h c s p) (hs : s.size ≤ 1000000) {n b q : Nat} (hx : rdL (bytesN s) p = .ok ((n, b), q)) :
    Calls Try.prog 106 #[.pointer (some ⟨g, 0, none⟩)] w fun r w' => r = .returned (.tuple #[.agg (labc (n : Int) b), .int .i64 0]) ∧ Rd w' g h c s q ∧ Keep w w' g g := by
  unfold rdL at hx
  split at hx
  · rename_i hc
    simp only [Except.ok.injEq, Prod.mk.injEq] at hx
    obtain ⟨⟨rfl, rfl⟩, rfl⟩ := hx
    refine (mL_any k hs).mono ?_
    rintro r w' ⟨he, h2, h3⟩
    rw [show (rLab (rest s p)).2.2.2 = 0 from hc] at he
    exact ⟨he, h2, h3⟩
  · cases hx
theorem lab_no {w : World} {g h c : Nat} {s : ByteArray} {p : Nat} (k : Rd w g h c s p) (hs : s.size ≤ 1000000) {e : Nat} (hx : rdL (bytesN s) p = .error e) :
    e ≠ 0 ∧ ∃ n b : Nat, Calls Try.prog 106 #[.pointer (some ⟨g, 0, none⟩)] w fun r w' => r = .returned (.tuple #[.agg (labc (n : Int) b), .int .i64 (e : Int)]) ∧ Keep w w' g g := by
  unfold rdL at hx
  split at hx
  · cases hx
  · rename_i hc
    simp only [Except.error.injEq] at hx
    subst hx
    exact ⟨hc, _, _, (mL_any k hs).mono fun r w' h => ⟨h.1, h.2.2⟩⟩
theorem mustN_ok (v : Nat) (w : World) : Calls Try.prog 84 #[.int .u64 (v : Int), .int .i64 0] w fun e w' => e = .returned (.int .u64 (v : Int)) ∧ w = w' := by
  go_enter Try.func84, Try.ntmps84
  go_wp2_with (go_at_call 34; (with_reducible refine (pass_0 _).mono ?_); rintro e w1 ⟨rfl, rfl⟩)
  go_ret
  exact ⟨rfl, rfl⟩
theorem mustN_no (v n : Nat) (hn : n ≠ 0) (w : World) : Calls Try.prog 84 #[.int .u64 (v : Int), .int .i64 (n : Int)] w fun e w' => e = Pan n ∧ w = w' := by
  have HR := Lib.hid (fun w => refuse_yes n w)
  have hd : ((n : Int) != 0) = true := by simp; omega
  clear hn
  go_enter Try.func84, Try.ntmps84
  go_wp2_with (go_at_call 34; (with_reducible refine (HR.out _).mono ?_); rintro e w1 ⟨he, rfl⟩; rw [pan_eq] at he; subst he)
  exact ⟨rfl, rfl, rfl⟩

/-! a reader's blocks lie ahead of a call's own -/
theorem Rd.belowB {w w' : World} {g h c B : Nat} {s : ByteArray} {p : Nat} (k : Rd w g h c s p) (hb : Below B w w') (hg : g < B) : Rd w' g h c s p :=
  ⟨k.blk.below hb hg, (by obtain ⟨C, e, fr, h3, h4⟩ := k.src; exact ⟨C, e, fr, (hb.block h (Nat.lt_trans k.ne hg)).trans h3, h4⟩), k.le, k.cap, k.ne⟩
theorem Keep.thenB {w w1 w2 : World} {g : Nat} (h : Keep w w1 g g) (k : Below w.heap.size w1 w2) : Keep w w2 g g :=
  ⟨k.os.trans h.os, k.tape.trans h.tape, k.output.trans h.output, Nat.le_trans h.size k.size, fun i hi h1 h2 => (k.block i hi).trans (h.block i hi h1 h2)⟩
theorem own_keepG {w1 w2 : World} {B e size n g : Nat} {v : Value} {xs : List Value} (h : w1.ownsRow B e size v n xs) (hk : Keep w1 w2 g g) (hg : g < B) : w2.ownsRow B e size v n xs :=
  own_keep h fun k hk' => hk.block k (h.lt k hk').2 (by have := (h.lt k hk').1; omega) (by have := (h.lt k hk').1; omega)
theorem own_formA {w : World} {B e : Nat} {v : Value} {n : Nat} {xs : List Value} (h : w.ownsRow B e 2 v n xs) : ∃ a c, v = .slice a n c := by
  rcases own_shape h with ⟨rfl, rfl⟩ | ⟨b, c, rfl, _⟩ <;> exact ⟨_, _, rfl⟩

/-! the items -/
/-- what reading items ends with -/
structure ItemsPost (w : World) (g h c : Nat) (s : ByteArray) (X : Except Nat (List It × Nat)) (e : Ending) (w' : World) : Prop where
  ok : ∀ L q, X = .ok (L, q) → ∃ v, e = .returned v ∧ Told w' v L ∧ Rd w' g h c s q
  no : ∀ n, X = .error n → e = Pan n
  keep : Keep w w' g g
theorem items_pan {w w' : World} {g h c : Nat} {s : ByteArray} {X : Except Nat (List It × Nat)} {n : Nat} (hX : X = .error n) (hk : Keep w w' g g) : ItemsPost w g h c s X (Pan n) w' :=
  ⟨fun L q hx => (by rw [hX] at hx; cases hx), fun m hm => (by rw [hX] at hm; cases hm; rfl), hk⟩
theorem lastGe_nil (v : Nat) : lastGe [] v = false := rfl
theorem lastGe_at {L : List It} {i : Nat} {x : It} (hx : L[i]? = some x) (hi : L.length = i + 1) (v : Nat) : lastGe L v = decide (v ≤ x.1) := by
  unfold lastGe
  rw [List.getLast?_eq_getElem?, hi, Nat.add_sub_cancel, hx]

set_option maxHeartbeats 4000000 in
theorem getItems_any {w : World} {g h c : Nat} {s : ByteArray} {p : Nat} (k0 : Rd w g h c s p) (hs : s.size ≤ 1000000) :
    Calls Try.prog 86 #[.pointer (some ⟨g, 0, none⟩)] w (ItemsPost w g h c s (rdIs (bytesN s) p)) := by
  have hg0 := k0.lt
  cases hn : rdN (bytesN s) p with
  | error e =>
    have hX : rdIs (bytesN s) p = .error e := by unfold rdIs; rw [hn]
    obtain ⟨he, v, hC⟩ := num_no k0 hs hn
    have HC := Lib.hid hC
    have HM := Lib.hid (fun w => mustN_no v e he w)
    have HX := Lib.hid hX
    clear hn k0 hC he hX
    generalize rdIs (bytesN s) p = X at *
    go_enter Try.func86, Try.ntmps86
    go_wp2_with (first
      | (go_at_call 85; (with_reducible refine HC.out.mono ?_); rintro e1 w1 ⟨rfl, hk1⟩)
      | (go_at_call 84; (with_reducible refine (HM.out _).mono ?_); rintro e1 w2 ⟨he, rfl⟩; rw [pan_eq] at he; subst he))
    exact ⟨rfl, items_pan HX.out (by assumption)⟩
  | ok r =>
    obtain ⟨n, p1⟩ := r
    have HC := Lib.hid (num_ok k0 hs hn)
    have HM := Lib.hid (mustN_ok n)
    by_cases h16 : 16 < n
    · have hX : rdIs (bytesN s) p = .error 3 := by unfold rdIs; rw [hn]; simp only [if_pos h16]
      have hd : decide (16 < (n : Int)) = true := decide_eq_true (by omega)
      have HX := Lib.hid hX
      clear hn k0 hX h16
      generalize rdIs (bytesN s) p = X at *
      go_enter Try.func86, Try.ntmps86
      go_wp2_with (first
        | (go_at_call 85; (with_reducible refine HC.out.mono ?_); rintro e1 w1 ⟨rfl, hr1, hk1⟩)
        | (go_at_call 84; (with_reducible refine (HM.out _).mono ?_); rintro e1 w2 ⟨rfl, rfl⟩)
        | (go_at_call 34; (with_reducible refine (refuse_3 _).mono ?_); rintro e1 w2 ⟨he, rfl⟩; rw [pan_eq] at he; subst he))
      exact ⟨rfl, items_pan HX.out (by assumption)⟩
    · have hX : rdIs (bytesN s) p = rdI (bytesN s) n [] p1 := by unfold rdIs; rw [hn]; simp only [if_neg h16]
      have hd : decide (16 < (n : Int)) = false := decide_eq_false (by omega)
      have HX := Lib.hid hX
      clear hn k0 hX
      generalize rdIs (bytesN s) p = X at *
      go_enter Try.func86, Try.ntmps86
      go_upto_region 3 with (first
        | (go_at_call 85; (with_reducible refine HC.out.mono ?_); rintro e1 w1 ⟨rfl, hr1, hk1⟩)
        | (go_at_call 84; (with_reducible refine (HM.out _).mono ?_); rintro e1 w2 ⟨rfl, rfl⟩)
        | (go_at_call 34; (with_reducible refine (pass_3 _).mono ?_); rintro e1 w2 ⟨rfl, rfl⟩))
      have HR := Lib.hid hr1
      have HK := Lib.hid hk1
      clear hr1 hk1 HC HM hd
      go_wp2
      go_loopw [4, 5, 6, 16] (fun v _ _ i wr => ∃ (q : Nat) (L : List It) (p2 : Nat), q ≤ n ∧ i = .int .u64 (q : Int) ∧ L.length = q ∧ X = rdI (bytesN s) (n - q) L p2 ∧ Rd wr g h c s p2 ∧ Keep w wr g g ∧ wr.ownsRow w.heap.size 53 2 v q (flat L)) (fun _ _ _ i _ => n - (intOf i).toNat)
      case atStart => exact ⟨0, [], p1, by omega, rfl, rfl, HX.out, HR.out, HK.out, World.ownsRow_nil _ _ _ _⟩
      case round =>
        obtain ⟨q, L, p2, hq, rfl, hLq, hX, hR, hK, hO⟩ := hrel
        clear HX HR HK
        have HX := Lib.hid hX
        have HR := Lib.hid hR
        have HK := Lib.hid hK
        have HO := Lib.hid hO
        have HL := Lib.hid hLq
        clear hX hR hK hO hLq
        by_cases hlt : q < n
        · obtain ⟨m, hm⟩ : ∃ m, n - q = m + 1 := ⟨n - q - 1, by omega⟩
          have HX2 : Hid (X = rdI (bytesN s) (m + 1) L p2) := by have := HX.out; rwa [hm] at this
          have HMM : Hid (n - (q + 1) = m) := by unfold Hid; omega
          clear HX hm
          cases hn2 : rdN (bytesN s) p2 with
          | error e =>
            have HXE : Hid (X = .error e) := by have := HX2.out; rw [rdI, hn2] at this; exact this
            obtain ⟨he, v, hC⟩ := num_no HR.out hs hn2
            have HC := Lib.hid hC
            have HM := Lib.hid (fun w => mustN_no v e he w)
            clear hn2 hC he
            go_wp2_with (first
              | (go_at_call 85; (with_reducible refine HC.out.mono ?_); rintro e1 w1 ⟨rfl, hk1⟩)
              | (go_at_call 84; (with_reducible refine (HM.out _).mono ?_); rintro e1 w2 ⟨he, rfl⟩; rw [pan_eq] at he; subst he))
            exact ⟨rfl, items_pan HXE.out (HK.out.trans (by assumption))⟩
          | ok r =>
            obtain ⟨key, p3⟩ := r
            have HC := Lib.hid (num_ok HR.out hs hn2)
            have HM := Lib.hid (mustN_ok key)
            have HXK : Hid (X = if lastGe L key then .error 3 else match rdT (bytesN s) p3 with
              | .error e => .error e
              | .ok (t, q2) => if 64 < t.length then .error 3 else rdI (bytesN s) m (L ++ [(key, txt t)]) q2) := by have := HX2.out; rw [rdI, hn2] at this; exact this
            clear HX2 hn2
            go_upto_region 7 with (first
              | (go_at_call 85; (with_reducible refine HC.out.mono ?_); rintro e1 w1 ⟨rfl, hr1, hk1⟩)
              | (go_at_call 84; (with_reducible refine (HM.out _).mono ?_); rintro e1 w2 ⟨rfl, rfl⟩))
            have HO1 := Lib.hid (own_keepG HO.out hk1 hg0)
            have HR1 := Lib.hid hr1
            have HK1 := Lib.hid (HK.out.trans hk1)
            clear HC HM HR HK HO hr1 hk1
            obtain ⟨al, cl, rfl⟩ := own_formA HO1.out
-- is the key above the one ahead?
            have HQ : Hid ((q = 0 ∧ lastGe L key = false) ∨ ∃ i x, q = i + 1 ∧ L[i]? = some x ∧ lastGe L key = decide (key ≤ x.1)) := by
              cases q with
              | zero => exact .inl ⟨rfl, by rw [List.eq_nil_of_length_eq_zero HL.out]; rfl⟩
              | succ i =>
                obtain ⟨x, hx⟩ : ∃ x, L[i]? = some x := ⟨_, List.getElem?_eq_getElem (by have := HL.out; omega)⟩
                exact .inr ⟨i, x, rfl, hx, lastGe_at hx HL.out key⟩
            have hTL : Told w1 (.slice al q cl) L := by have := HL.out; subst this; exact told_own HO1.out
            have HTL := Lib.hid hTL
            clear hTL
            by_cases hge : lastGe L key = true
            · have HXE : Hid (X = .error 3) := by have := HXK.out; rwa [if_pos hge] at this
              obtain ⟨i, x, hi, hx, hl⟩ : ∃ i x, q = i + 1 ∧ L[i]? = some x ∧ lastGe L key = decide (key ≤ x.1) := by
                rcases HQ.out with ⟨_, h⟩ | h
                · rw [hge] at h; cases h
                · exact h
              obtain ⟨b1, o1, rfl, x1, _, _⟩ := told_at HTL.out hx
              rw [hge] at hl
              have hd1 : decide (key ≤ x.1) = true := hl.symm
              have hw1 : IntKind.i64.wrap ((q : Int) - 1) = (i : Int) := by rw [show (q : Int) - 1 = i by omega]; exact IntWalk.i64_in _ (by omega)
              have hb1 : (i : Int) < (q : Int) := by omega
              have hp0 : decide (0 < q) = true := decide_eq_true (by omega)
              clear hx hl hge HXK HQ hi
              go_wp2_with (go_at_call 34; (with_reducible refine (refuse_3 _).mono ?_); rintro e1 w2 ⟨he, rfl⟩; rw [pan_eq] at he; subst he)
              exact ⟨rfl, items_pan HXE.out HK1.out⟩
            · have HXK2 : Hid (X = match rdT (bytesN s) p3 with
                | .error e => .error e
                | .ok (t, q2) => if 64 < t.length then .error 3 else rdI (bytesN s) m (L ++ [(key, txt t)]) q2) := by have := HXK.out; rwa [if_neg hge] at this
              have hgf : lastGe L key = false := by simpa using hge
              clear HXK hge
              -- the guarded test, both ways to where the value is read
              have HW : Hid ((decide (0 < q) = false) ∨ ∃ i b1 o1 x, al = some ⟨b1, o1, none⟩ ∧ w1.cell? ⟨b1, o1 + i * 2, none⟩ = some (.int .u64 ((x : It).1 : Int)) ∧ decide (key ≤ x.1) = false ∧ IntKind.i64.wrap ((q : Int) - 1) = (i : Int) ∧ (i : Int) < (q : Int) ∧ decide (0 < q) = true) := by
                rcases HQ.out with ⟨h0, _⟩ | ⟨i, x, hi, hx, hl⟩
                · exact .inl (decide_eq_false (by omega))
                · obtain ⟨b1, o1, ha, x1, _, _⟩ := told_at HTL.out hx
                  rw [hgf] at hl
                  exact .inr ⟨i, b1, o1, x, ha, x1, hl.symm, by rw [show (q : Int) - 1 = i by omega]; exact IntWalk.i64_in _ (by omega), by omega, decide_eq_true (by omega)⟩
              clear HQ HTL hgf
              cases hn3 : rdT (bytesN s) p3 with
              | error e =>
                have HXE : Hid (X = .error e) := by have := HXK2.out; rw [hn3] at this; exact this
                obtain ⟨he, v, hC⟩ := txt_no HR1.out hs hn3
                have HC := Lib.hid hC
                have HM := Lib.hid (fun w => must_no (txt v) e he w)
                clear hn3 hC he HXK2
                rcases HW.out with h0 | ⟨i, b1, o1, x, rfl, x1, hd1, hw1, hb1, hp0⟩
                all_goals
                  clear HW
                  go_wp2_with (first
                    | (go_at_call 34; (with_reducible refine (pass_3 _).mono ?_); rintro e1 w2 ⟨rfl, rfl⟩)
                    | (go_at_call 105; (with_reducible refine HC.out.mono ?_); rintro e1 w2 ⟨rfl, hk2⟩)
                    | (go_at_call 79; (with_reducible refine (HM.out _).mono ?_); rintro e1 w2 ⟨he, rfl⟩; rw [pan_eq] at he; subst he))
                  exact ⟨rfl, items_pan HXE.out (HK1.out.trans (by assumption))⟩
              | ok r =>
                obtain ⟨t, p4⟩ := r
                have HC := Lib.hid (txt_ok HR1.out hs hn3)
                have HM := Lib.hid (must_ok (txt t))
                have HXT : Hid (X = if 64 < t.length then .error 3 else rdI (bytesN s) m (L ++ [(key, txt t)]) p4) := by have := HXK2.out; rw [hn3] at this; exact this
                have hz : (txt t).size = t.length := txt_size t
                clear hn3 HXK2
                by_cases h64 : 64 < t.length
                · have HXE : Hid (X = .error 3) := by have := HXT.out; rwa [if_pos h64] at this
                  have hd64 : decide (64 < ((txt t).size : Int)) = true := decide_eq_true (by omega)
                  clear HXT hz h64
                  generalize txt t = str at *
                  rcases HW.out with h0 | ⟨i, b1, o1, x, rfl, x1, hd1, hw1, hb1, hp0⟩
                  all_goals
                    clear HW
                    go_upto_region 9 with (first
                      | (go_at_call 34; (with_reducible refine (pass_3 _).mono ?_); rintro e1 w2 ⟨rfl, rfl⟩)
                      | (go_at_call 105; (with_reducible refine HC.out.mono ?_); rintro e1 w2 ⟨rfl, hr2, hk2⟩)
                      | (go_at_call 79; (with_reducible refine (HM.out _).mono ?_); rintro e1 w2 ⟨rfl, rfl⟩))
                    have HK2 := Lib.hid (HK1.out.trans hk2)
                    clear hk2
                    go_wp2_with (go_at_call 34; (with_reducible refine (refuse_3 _).mono ?_); rintro e1 w2 ⟨he, rfl⟩; rw [pan_eq] at he; subst he)
                    exact ⟨rfl, items_pan HXE.out HK2.out⟩
                · have HXE : Hid (X = rdI (bytesN s) m (L ++ [(key, txt t)]) p4) := by have := HXT.out; rwa [if_neg h64] at this
                  have hd64 : decide (64 < ((txt t).size : Int)) = false := decide_eq_false (by omega)
                  have hwu : IntKind.u64.wrap ((q : Int) + 1) = (q : Int) + 1 := IntWalk.u64_in _ (by omega)
                  clear HXT hz h64
                  generalize txt t = str at *
                  rcases HW.out with h0 | ⟨i, b1, o1, x, rfl, x1, hd1, hw1, hb1, hp0⟩
                  all_goals
                    clear HW
                    go_upto_region 9 with (first
                      | (go_at_call 34; (with_reducible refine (pass_3 _).mono ?_); rintro e1 w2 ⟨rfl, rfl⟩)
                      | (go_at_call 105; (with_reducible refine HC.out.mono ?_); rintro e1 w2 ⟨rfl, hr2, hk2⟩)
                      | (go_at_call 79; (with_reducible refine (HM.out _).mono ?_); rintro e1 w2 ⟨rfl, rfl⟩))
                    have HO2 := Lib.hid (own_keepG HO1.out hk2 hg0)
                    have HR2 := Lib.hid hr2
                    have HK2 := Lib.hid (HK1.out.trans hk2)
                    have hs2 := HK2.out.size
                    clear hr2 hk2 HC HM HR1 HK1 HO1
                    go_wp2_with (first
                      | (go_at_call 34; (with_reducible refine (pass_3 _).mono ?_); rintro e1 w3 ⟨rfl, rfl⟩)
                      | (at_builtin; refine wpList_snocA rfl _ _ rfl w.heap.size _ L q rfl HO2.out HL.out.symm key str rfl (by omega) (Below.refl _ _) hs2 ?_; intro v' w' h1 h2 h3; have H1 := Lib.hid h1; have H2 := Lib.hid h2; clear h1 h2 h3))
                    exact ⟨⟨q + 1, L ++ [(key, str)], p4, by omega, by go_num, by rw [List.length_append, HL.out]; rfl, by rw [HMM.out]; exact HXE.out, HR2.out.belowB H2.out hg0, HK2.out.thenB H2.out, H1.out⟩, by simp [intOf]; omega⟩
        · obtain rfl : n = q := by omega
          have HXE : Hid (X = .ok (L, p2)) := by have := HX.out; rw [Nat.sub_self, rdI] at this; exact this
          clear HX
          go_wp2
          go_ret
          refine ⟨fun L1 q1 hx => ?_, fun m hm => (by rw [HXE.out] at hm; cases hm), HK.out⟩
          rw [HXE.out] at hx
          simp only [Except.ok.injEq, Prod.mk.injEq] at hx
          obtain ⟨rfl, rfl⟩ := hx
          exact ⟨_, rfl, told_own (by rw [HL.out]; exact HO.out), HR.out⟩
end Go.Proofs.Ytkicndengkcojaa
