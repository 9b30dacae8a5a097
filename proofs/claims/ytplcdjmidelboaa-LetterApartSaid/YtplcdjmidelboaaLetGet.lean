/- What bytes are read as: numbers, places, peers and rows of them; what throws an error. -/
import Derived.Test.YtplcdjmidelboaaLetPut2
import Derived.Test.YtplcdjmidelboaaWirMeth
namespace Go.Proofs.Ytplcdjmidelboaa
set_option maxRecDepth 100000
open Go Go.RowKit Go.Sort

/-- a call that ends by a thrown error -/
def Pan (n : Nat) : Ending := .panicked [{ v := .iface 32 (.int .i64 (n : Int)), recovered := false }]
theorem pan_eq (n : Nat) : Pan n = .panicked [{ v := .iface 32 (.int .i64 (n : Int)), recovered := false }] := rfl
theorem pass_3 (w : World) : Calls Try.prog 42 #[.bool false] w fun e w' => e = .returned (.tuple #[]) ∧ w = w' := by
  go_enter Try.func42, Try.ntmps42
  go_wp2
  go_end0
  exact ⟨rfl, rfl⟩
theorem refuse_3 (w : World) : Calls Try.prog 42 #[.bool true] w fun e w' => e = Pan 3 ∧ w = w' := by
  go_enter Try.func42, Try.ntmps42
  go_wp2
  exact ⟨rfl, rfl, rfl⟩
theorem mustN_ok (v : Nat) (w : World) : Calls Try.prog 59 #[.int .u64 (v : Int), .int .i64 0] w fun e w' => e = .returned (.int .u64 (v : Int)) ∧ w = w' := by
  go_enter Try.func59, Try.ntmps59
  go_wp2
  go_ret
  exact ⟨rfl, rfl⟩
theorem mustN_no (v n : Nat) (hn : n ≠ 0) (w : World) : Calls Try.prog 59 #[.int .u64 (v : Int), .int .i64 (n : Int)] w fun e w' => e = Pan n ∧ w = w' := by
  have hd : ((n : Int) != 0) = true := by simp; omega
  clear hn
  go_enter Try.func59, Try.ntmps59
  go_wp2
  exact ⟨rfl, rfl, rfl⟩
theorem zeroI : (#[Value.int IntKind.u8 0, Value.int IntKind.u8 0, Value.int IntKind.u8 0, Value.int IntKind.u8 0, Value.int IntKind.u8 0, Value.int IntKind.u8 0, Value.int IntKind.u8 0, Value.int IntKind.u8 0, Value.int IntKind.u8 0, Value.int IntKind.u8 0, Value.int IntKind.u8 0, Value.int IntKind.u8 0, Value.int IntKind.u8 0, Value.int IntKind.u8 0, Value.int IntKind.u8 0, Value.int IntKind.u8 0, Value.int IntKind.u8 0, Value.int IntKind.u8 0, Value.int IntKind.u8 0, Value.int IntKind.u8 0] : Array Value) = row (dig 20 0) := rfl
theorem zeroPe : (#[Value.int IntKind.i64 0, Value.int IntKind.u8 0, Value.int IntKind.u8 0, Value.int IntKind.u8 0, Value.int IntKind.u8 0, Value.int IntKind.u8 0, Value.int IntKind.u8 0, Value.int IntKind.u8 0, Value.int IntKind.u8 0, Value.int IntKind.u8 0, Value.int IntKind.u8 0, Value.int IntKind.u8 0, Value.int IntKind.u8 0, Value.int IntKind.u8 0, Value.int IntKind.u8 0, Value.int IntKind.u8 0, Value.int IntKind.u8 0, Value.int IntKind.u8 0, Value.int IntKind.u8 0, Value.int IntKind.u8 0, Value.int IntKind.u8 0] : Array Value) = peA (0, 0) := rfl
theorem mustI_ok (x : Nat) (w : World) : Calls Try.prog 62 #[idv x, .int .i64 0] w fun e w' => e = .returned (idv x) ∧ Below w.heap.size w w' := by
  have A0 : At ((w.alloc (.cells (row (dig 20 x)) 23)).alloc (.cells (row (dig 20 0)) 23)) w.heap.size x := (At.new w x).alloc _
  have Z0 := Blk.new (w.alloc (.cells (row (dig 20 x)) 23)) (row (dig 20 0)) 23
  have B0 := ((Below.refl w.heap.size w).alloc (Nat.le_refl _) (.cells (row (dig 20 x)) 23)).alloc (by simp) (.cells (row (dig 20 0)) 23)
  rw [show idv x = .agg (row (dig 20 x)) from rfl]
  simp only [World.size_alloc] at Z0
  go_enter Try.func62, Try.ntmps62
  go_upto_region 1 with (fail)
  rw [zeroI]
  generalize (w.alloc _).alloc _ = W at *
  have hz : ∀ n, (row (dig 20 n)).size = 20 := fun n => by rw [row_size, dig_length]
  have h1 : (row (dig 20 x)).all (·.oneCell') = true := by rw [Array.all_eq_true_iff_forall_mem]; intro y hy; exact id_one x y (by simpa using hy)
  go_wp2_with (first
    | (refine p_load rfl _ rfl _ rfl x A0 ?_)
    | (refine wpList_store_row rfl 23 _ _ rfl (w.heap.size + 1) (row (dig 20 x)) rfl rfl 23 (row (dig 20 0)) Z0 (by rw [hz]; exact sizeId20) (by rw [hz, hz]) h1 ?_))
  exact bodyPost_ret (results_cell_row Try.results62 _ _ (w.heap.size + 1) 23 (row (dig 20 x)) (0, 0) _ rfl (Z0.setRow _) Try.underlying23 rfl (by rw [hz]; exact sizeId20)) rfl ⟨rfl, bel_setRow B0 (by omega) _⟩
theorem mustI_no (x n : Nat) (hn : n ≠ 0) (w : World) : Calls Try.prog 62 #[idv x, .int .i64 (n : Int)] w fun e w' => e = Pan n ∧ Below w.heap.size w w' := by
  have hd : ((n : Int) != 0) = true := by simp; omega
  have B0 := ((Below.refl w.heap.size w).alloc (Nat.le_refl _) (.cells (row (dig 20 x)) 23)).alloc (by simp) (.cells (row (dig 20 0)) 23)
  clear hn
  rw [show idv x = .agg (row (dig 20 x)) from rfl]
  go_enter Try.func62, Try.ntmps62
  go_upto_region 1 with (fail)
  rw [zeroI]
  generalize (w.alloc _).alloc _ = W at *
  go_wp2
  exact ⟨rfl, rfl, B0⟩

/-! each call of a reader, as it went or as it failed -/
theorem num_ok {w : World} {g h c : Nat} {s : ByteArray} {p : Nat} (k : Rd w g h c s p) (hs : s.size ≤ 1000000) {v : Nat} {q : Nat} (hx : rdN (bytesN s) p = .ok (v, q)) :
    Calls Try.prog 60 #[.pointer (some ⟨g, 0, none⟩)] w fun r w' => r = .returned (.tuple #[.int .u64 (v : Int), .int .i64 0]) ∧ Rd w' g h c s q ∧ Keep w w' g g := by
  unfold rdN at hx
  split at hx
  · rename_i hc
    simp only [Except.ok.injEq, Prod.mk.injEq] at hx
    obtain ⟨rfl, rfl⟩ := hx
    refine (mN_any k hs).mono ?_
    rintro r w' ⟨he, h2, h3⟩
    rw [show (rNum (rest s p)).2.2 = 0 from hc] at he
    exact ⟨he, h2, h3⟩
  · cases hx
theorem num_no {w : World} {g h c : Nat} {s : ByteArray} {p : Nat} (k : Rd w g h c s p) (hs : s.size ≤ 1000000) {e : Nat} (hx : rdN (bytesN s) p = .error e) :
    e ≠ 0 ∧ ∃ v : Nat, Calls Try.prog 60 #[.pointer (some ⟨g, 0, none⟩)] w fun r w' => r = .returned (.tuple #[.int .u64 (v : Int), .int .i64 (e : Int)]) ∧ Keep w w' g g := by
  unfold rdN at hx
  split at hx
  · cases hx
  · rename_i hc
    simp only [Except.error.injEq] at hx
    subst hx
    exact ⟨hc, _, (mN_any k hs).mono fun r w' h => ⟨h.1, h.2.2⟩⟩
theorem pl_ok {w : World} {g h c : Nat} {s : ByteArray} {p : Nat} (k : Rd w g h c s p) (hs : s.size ≤ 1000000) {v : Nat} {q : Nat} (hx : rdP (bytesN s) p = .ok (v, q)) :
    Calls Try.prog 63 #[.pointer (some ⟨g, 0, none⟩)] w fun r w' => r = .returned (.tuple #[idv v, .int .i64 0]) ∧ Rd w' g h c s q ∧ Keep w w' g g := by
  unfold rdP at hx
  split at hx
  · rename_i hc
    simp only [Except.ok.injEq, Prod.mk.injEq] at hx
    obtain ⟨rfl, rfl⟩ := hx
    refine (mP_any k hs).mono ?_
    rintro r w' ⟨he, h2, h3⟩
    rw [show (rPl (rest s p)).2.2 = 0 from hc] at he
    exact ⟨he, h2, h3⟩
  · cases hx
theorem pl_no {w : World} {g h c : Nat} {s : ByteArray} {p : Nat} (k : Rd w g h c s p) (hs : s.size ≤ 1000000) {e : Nat} (hx : rdP (bytesN s) p = .error e) :
    e ≠ 0 ∧ ∃ v : Nat, Calls Try.prog 63 #[.pointer (some ⟨g, 0, none⟩)] w fun r w' => r = .returned (.tuple #[idv v, .int .i64 (e : Int)]) ∧ Keep w w' g g := by
  unfold rdP at hx
  split at hx
  · cases hx
  · rename_i hc
    simp only [Except.error.injEq] at hx
    subst hx
    exact ⟨hc, _, (mP_any k hs).mono fun r w' h => ⟨h.1, h.2.2⟩⟩
/-! a reader's blocks lie ahead of a call's own -/
theorem Rd.belowB {w w' : World} {g h c B : Nat} {s : ByteArray} {p : Nat} (k : Rd w g h c s p) (hb : Below B w w') (hg : g < B) : Rd w' g h c s p :=
  ⟨k.blk.below hb hg, (by obtain ⟨C, e, fr, h3, h4⟩ := k.src; exact ⟨C, e, fr, (hb.block h (Nat.lt_trans k.ne hg)).trans h3, h4⟩), k.le, k.cap, k.ne⟩
theorem Keep.thenB {w w1 w2 : World} {g : Nat} (h : Keep w w1 g g) (k : Below w.heap.size w1 w2) : Keep w w2 g g :=
  ⟨k.os.trans h.os, k.tape.trans h.tape, k.output.trans h.output, Nat.le_trans h.size k.size, fun i hi h1 h2 => (k.block i hi).trans (h.block i hi h1 h2)⟩
theorem own_keepG {w1 w2 : World} {B e size n g : Nat} {v : Value} {xs : List Value} (h : w1.ownsRow B e size v n xs) (hk : Keep w1 w2 g g) (hg : g < B) : w2.ownsRow B e size v n xs :=
  own_keep h fun k hk' => hk.block k (h.lt k hk').2 (by have := (h.lt k hk').1; omega) (by have := (h.lt k hk').1; omega)

/-- what reading ends with -/
structure Got {α : Type} (enc : α → Value) (w : World) (g h c : Nat) (s : ByteArray) (X : Except Nat (α × Nat)) (e : Ending) (w' : World) : Prop where
  ok : ∀ v q, X = .ok (v, q) → e = .returned (enc v) ∧ Rd w' g h c s q
  no : ∀ n, X = .error n → e = Pan n
  keep : Keep w w' g g
theorem got_pan {α : Type} {enc : α → Value} {w w' : World} {g h c : Nat} {s : ByteArray} {X : Except Nat (α × Nat)} {n : Nat} (hX : X = .error n) (hk : Keep w w' g g) : Got enc w g h c s X (Pan n) w' :=
  ⟨fun a q hx => (by rw [hX] at hx; cases hx), fun m hm => (by rw [hX] at hm; cases hm; rfl), hk⟩
theorem got_ok {α : Type} {enc : α → Value} {w w' : World} {g h c : Nat} {s : ByteArray} {X : Except Nat (α × Nat)} {v : α} {q : Nat} (hX : X = .ok (v, q)) (hr : Rd w' g h c s q) (hk : Keep w w' g g) : Got enc w g h c s X (.returned (enc v)) w' :=
  ⟨fun a q' hx => (by rw [hX] at hx; simp only [Except.ok.injEq, Prod.mk.injEq] at hx; obtain ⟨rfl, rfl⟩ := hx; exact ⟨rfl, hr⟩), fun m hm => (by rw [hX] at hm; cases hm), hk⟩
/-- a call that reads -/
abbrev Reads1 {α : Type} (f : FuncId) (enc : α → Value) (w : World) (g h c : Nat) (s : ByteArray) (X : Except Nat (α × Nat)) : Prop :=
  Calls Try.prog f #[.pointer (some ⟨g, 0, none⟩)] w (Got enc w g h c s X)
theorem Got.yes {α : Type} {f : FuncId} {args : Array Value} {enc : α → Value} {w : World} {g h c : Nat} {s : ByteArray} {X : Except Nat (α × Nat)} {v : α} {q : Nat} (H : Calls Try.prog f args w (Got enc w g h c s X)) (hX : X = .ok (v, q)) :
    Calls Try.prog f args w fun e w' => e = .returned (enc v) ∧ Rd w' g h c s q ∧ Keep w w' g g := H.mono fun _ _ k => ⟨(k.ok v q hX).1, (k.ok v q hX).2, k.keep⟩
theorem Got.not {α : Type} {f : FuncId} {args : Array Value} {enc : α → Value} {w : World} {g h c : Nat} {s : ByteArray} {X : Except Nat (α × Nat)} {n : Nat} (H : Calls Try.prog f args w (Got enc w g h c s X)) (hX : X = .error n) :
    Calls Try.prog f args w fun e w' => e = Pan n ∧ Keep w w' g g := H.mono fun _ _ k => ⟨k.no n hX, k.keep⟩
abbrev encN (v : Nat) : Value := .int .i64 (v : Int)
abbrev encB (v : Nat) : Value := .bool (decide (v = 1))
abbrev encP (x : Pe) : Value := .agg (peA x)

set_option maxHeartbeats 1000000 in
theorem getInt_any {w : World} {g h c : Nat} {s : ByteArray} {p : Nat} (k0 : Rd w g h c s p) (hs : s.size ≤ 1000000) (m : Nat) (hm : m ≤ 1000000) :
    Calls Try.prog 76 #[.pointer (some ⟨g, 0, none⟩), .int .u64 (m : Int)] w (Got encN w g h c s (rdM m (bytesN s) p)) := by
  cases hn : rdN (bytesN s) p with
  | error e =>
    have HX : Hid (rdM m (bytesN s) p = .error e) := by unfold Hid rdM; rw [hn]
    obtain ⟨he, v, hC⟩ := num_no k0 hs hn
    have HC := Lib.hid hC
    have HM := Lib.hid (fun w => mustN_no v e he w)
    clear hn k0 hC he
    generalize rdM m (bytesN s) p = X at *
    go_enter Try.func76, Try.ntmps76
    go_wp2_with (first
      | (go_at_call 60; (with_reducible refine HC.out.mono ?_); rintro e1 w1 ⟨rfl, hk1⟩)
      | (go_at_call 59; (with_reducible refine (HM.out _).mono ?_); rintro e1 w2 ⟨he, rfl⟩; rw [pan_eq] at he; subst he))
    exact ⟨rfl, got_pan HX.out (by assumption)⟩
  | ok r =>
    obtain ⟨n, p1⟩ := r
    have HC := Lib.hid (num_ok k0 hs hn)
    have HM := Lib.hid (mustN_ok n)
    by_cases h16 : m < n
    · have HX : Hid (rdM m (bytesN s) p = .error 3) := by unfold Hid rdM; rw [hn]; simp only [if_pos h16]
      have hd : decide ((m : Int) < (n : Int)) = true := decide_eq_true (by omega)
      have hd2 : decide (m < n) = true := decide_eq_true (by omega)
      clear hn k0 h16
      generalize rdM m (bytesN s) p = X at *
      go_enter Try.func76, Try.ntmps76
      go_wp2_with (first
        | (go_at_call 60; (with_reducible refine HC.out.mono ?_); rintro e1 w1 ⟨rfl, hr1, hk1⟩)
        | (go_at_call 59; (with_reducible refine (HM.out _).mono ?_); rintro e1 w2 ⟨rfl, rfl⟩)
        | (go_at_call 42; (with_reducible refine (refuse_3 _).mono ?_); rintro e1 w2 ⟨he, rfl⟩; rw [pan_eq] at he; subst he))
      exact ⟨rfl, got_pan HX.out (by assumption)⟩
    · have HX : Hid (rdM m (bytesN s) p = .ok (n, p1)) := by unfold Hid rdM; rw [hn]; simp only [if_neg h16]
      have hd : decide ((m : Int) < (n : Int)) = false := decide_eq_false (by omega)
      have hd2 : decide (m < n) = false := decide_eq_false (by omega)
      have hcv : IntKind.i64.wrap (n : Int) = (n : Int) := IntWalk.i64_in _ (by omega)
      clear hn k0 h16
      generalize rdM m (bytesN s) p = X at *
      go_enter Try.func76, Try.ntmps76
      go_wp2_with (first
        | (go_at_call 60; (with_reducible refine HC.out.mono ?_); rintro e1 w1 ⟨rfl, hr1, hk1⟩)
        | (go_at_call 59; (with_reducible refine (HM.out _).mono ?_); rintro e1 w2 ⟨rfl, rfl⟩)
        | (go_at_call 42; (with_reducible refine (pass_3 _).mono ?_); rintro e1 w2 ⟨rfl, rfl⟩))
      go_ret
      exact got_ok HX.out hr1 hk1
theorem getAddr_any {w : World} {g h c : Nat} {s : ByteArray} {p : Nat} (k0 : Rd w g h c s p) (hs : s.size ≤ 1000000) :
    Reads1 65 encN w g h c s (rdM 999 (bytesN s) p) := by
  have HI : Calls Try.prog 76 #[.pointer (some ⟨g, 0, none⟩), .int .u64 999] w (Got encN w g h c s (rdM 999 (bytesN s) p)) := getInt_any k0 hs 999 (by decide)
  clear k0
  unfold Reads1
  generalize rdM 999 (bytesN s) p = X at *
  cases X with
  | error e =>
    have HC := Lib.hid (Got.not HI rfl)
    clear HI
    go_enter Try.func65, Try.ntmps65
    go_wp2_with (go_at_call 76; (with_reducible refine HC.out.mono ?_); rintro e1 w2 ⟨he, k2⟩; rw [pan_eq] at he; subst he)
    exact ⟨rfl, got_pan rfl k2⟩
  | ok r =>
    obtain ⟨n, q⟩ := r
    have HC := Lib.hid (Got.yes HI rfl)
    clear HI
    go_enter Try.func65, Try.ntmps65
    go_wp2_with (go_at_call 76; (with_reducible refine HC.out.mono ?_); rintro e1 w2 ⟨rfl, r2, k2⟩)
    go_ret
    exact got_ok rfl r2 k2
theorem beq_one (n : Nat) : ((n : Int) == 1) = decide (n = 1) := by rw [Bool.eq_iff_iff]; simp; omega
theorem getBool_any {w : World} {g h c : Nat} {s : ByteArray} {p : Nat} (k0 : Rd w g h c s p) (hs : s.size ≤ 1000000) :
    Reads1 66 encB w g h c s (rdM 1 (bytesN s) p) := by
  have HI : Calls Try.prog 76 #[.pointer (some ⟨g, 0, none⟩), .int .u64 1] w (Got encN w g h c s (rdM 1 (bytesN s) p)) := getInt_any k0 hs 1 (by decide)
  clear k0
  unfold Reads1
  generalize rdM 1 (bytesN s) p = X at *
  cases X with
  | error e =>
    have HC := Lib.hid (Got.not HI rfl)
    clear HI
    go_enter Try.func66, Try.ntmps66
    go_wp2_with (go_at_call 76; (with_reducible refine HC.out.mono ?_); rintro e1 w2 ⟨he, k2⟩; rw [pan_eq] at he; subst he)
    exact ⟨rfl, got_pan rfl k2⟩
  | ok r =>
    obtain ⟨n, q⟩ := r
    have HC := Lib.hid (Got.yes HI rfl)
    have HB := Lib.hid (beq_one n)
    clear HI
    go_enter Try.func66, Try.ntmps66
    go_wp2_with (go_at_call 76; (with_reducible refine HC.out.mono ?_); rintro e1 w2 ⟨rfl, r2, k2⟩)
    have HF := Lib.hid (got_ok (enc := encB) (v := n) (X := .ok (n, q)) rfl r2 k2)
    go_ret
    have := HF.out
    unfold encB at this
    rw [← HB.out] at this
    exact this
end Go.Proofs.Ytplcdjmidelboaa
