/- Where an item is, or would be. -/
import Derived.Test.YtbjlappppbaohaaSorMem
namespace Go.Proofs.Ytbjlappppbaohaa
open Go Go.RowKit Go.Sort

/-- how two keys stand -/
def cmpN (a b : Nat) : Int := if a < b then -1 else if b < a then 1 else 0
theorem cmp_any (a b : Nat) (w : World) : Calls Try.prog 40 #[.int .u64 (a : Int), .int .u64 (b : Int)] w fun e w' => e = .returned (.int .i64 (cmpN a b)) ∧ w = w' := by
  have hn : ∀ (x : Nat) (w : World), Calls Try.prog 43 #[.int .u64 (x : Int)] w fun e w' => e = .returned (.bool false) ∧ w = w' := fun x w => by
    go_enter Try.func43, Try.ntmps43
    go_wp2
    go_ret
    simp
  rcases Nat.lt_trichotomy a b with h | h | h
  · have e : cmpN a b = -1 := by unfold cmpN; rw [if_pos h]
    rw [e]
    go_enter Try.func40, Try.ntmps40
    go_wp2_with (go_at_call 43; (with_reducible refine (hn _ _).mono ?_); rintro e w1 ⟨rfl, rfl⟩)
    go_ret
    exact ⟨rfl, rfl⟩
  · subst h
    have e : cmpN a a = 0 := by unfold cmpN; rw [if_neg (by omega), if_neg (by omega)]
    rw [e]
    go_enter Try.func40, Try.ntmps40
    go_wp2_with (go_at_call 43; (with_reducible refine (hn _ _).mono ?_); rintro e w1 ⟨rfl, rfl⟩)
    go_ret
    exact ⟨rfl, rfl⟩
  · have h2 : ¬ a < b := by omega
    have e : cmpN a b = 1 := by unfold cmpN; rw [if_neg h2, if_pos h]
    rw [e]
    go_enter Try.func40, Try.ntmps40
    go_wp2_with (go_at_call 43; (with_reducible refine (hn _ _).mono ?_); rintro e w1 ⟨rfl, rfl⟩)
    go_ret
    exact ⟨rfl, rfl⟩
theorem against_any (k j : Nat) (s : ByteArray) (w : World) : Calls Try.prog 36 #[.agg (itC k s), .int .u64 (j : Int)] w fun e w' => e = .returned (.int .i64 (cmpN k j)) ∧ Below w.heap.size w w' := by
  have B0 := (Below.refl w.heap.size w).alloc (Nat.le_refl _) (.cells (itC k s) 61)
  have A0 := Blk.new w (itC k s) 61
  have c0 : (w.alloc (.cells (itC k s) 61)).cell? ⟨w.heap.size, 0, none⟩ = some (.int .u64 (k : Int)) := A0.cell 0
  have HC := Lib.hid (cmp_any k j)
  go_enter Try.func36, Try.ntmps36
  go_upto_region 1 with (fail)
  generalize w.alloc _ = W at *
  go_wp2_with (go_at_call 40; (with_reducible refine (HC.out _).mono ?_); rintro e w1 ⟨rfl, rfl⟩)
  go_ret
  exact ⟨rfl, B0⟩
theorem cmpN_lt (a b : Nat) : decide (cmpN a b < 0) = decide (a < b) := by
  unfold cmpN; split
  · simp [*]
  · split <;> simp [*]
theorem cmpN_eq (a b : Nat) : (cmpN a b == 0) = decide (a = b) := by
  unfold cmpN; split
  · rw [Bool.eq_iff_iff]; simp; omega
  · split
    · rw [Bool.eq_iff_iff]; simp; omega
    · rw [Bool.eq_iff_iff]; simp; omega
/-- the comparison, as a value -/
def agv : Value := .func (.func 36) #[] #[]
set_option maxHeartbeats 1000000 in
theorem search_nil (j : Nat) (w : World) : Calls Try.prog 35 #[.slice none 0 0, .int .u64 (j : Int), agv] w fun e w' => e = .returned (.tuple #[.int .i64 0, .bool false]) ∧ w = w' := by
  go_enter Try.func35, Try.ntmps35
  go_wp2
  refine wp_loop_rounds 1 ?_
  rw [rounds_succ]
  go_wp2
  go_ret2
  exact ⟨rfl, rfl⟩
set_option maxHeartbeats 2000000 in
theorem search_row (b cap j : Nat) (L : List It) (w : World) (hr : w.rangeAt b 0 (flat L)) (hS : Sorted L) (hn : L.length ≤ 1000000) (hb : b < w.heap.size) :
    Calls Try.prog 35 #[.slice (some ⟨b, 0, none⟩) L.length cap, .int .u64 (j : Int), agv] w fun e w' => e = .returned (.tuple #[.int .i64 (rankL L j), .bool (hasL L j)]) ∧ Below w.heap.size w w' := by
  obtain ⟨n, hL⟩ : ∃ n, n = L.length := ⟨_, rfl⟩
  rw [← hL] at hn ⊢
  have HL := Lib.hid hL
  have HS := Lib.hid hS
  have HR := Lib.hid hr
  clear hL hS hr
  unfold agv
  go_enter Try.func35, Try.ntmps35
  go_wp2
  go_loopw [9, 10] (fun x y wr => ∃ p q : Nat, p ≤ q ∧ q ≤ n ∧ x = .int .i64 p ∧ y = .int .i64 q ∧ (∀ t z, t < p → L[t]? = some z → z.1 < j) ∧ (∀ t z, q ≤ t → L[t]? = some z → j ≤ z.1) ∧ Below w.heap.size w wr) (fun x y _ => (intOf y).toNat - (intOf x).toNat)
  case atStart => exact ⟨0, n, by omega, by omega, rfl, rfl, fun t z ht => by omega, fun t z ht hz => by have := (List.getElem?_eq_some_iff.1 hz).1; have := HL.out; omega, Below.refl _ _⟩
  case round =>
    obtain ⟨p, q, hpq, hqn, rfl, rfl, h1, h2, hB⟩ := hrel
    have H1 := Lib.hid h1
    have H2 := Lib.hid h2
    have HB := Lib.hid hB
    clear h1 h2 hB
    by_cases hlt : p < q
    · have hmn : (p + q) / 2 < n := by omega
      obtain ⟨z, hz⟩ : ∃ z, L[(p + q) / 2]? = some z := ⟨_, List.getElem?_eq_getElem (by have := HL.out; omega)⟩
      obtain ⟨c1, c2⟩ := row_at (range_bel HR.out HB.out hb) hz
      have HZ := Lib.hid hz
      clear hz
      have HA : Hid (∀ w, Calls Try.prog 36 #[.agg #[.int .u64 (z.1 : Int), .string z.2], .int .u64 (j : Int)] w fun e w' => e = .returned (.int .i64 (cmpN z.1 j)) ∧ Below w.heap.size w w') := Lib.hid (against_any z.1 j z.2)
      have e1 : (((p + q) / 2 : Nat) : Int) = ((p : Int) + (q : Int)) / 2 := by omega
      by_cases hz : z.1 < j
      · have e : cmpN z.1 j = -1 := by unfold cmpN; rw [if_pos hz]
        rw [e] at HA
        have HE := Lib.hid hz
        have HI := Lib.hid e1
        clear hz e e1
        go_wp2_with (go_at_call 36; (with_reducible refine (HA.out _).mono ?_); rintro e w1 ⟨rfl, hb1⟩)
        refine ⟨⟨(p + q) / 2 + 1, q, by omega, hqn, by rw [Int.natCast_add, HI.out]; go_num, rfl, fun t y ht hy => ?_, H2.out, HB.out.trans (hb1.mono HB.out.size)⟩, by simp [intOf]; omega⟩
        rcases Nat.lt_or_ge t ((p + q) / 2) with h | h
        · have := sorted_get HS.out h hy HZ.out
          have := HE.out; omega
        · obtain rfl : t = (p + q) / 2 := by omega
          have := HZ.out
          rw [hy] at this
          obtain rfl := Option.some.inj this
          exact HE.out
      · have e : 0 ≤ cmpN z.1 j := by unfold cmpN; rw [if_neg hz]; split <;> omega
        have HE := Lib.hid hz
        have HI := Lib.hid e1
        clear hz e1
        generalize cmpN z.1 j = r at *
        have hr : ¬ r < 0 := by omega
        go_wp2_with (go_at_call 36; (with_reducible refine (HA.out _).mono ?_); rintro e w1 ⟨rfl, hb1⟩)
        refine ⟨⟨p, (p + q) / 2, by omega, by omega, rfl, by rw [HI.out], H1.out, fun t y ht hy => ?_, HB.out.trans (hb1.mono HB.out.size)⟩, by simp [intOf]; omega⟩
        rcases Nat.lt_or_ge ((p + q) / 2) t with h | h
        · have := sorted_get HS.out h HZ.out hy
          have := HE.out; omega
        · obtain rfl : t = (p + q) / 2 := by omega
          have := HZ.out
          rw [hy] at this
          obtain rfl := Option.some.inj this
          have := HE.out; omega
    · obtain rfl : q = p := by omega
      have hrk : rankL L j = q := rank_of (by have := HL.out; omega) H1.out H2.out
      by_cases hq : q < n
      · obtain ⟨z, hz⟩ : ∃ z, L[q]? = some z := ⟨_, List.getElem?_eq_getElem (by have := HL.out; omega)⟩
        obtain ⟨c1, c2⟩ := row_at (range_bel HR.out HB.out hb) hz
        have hh : (cmpN z.1 j == 0) = hasL L j := by
          rw [cmpN_eq, Bool.eq_iff_iff, has_iff HS.out, hrk]
          simp only [decide_eq_true_eq]
          constructor
          · intro h; exact ⟨z, hz, h⟩
          · rintro ⟨y, hy, h⟩
            rw [hz] at hy
            obtain rfl := Option.some.inj hy
            exact h
        have HA : Hid (∀ w, Calls Try.prog 36 #[.agg #[.int .u64 (z.1 : Int), .string z.2], .int .u64 (j : Int)] w fun e w' => e = .returned (.int .i64 (cmpN z.1 j)) ∧ Below w.heap.size w w') := Lib.hid (against_any z.1 j z.2)
        have HH := Lib.hid hh
        have HRK := Lib.hid hrk
        clear hz hh hrk
        generalize cmpN z.1 j = r at *
        go_wp2_with (go_at_call 36; (with_reducible refine (HA.out _).mono ?_); rintro e w1 ⟨rfl, hb1⟩)
        go_ret2
        rw [HRK.out, ← HH.out]
        exact ⟨rfl, HB.out.trans (hb1.mono HB.out.size)⟩
      · obtain rfl : n = q := by omega
        have hh : hasL L j = false := by
          cases h : hasL L j with
          | false => rfl
          | true => have := rank_lt HS.out h; have := HL.out; omega
        have HH := Lib.hid hh
        have HRK := Lib.hid hrk
        clear hh hrk
        go_wp2
        go_ret2
        rw [HRK.out, HH.out]
        exact ⟨rfl, HB.out⟩

/-! the methods that only look -/
theorem all_any {w : World} {g : Nat} {v : Value} {L : List It} (h : Mp w 57 61 g v L) : Calls Try.prog 29 #[.pointer (some ⟨g, 0, none⟩)] w fun e w' => e = .returned v ∧ w = w' := by
  have c := h.cell
  go_enter Try.func29, Try.ntmps29
  go_wp2
  go_ret
  exact ⟨rfl, rfl⟩
theorem all_nil (w : World) : Calls Try.prog 29 #[.pointer none] w fun e w' => e = .returned (.slice none 0 0) ∧ w = w' := by
  go_enter Try.func29, Try.ntmps29
  go_wp2
  go_ret
  exact ⟨rfl, rfl⟩
theorem search_any {w : World} {g : Nat} {v : Value} {L : List It} (h : Mp w 57 61 g v L) (j : Nat) :
    Calls Try.prog 35 #[v, .int .u64 (j : Int), .func (.func 36) #[] #[]] w fun e w' => e = .returned (.tuple #[.int .i64 (rankL L j), .bool (hasL L j)]) ∧ Below w.heap.size w w' := by
  rcases h.shape with ⟨rfl, rfl⟩ | ⟨b, c, rfl, _, _, hr, hb, _⟩
  · refine (search_nil j w).mono ?_
    rintro e w' ⟨rfl, rfl⟩
    exact ⟨rfl, Below.refl _ _⟩
  · exact search_row b c j L w hr h.sorted h.len hb
theorem find_any {w : World} {g : Nat} {v : Value} {L : List It} (h : Mp w 57 61 g v L) (j : Nat) :
    Calls Try.prog 30 #[.pointer (some ⟨g, 0, none⟩), .int .u64 (j : Int)] w fun e w' => e = .returned (.tuple #[.int .i64 (rankL L j), .bool (hasL L j)]) ∧ Below w.heap.size w w' := by
  have HA := Lib.hid (all_any h)
  have HS := Lib.hid (search_any h j)
  clear h
  go_enter Try.func30, Try.ntmps30
  go_wp2_with (first
    | (go_at_call 29; (with_reducible refine HA.out.mono ?_); rintro e w1 ⟨rfl, rfl⟩)
    | (go_at_call 35; (with_reducible refine HS.out.mono ?_); rintro e w1 ⟨rfl, hb1⟩))
  go_ret2
  exact ⟨rfl, hb1⟩
theorem find_nil (j : Nat) (w : World) :
    Calls Try.prog 30 #[.pointer none, .int .u64 (j : Int)] w fun e w' => e = .returned (.tuple #[.int .i64 0, .bool false]) ∧ w = w' := by
  have HA := Lib.hid (all_nil w)
  have HS := Lib.hid (search_nil j w)
  unfold agv at HS
  go_enter Try.func30, Try.ntmps30
  go_wp2_with (first
    | (go_at_call 29; (with_reducible refine HA.out.mono ?_); rintro e w1 ⟨rfl, rfl⟩)
    | (go_at_call 35; (with_reducible refine HS.out.mono ?_); rintro e w1 ⟨rfl, rfl⟩))
  go_ret2
  exact ⟨rfl, rfl⟩
end Go.Proofs.Ytbjlappppbaohaa
