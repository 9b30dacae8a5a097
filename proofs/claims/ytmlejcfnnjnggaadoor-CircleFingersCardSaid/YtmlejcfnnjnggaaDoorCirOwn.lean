/- What a circle answers: owners, copies. -/
import Derived.Test.YtmlejcfnnjnggaaDoorCirIs2
namespace Go.Proofs.YtmlejcfnnjnggaaDoor
set_option maxRecDepth 100000
open Go Go.RowKit Go.Sort

theorem infoN : (Tryd.prog.info? 3).map (fun i => (i.zero, i.size, i.bytes)) = some (some (.int .i64 0), 1, 8) := by kernel_rfl
def ints (l : List Int) : List Value := l.map (Value.int .i64)
theorem ints_snoc (l : List Int) (x : Int) : ints l ++ [.int .i64 x] = ints (l ++ [x]) := by simp [ints]
/-- a row of numbers of the call's own -/
def Row (B : Nat) (w : World) (v : Value) (l : List Int) : Prop := w.ownsRow B 3 1 v l.length (ints l)
theorem Circ.pos {L : List Pe} (h : Circ L) : 0 < L.length ∧ L.length ≤ 1000000 := by have := h.1; omega
theorem isB_yes {L : List Pe} (h : Circ L) : isB L = true := decide_eq_true h
theorem isB_no {L : List Pe} (h : ¬ Circ L) : isB L = false := decide_eq_false h

/-- whether i is a place of a circle -/
def plB (L : List Pe) (i : Int) : Bool := isB L && (decide (0 ≤ i) && decide (i < (L.length : Int)))
theorem isPlace_any {w : World} {v : Value} {L : List Pe} (i : Int) (hL : Lies w v L) (hw : Wf L) (hn : L.length ≤ 1000000) :
    Calls Tryd.prog 41 #[v, .int .i64 i] w fun e w' => e = .returned (.bool (plB L i)) ∧ Below w.heap.size w w' := by
  obtain ⟨a, c, rfl⟩ := hL.form
  have HI := Lib.hid (is_any hL hw hn)
  unfold plB
  clear hL hw hn
  generalize L.length = n at *
  generalize isB L = r at *
  cases r
  · go_enter Tryd.func41, Tryd.ntmps41
    go_wp2_with (go_at_call 12; (with_reducible refine HI.out.mono ?_); rintro e w1 ⟨rfl, hb⟩)
    go_ret
    exact ⟨rfl, hb⟩
  by_cases h0 : 0 ≤ i
  · by_cases h1 : i < (n : Int)
    · have e : (true && (decide (0 ≤ i) && decide (i < (n : Int)))) = true := by simp [h0, h1]
      rw [e]
      go_enter Tryd.func41, Tryd.ntmps41
      go_wp2_with (go_at_call 12; (with_reducible refine HI.out.mono ?_); rintro e w1 ⟨rfl, hb⟩)
      go_ret
      exact ⟨rfl, hb⟩
    · have e : (true && (decide (0 ≤ i) && decide (i < (n : Int)))) = false := by simp [h0, h1]
      have d : decide (i < (n : Int)) = false := decide_eq_false h1
      rw [e]
      go_enter Tryd.func41, Tryd.ntmps41
      go_wp2_with (go_at_call 12; (with_reducible refine HI.out.mono ?_); rintro e w1 ⟨rfl, hb⟩)
      go_ret
      exact ⟨rfl, hb⟩
  · have e : (true && (decide (0 ≤ i) && decide (i < (n : Int)))) = false := by simp [h0]
    have d : decide (0 ≤ i) = false := decide_eq_false h0
    rw [e]
    go_enter Tryd.func41, Tryd.ntmps41
    go_wp2_with (go_at_call 12; (with_reducible refine HI.out.mono ?_); rintro e w1 ⟨rfl, hb⟩)
    go_ret
    exact ⟨rfl, hb⟩
theorem Owner_no {w : World} {v : Value} {L : List Pe} (id : Nat) (hL : Lies w v L) (hw : Wf L) (hn : L.length ≤ 1000000) (hC : ¬ Circ L) :
    Calls Tryd.prog 14 #[v, idv id] w fun e w' => e = .returned (.tuple #[.int .i64 0, .int .i64 1]) ∧ Below w.heap.size w w' := by
  obtain ⟨a, c, rfl⟩ := hL.form
  have B0 : Below w.heap.size w (w.alloc (.cells (row (dig 20 id)) 32)) := (Below.refl w.heap.size w).alloc (Nat.le_refl _) _
  have hI := is_any (hL.bel B0) hw hn
  rw [isB_no hC] at hI
  have HI := Lib.hid hI
  have HB := Lib.hid B0
  clear hL hw hn hI B0
  generalize L.length = n at *
  rw [show idv id = .agg (row (dig 20 id)) from rfl]
  go_enter Tryd.func14, Tryd.ntmps14
  go_upto_region 1 with (fail)
  generalize w.alloc _ = W at *
  go_wp2_with (go_at_call 12; (with_reducible refine HI.out.mono ?_); rintro e w1 ⟨rfl, hb⟩)
  go_ret2
  exact ⟨rfl, step HB.out hb⟩
theorem Owner_yes {w : World} {v : Value} {L : List Pe} (id : Nat) (hL : Lies w v L) (hw : Wf L) (hid : id < M) (hC : Circ L) :
    Calls Tryd.prog 14 #[v, idv id] w fun e w' => e = .returned (.tuple #[.int .i64 (ownN L id : Nat), .int .i64 0]) ∧ Below w.heap.size w w' := by
  obtain ⟨a, c, rfl⟩ := hL.form
  obtain ⟨h0, hn⟩ := hC.pos
  have B0 : Below w.heap.size w (w.alloc (.cells (row (dig 20 id)) 32)) := (Below.refl w.heap.size w).alloc (Nat.le_refl _) _
  have I0 := At.new w id
  have hI := is_any (hL.bel B0) hw hn
  rw [isB_yes hC] at hI
  have HI := Lib.hid hI
  have HO : Hid (∀ w1, Below (w.alloc (.cells (row (dig 20 id)) 32)).heap.size (w.alloc (.cells (row (dig 20 id)) 32)) w1 → Calls Tryd.prog 39 #[.slice a L.length c, idv id] w1 fun e w' => e = .returned (.int .i64 (ownN L id : Nat)) ∧ Below w1.heap.size w1 w') :=
    fun w1 hb => owner_any id ((hL.bel B0).bel hb) hC.rise hw hid h0 hn
  have HB := Lib.hid B0
  clear hL hw h0 hn hC hI B0 hid
  generalize ownN L id = r at *
  generalize L.length = n at *
  rw [show idv id = .agg (row (dig 20 id)) from rfl]
  go_enter Tryd.func14, Tryd.ntmps14
  go_upto_region 1 with (fail)
  generalize w.alloc _ = W at *
  go_wp2_with (first
    | (go_at_call 12; (with_reducible refine HI.out.mono ?_); rintro e w1 ⟨rfl, hb⟩; have I1 := I0.below hb)
    | (refine p_load rfl _ rfl _ rfl id I1 ?_)
    | (go_at_call 39; (with_reducible refine (HO.out _ hb).mono ?_); rintro e w2 ⟨rfl, hb2⟩))
  go_ret2
  exact ⟨rfl, step (step HB.out hb) hb2⟩
def copyN (L : List Pe) (id : Nat) (k : Nat) : List Int := (List.range k).map fun i => (((ownN L id + i) % L.length : Nat) : Int)
theorem copyN_len (L : List Pe) (id k : Nat) : (copyN L id k).length = k := by unfold copyN; simp
theorem copyN_succ (L : List Pe) (id k : Nat) : copyN L id (k + 1) = copyN L id k ++ [(((ownN L id + k) % L.length : Nat) : Int)] := by unfold copyN; rw [List.range_succ, List.map_append]; rfl
theorem Copies_no {w : World} {v : Value} {L : List Pe} (id : Nat) (r : Int) (hL : Lies w v L) (hw : Wf L) (hn : L.length ≤ 1000000) (hC : ¬ (Circ L ∧ 1 ≤ r ∧ r ≤ 8)) :
    Calls Tryd.prog 16 #[v, idv id, .int .i64 r] w fun e w' => e = .returned (.tuple #[.slice none 0 0, .int .i64 1]) ∧ Below w.heap.size w w' := by
  obtain ⟨a, c, rfl⟩ := hL.form
  have B0 : Below w.heap.size w (w.alloc (.cells (row (dig 20 id)) 32)) := (Below.refl w.heap.size w).alloc (Nat.le_refl _) _
  have hI := is_any (hL.bel B0) hw hn
  have HB := Lib.hid B0
  clear hL hw hn B0
  rw [show idv id = .agg (row (dig 20 id)) from rfl]
  by_cases h1 : Circ L
  · rw [isB_yes h1] at hI
    have HI := Lib.hid hI
    clear hI
    generalize L.length = n at *
    by_cases h2 : 1 ≤ r
    · have d1 : decide (r < 1) = false := decide_eq_false (by omega)
      have d2 : decide (8 < r) = true := decide_eq_true (by rcases Int.lt_or_le 8 r with h | h; exact h; exact absurd ⟨h1, h2, h⟩ hC)
      clear hC h1 h2
      go_enter Tryd.func16, Tryd.ntmps16
      go_upto_region 1 with (fail)
      generalize w.alloc _ = W at *
      go_wp2_with (go_at_call 12; (with_reducible refine HI.out.mono ?_); rintro e w1 ⟨rfl, hb⟩)
      go_ret2
      exact ⟨rfl, step HB.out hb⟩
    · have d1 : decide (r < 1) = true := decide_eq_true (by omega)
      clear hC h1 h2
      go_enter Tryd.func16, Tryd.ntmps16
      go_upto_region 1 with (fail)
      generalize w.alloc _ = W at *
      go_wp2_with (go_at_call 12; (with_reducible refine HI.out.mono ?_); rintro e w1 ⟨rfl, hb⟩)
      go_ret2
      exact ⟨rfl, step HB.out hb⟩
  · rw [isB_no h1] at hI
    have HI := Lib.hid hI
    clear hI hC h1
    generalize L.length = n at *
    go_enter Tryd.func16, Tryd.ntmps16
    go_upto_region 1 with (fail)
    generalize w.alloc _ = W at *
    go_wp2_with (go_at_call 12; (with_reducible refine HI.out.mono ?_); rintro e w1 ⟨rfl, hb⟩)
    go_ret2
    exact ⟨rfl, step HB.out hb⟩
end Go.Proofs.YtmlejcfnnjnggaaDoor
