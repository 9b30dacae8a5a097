/- Both answers of one question: the program's and the document's are the same. -/
import Derived.Test.YtmlejcfnnjnggaaDoorCirOpen
namespace Go.Proofs.YtmlejcfnnjnggaaDoor
set_option maxRecDepth 100000
open Go Go.RowKit Go.Sort

theorem nums_nil (w : World) : Nums w (.slice none 0 0) [] := .inl ⟨rfl, rfl⟩
theorem own_both (L : List Pe) (id : Nat) (hw : Wf L) (hid : id < M) (hn : L.length ≤ 1000000) : ∃ ob oe : Int, ∀ {w : World} {v : Value}, Lies w v L →
    Calls Tryd.prog 14 #[v, idv id] w (fun e w' => e = .returned (.tuple #[.int .i64 ob, .int .i64 oe]) ∧ Below w.heap.size w w') ∧
    Calls Tryd.prog 15 #[v, idv id] w (fun e w' => e = .returned (.tuple #[.int .i64 ob, .int .i64 oe]) ∧ Below w.heap.size w w') := by
  by_cases hC : Circ L
  · exact ⟨_, _, fun hL => ⟨Owner_yes id hL hw hid hC, refOwner_yes id hL hw hid hC⟩⟩
  · exact ⟨_, _, fun hL => ⟨Owner_no id hL hw hn hC, refOwner_no id hL hw hn hC⟩⟩
theorem cop_both (L : List Pe) (id : Nat) (r : Int) (hw : Wf L) (hid : id < M) (hn : L.length ≤ 1000000) : ∃ (C : List Int) (ce : Int), C.length ≤ 1000000 ∧ ∀ {w : World} {v : Value}, Lies w v L →
    Calls Tryd.prog 16 #[v, idv id, .int .i64 r] w (fun e w' => ∃ u, e = .returned (.tuple #[u, .int .i64 ce]) ∧ Nums w' u C ∧ Below w.heap.size w w') ∧
    Calls Tryd.prog 17 #[v, idv id, .int .i64 r] w (fun e w' => ∃ u, e = .returned (.tuple #[u, .int .i64 ce]) ∧ Nums w' u C ∧ Below w.heap.size w w') := by
  by_cases hC : Circ L ∧ 1 ≤ r ∧ r ≤ 8
  · obtain ⟨h1, h2, h3⟩ := hC
    refine ⟨copyN L id (min r.toNat L.length), 0, by rw [copyN_len]; omega, fun hL => ⟨?_, ?_⟩⟩
    · refine (Copies_yes id r hL hw hid h1 h2 h3).mono ?_
      rintro e w' ⟨u, rfl, h, b⟩
      exact ⟨u, rfl, own_nums h, b⟩
    · refine (refCopies_yes id r hL hw hid h1 h2 h3).mono ?_
      rintro e w' ⟨u, rfl, h, b⟩
      exact ⟨u, rfl, own_nums h, b⟩
  · refine ⟨[], 1, by simp, fun hL => ⟨?_, ?_⟩⟩
    · refine (Copies_no id r hL hw hn hC).mono ?_
      rintro e w' ⟨rfl, b⟩
      exact ⟨_, rfl, nums_nil _, b⟩
    · refine (refCopies_no id r hL hw hid hn hC).mono ?_
      rintro e w' ⟨rfl, b⟩
      exact ⟨_, rfl, nums_nil _, b⟩
theorem fin_both (L : List Pe) (i : Int) (hw : Wf L) (hn : L.length ≤ 1000000) : ∃ (C : List Int) (ce : Int), C.length ≤ 1000000 ∧ ∀ {w : World} {v : Value}, Lies w v L →
    Calls Tryd.prog 18 #[v, .int .i64 i] w (fun e w' => ∃ u, e = .returned (.tuple #[u, .int .i64 ce]) ∧ Nums w' u C ∧ Below w.heap.size w w') ∧
    Calls Tryd.prog 19 #[v, .int .i64 i] w (fun e w' => ∃ u, e = .returned (.tuple #[u, .int .i64 ce]) ∧ Nums w' u C ∧ Below w.heap.size w w') := by
  cases hp : plB L i
  · refine ⟨[], 1, by simp, fun hL => ⟨?_, ?_⟩⟩
    · refine (Fingers_no i hL hw hn hp).mono ?_
      rintro e w' ⟨rfl, b⟩
      exact ⟨_, rfl, nums_nil _, b⟩
    · refine (refFingers_no i hL hw hn hp).mono ?_
      rintro e w' ⟨rfl, b⟩
      exact ⟨_, rfl, nums_nil _, b⟩
  · obtain ⟨k, rfl, hk, hC⟩ := plB_yes hp
    refine ⟨fingN L k 160, 0, by rw [fingN_len]; omega, fun hL => ⟨?_, ?_⟩⟩
    · refine (Fingers_yes k hL hw hC hk).mono ?_
      rintro e w' ⟨u, rfl, h, b⟩
      exact ⟨u, rfl, own_nums h, b⟩
    · refine (refFingers_yes k hL hw hC hk).mono ?_
      rintro e w' ⟨u, rfl, h, b⟩
      exact ⟨u, rfl, own_nums h, b⟩
theorem arc_both (L : List Pe) (i : Int) (hw : Wf L) (hn : L.length ≤ 1000000) : ∃ (x y : Nat) (ae : Int), ∀ {w : World} {v : Value}, Lies w v L →
    Calls Tryd.prog 20 #[v, .int .i64 i] w (fun e w' => e = .returned (.tuple #[idv x, idv y, .int .i64 ae]) ∧ Below w.heap.size w w') ∧
    Calls Tryd.prog 21 #[v, .int .i64 i] w (fun e w' => e = .returned (.tuple #[idv x, idv y, .int .i64 ae]) ∧ Below w.heap.size w w') := by
  cases hp : plB L i
  · exact ⟨_, _, _, fun hL => ⟨Arc_no i hL hw hn hp, refArc_no i hL hw hn hp⟩⟩
  · obtain ⟨k, rfl, hk, hC⟩ := plB_yes hp
    exact ⟨_, _, _, fun hL => ⟨Arc_yes k hL hw hC hk, refArc_yes k hL hw hC hk⟩⟩
end Go.Proofs.YtmlejcfnnjnggaaDoor
