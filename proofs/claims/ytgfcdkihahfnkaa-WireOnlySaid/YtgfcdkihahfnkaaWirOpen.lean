/- Arguments that are texts, numbers, places and labels, as layer 5 has them. -/
import Derived.Test.YtgfcdkihahfnkaaLabOpen
import Derived.Test.YtgfcdkihahfnkaaIdEq
namespace Go.Proofs.Ytgfcdkihahfnkaa
open Go.ChangeShapes Go.WideShapes Go.ChangeAt Go.RowKit

theorem cells23 : Try.prog.cellsOf 24 = 20 := by kernel_rfl
theorem cells5 : Try.prog.cellsOf 5 = 1 := by kernel_rfl

theorem mapM_some {α β : Type} {f : α → Option β} : ∀ {l : List α} {ys : List β}, l.mapM f = some ys → ∀ x ∈ l, ∃ y, f x = some y
  | [], _, _, x, hx => by cases hx
  | a :: l, ys, h, x, hx => by
    rw [List.mapM_cons] at h
    cases ha : f a with
    | none => rw [ha] at h; cases h
    | some y =>
      cases hl : l.mapM f with
      | none => rw [ha, hl] at h; cases h
      | some zs =>
        rcases List.mem_cons.1 hx with rfl | hx
        · exact ⟨y, ha⟩
        · exact mapM_some hl x hx

theorem nat_list {cs : List Value} (h : ∀ c ∈ cs, ∃ n : Nat, n < 256 ∧ c = .int .u8 (n : Int)) : ∃ l : List Nat, l.length = cs.length ∧ (∀ b ∈ l, b < 256) ∧ cs = l.map fun (n : Nat) => Value.int .u8 (n : Int) := by
  induction cs with
  | nil => exact ⟨[], rfl, fun b hb => (by cases hb), rfl⟩
  | cons c r ih =>
    obtain ⟨n, hn, rfl⟩ := h c (List.mem_cons_self ..)
    obtain ⟨l, h1, h2, rfl⟩ := ih (fun x hx => h x (List.mem_cons_of_mem _ hx))
    refine ⟨n :: l, by simp, ?_, rfl⟩
    intro b hb
    rcases List.mem_cons.1 hb with rfl | hb
    · exact hn
    · exact h2 b hb

theorem open_id {H : Type} {enc : TypeId × Value → H} {w : World} {base : Nat} {sp : Nat → Bool} {held : Bool} {r : Reach} {b0 : Nat} {v : Value} {d : DataW H} {ps : List MemPlace}
    (hval : Value.okWide Try.prog w r b0 24 v) (hd : DataW.Trod enc Try.prog w base sp held 24 v d ps) : ∃ n, n < M ∧ v = idv n := by
  simp only [Value.okWide, Try.underlying24] at hval
  obtain ⟨cs, rfl, hsz, _⟩ := hval
  rw [cells23] at hsz
  obtain ⟨fuel, hf⟩ := hd
  cases fuel with
  | zero => simp [DataW.trod] at hf
  | succ m =>
    unfold DataW.trod at hf
    rw [Try.underlying24] at hf
    simp only [Value.cells, cells23, cells5, Nat.mul_one] at hf
    split at hf
    · cases hx : (List.range 20).mapM fun i => DataW.trod enc Try.prog w base sp held m 5 ((cs.toList.drop i).take 1) with
      | none => rw [hx] at hf; cases hf
      | some xs =>
        have hall := mapM_some hx
        have hc : ∀ c ∈ cs.toList, ∃ n : Nat, n < 256 ∧ c = .int .u8 (n : Int) := by
          intro c hc
          obtain ⟨i, hi, rfl⟩ := List.getElem_of_mem hc
          have hi20 : i < 20 := by simpa [hsz] using hi
          obtain ⟨y, hy⟩ := hall i (List.mem_range.2 hi20)
          rw [List.drop_eq_getElem_cons hi, List.take_succ_cons, List.take_zero] at hy
          obtain ⟨n, e1, _, wf⟩ := DataW.trod_int Try.underlying5 hy
          have e2 : cs.toList[i] = .int .u8 n := by simpa using e1
          have hw : 0 ≤ n ∧ n < 256 := by
            have h0 : IntKind.min .u8 = 0 := rfl
            have h1 : IntKind.max .u8 = 255 := rfl
            simp only [Lit.wf, h0, h1, Bool.and_eq_true, decide_eq_true_eq] at wf
            omega
          exact ⟨n.toNat, by omega, by rw [e2, Int.toNat_of_nonneg hw.1]⟩
        obtain ⟨l, h1, h2, h3⟩ := nat_list hc
        have hl : l.length = 20 := by rw [h1]; simpa using hsz
        obtain ⟨n, hn, hdg⟩ := dig_of l h2
        rw [hl] at hn hdg
        refine ⟨n, hn, ?_⟩
        unfold idv row
        rw [hdg, ← h3, Array.toArray_toList]
    · cases hf
end Go.Proofs.Ytgfcdkihahfnkaa
