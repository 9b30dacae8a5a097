/- A script in memory, and few. -/
import Derived.Test.YtgpmfiphebmldaaDoorBlaRefW
import Derived.Test.YtgpmfiphebmldaaDoorBlaRefJ
import Derived.Deep.Slices
import Derived.Lib.SmallJoins
import Derived.SizedLaws
namespace Go.Proofs.YtgpmfiphebmldaaDoor
open Go Go.ChangeShapes Go.WideShapes Go.ChangeAt Go.RowKit Go.Sort

/-- one of a script -/
structure Stp where
  kind : Int
  code : Int
  op : ByteArray
  n : Int
def Stp.wf (s : Stp) : Prop := (-9223372036854775808 ≤ s.code ∧ s.code ≤ 9223372036854775807) ∧ s.op.size ≤ 140737488355328
def stpC (s : Stp) : Array Value := #[.int .i64 s.kind, .int .i64 s.code, .string s.op, .int .i64 s.n]
/-- v reads as the script l -/
def Scr (w : World) (v : Value) (l : List Stp) : Prop :=
  (l = [] ∧ v = .slice none 0 0) ∨ ∃ b o c, v = .slice (some ⟨b, o, none⟩) l.length c ∧ l.length ≤ 9223372036854775807 ∧ ∀ (j : Nat) s, l[j]? = some s → w.rangeAt b (o + j * 4) (stpC s).toList ∧ s.wf
def opsum : List Stp → Nat
  | [] => 0
  | s :: r => s.op.size + opsum r
theorem opsum_snoc (l : List Stp) (s : Stp) : opsum (l ++ [s]) = opsum l + s.op.size := by
  induction l with
  | nil => simp [opsum]
  | cons a r ih => simp only [List.cons_append, opsum, ih]; omega
theorem opsum_take (l : List Stp) (k : Nat) : opsum (l.take k) ≤ opsum l := by
  induction l generalizing k with
  | nil => simp [opsum]
  | cons a r ih =>
    cases k with
    | zero => simp [opsum]
    | succ k => simp only [List.take_succ_cons, opsum]; have := ih k; omega
theorem Scr.later {w w' : World} {v : Value} {l : List Stp} (h : Scr w v l) (hb : Below w.heap.size w w') : Scr w' v l := by
  rcases h with h | ⟨b, o, c, rfl, h1, h2⟩
  · exact .inl h
  · exact .inr ⟨b, o, c, rfl, h1, fun j s hj => ⟨range_kept (h2 j s hj).1 (p := fun _ => True) (fun k hk _ => hb.block k hk) trivial, (h2 j s hj).2⟩⟩

def FewP (l : List Stp) (w : World) (e : Ending) (w' : World) : Prop := ∃ r, e = .returned (.bool r) ∧ (r = true → l.length ≤ 60 ∧ opsum l ≤ 2000) ∧ w' = w
theorem FewP.mk {l : List Stp} {w : World} (r : Bool) (h : r = true → l.length ≤ 60 ∧ opsum l ≤ 2000) : FewP l w (.returned (.bool r)) w := ⟨r, rfl, h, rfl⟩

set_option maxHeartbeats 1000000 in
set_option maxRecDepth 100000 in
theorem few_any (v : Value) (l : List Stp) (w : World) (hS : Scr w v l) :
    Calls Tryd.prog 7 #[v] w (FewP l w) := by
  rcases hS with ⟨rfl, rfl⟩ | ⟨b, o, c, rfl, hl, hj⟩
  · go_enter Tryd.func7, Tryd.ntmps7
    go_wp2
    refine wp_loop_rounds 1 ?_
    rw [rounds_succ]
    go_wp2
    go_ret
    exact FewP.mk _ fun _ => ⟨by simp, by simp [opsum]⟩
  · obtain ⟨n, hn⟩ : ∃ n, n = l.length := ⟨_, rfl⟩
    have HN := Lib.hid hn
    have HJ := Lib.hid hj
    rw [← hn] at hl
    rw [← hn]
    clear hn hj
    by_cases h60 : n ≤ 60
    · have hle : decide ((n : Int) ≤ 60) = true := by simp; omega
      go_enter Tryd.func7, Tryd.ntmps7
      go_wp2
      go_loop [3, 4] (fun s i => ∃ k : Nat, k ≤ n ∧ i = .int .i64 k ∧ s = .int .i64 (opsum (l.take k) : Nat) ∧ opsum (l.take k) ≤ k * 140737488355328) (fun _ i => n - (intOf i).toNat)
      case atStart => exact ⟨0, by omega, rfl, by simp [opsum], by simp [opsum]⟩
      case round =>
        obtain ⟨k, hk, rfl, rfl, hs⟩ := hrel
        by_cases hlt : k < n
        · obtain ⟨s, hsk⟩ : ∃ s, l[k]? = some s := ⟨_, List.getElem?_eq_getElem (by rw [← HN.out]; omega)⟩
          obtain ⟨hr, hwf⟩ := HJ.out k s hsk
          have hc : w.cell? ⟨b, o + k * 4 + 2, none⟩ = some (.string s.op) := hr 2 _ rfl
          have hsn := opsum_snoc (l.take k) s
          rw [← take_snoc l k s hsk] at hsn
          have hop := hwf.2
          have HS := Lib.hid hsn
          have hlt' : decide ((k : Int) < n) = true := by simp; omega
          clear hsn hr hwf
          generalize opsum (l.take k) = q at *
          generalize s.op = sop at *
          have hq : q ≤ 60 * 140737488355328 := Nat.le_trans hs (Nat.mul_le_mul_right _ (by omega))
          have g1 : IntKind.i64.wrap ((q : Int) + (sop.size : Int)) = ((q + sop.size : Nat) : Int) := by rw [Int.natCast_add]; exact IntWalk.i64_in _ (by omega)
          go_wp2
          refine ⟨⟨k + 1, by omega, by go_num, ?_, ?_⟩, by simp [intOf]; omega⟩
          · rw [HS.out]; rfl
          · rw [HS.out, Nat.succ_mul]; omega
        · obtain rfl : n = k := by omega
          have hf := HN.out
          have ht : l.take n = l := by rw [hf, List.take_length]
          rw [ht]
          have HF := Lib.hid hf
          clear hs ht hf
          obtain ⟨q, hq⟩ : ∃ q, q = opsum l := ⟨_, rfl⟩
          have HQ := Lib.hid hq
          rw [← hq]
          clear hq
          go_wp2
          go_ret
          refine FewP.mk _ fun h => ⟨by rw [← HF.out]; omega, ?_⟩
          rw [← HQ.out]
          have h' : (q : Int) ≤ 2000 := by simpa using h
          omega
    · have hle : decide ((n : Int) ≤ 60) = false := by simp; omega
      go_enter Tryd.func7, Tryd.ntmps7
      go_wp2
      refine wp_loop_rounds 1 ?_
      rw [rounds_succ]
      go_wp2
      all_goals
        go_ret
        exact FewP.mk _ fun h => (by cases h)
end Go.Proofs.YtgpmfiphebmldaaDoor
