/- The document's bag: a row of messages in memory. -/
import Derived.Test.YtbjjbcjapkmnfaaBagToN
namespace Go.Proofs.Ytbjjbcjapkmnfaa
open Go Go.RowKit

/-- the cells of messages, one behind the other -/
def rowM : List Ml → List Value
  | [] => []
  | m :: K => .int .i64 m.fr :: .int .i64 m.to :: .string m.bd :: rowM K
theorem rowM_length (K : List Ml) : (rowM K).length = K.length * 3 := by
  induction K with
  | nil => rfl
  | cons m K ih => simp [rowM, ih]; omega
theorem rowM_append (K K' : List Ml) : rowM (K ++ K') = rowM K ++ rowM K' := by
  induction K with
  | nil => rfl
  | cons m K ih => simp [rowM, ih]
theorem rowM_get {K : List Ml} {j : Nat} {m : Ml} (h : K[j]? = some m) : (rowM K)[j * 3]? = some (.int .i64 m.fr) ∧ (rowM K)[j * 3 + 1]? = some (.int .i64 m.to) ∧ (rowM K)[j * 3 + 2]? = some (.string m.bd) := by
  induction K generalizing j with
  | nil => simp at h
  | cons y K ih =>
    cases j with
    | zero => simp only [List.getElem?_cons_zero, Option.some.injEq] at h; subst h; exact ⟨rfl, rfl, rfl⟩
    | succ j => rw [show (j + 1) * 3 = j * 3 + 1 + 1 + 1 by omega]; simpa [rowM] using ih (by simpa using h)
theorem own_cells {w : World} {B e size n : Nat} {v : Value} {xs : List Value} (h : w.ownsRow B e size v n xs) : (v = .slice none 0 0 ∧ n = 0) ∨ ∃ b c, v = .slice (some ⟨b, 0, none⟩) n c ∧ n ≤ c ∧ c ≤ maxLen ∧ B ≤ b ∧ (∀ j u, xs[j]? = some u → w.cell? ⟨b, j, none⟩ = some u) ∧ b < w.heap.size ∧ ∃ cur, w.heap[b]? = some (.cells cur e (0, 0)) := by
  rcases h.2 with ⟨h1, h0⟩ | ⟨g, cap, cur, hv, hb, hg, hc, hm, _, ht⟩
  · exact .inl ⟨h1, h0⟩
  · refine .inr ⟨g, cap, hv, hc, hm, hb, fun j u hj => ?_, (Array.getElem?_eq_some_iff.1 hg).1, cur, hg⟩
    rw [cell_of_row w g j cur e _ hg]
    rw [← ht, List.getElem?_take] at hj
    split at hj
    · simpa using hj
    · cases hj
theorem own_form {w : World} {B e size n : Nat} {v : Value} {xs : List Value} (h : w.ownsRow B e size v n xs) : ∃ a c, v = .slice a n c := by
  rcases own_cells h with ⟨rfl, rfl⟩ | ⟨b, c, rfl, _⟩
  · exact ⟨_, _, rfl⟩
  · exact ⟨_, _, rfl⟩
theorem own_keep {w w' : World} {B e size n : Nat} {v : Value} {xs : List Value} (h : w.ownsRow B e size v n xs) (hk : ∀ k, v.ownBlock = some k → w'.heap[k]? = w.heap[k]?) : w'.ownsRow B e size v n xs := by
  refine ⟨h.1, h.2.imp id ?_⟩
  rintro ⟨g, cap, cur, rfl, h1, h2, h3⟩
  exact ⟨g, cap, cur, rfl, h1, (hk g rfl).trans h2, h3⟩
theorem own_bel {w w' : World} {B e size n : Nat} {v : Value} {xs : List Value} (h : w.ownsRow B e size v n xs) (hb : Below w.heap.size w w') : w'.ownsRow B e size v n xs :=
  own_keep h fun k hk => hb.block k (h.lt k hk).2

/-- one message behind a row of the call's own -/
theorem app_ml {W : World} {B : Nat} {v : Value} {K : List Ml} (h : W.ownsRow B 33 3 v K.length (rowM K)) (m : Ml) (hB : B ≤ W.heap.size) (hn : K.length ≤ 1000000) : ∃ g c w',
    (Builtin.append_ #[37, 37] 37 #[v, .slice (some ⟨W.heap.size, 0, none⟩) 1 1]).run Try.prog (W.alloc (.cells #[.int .i64 m.fr, .int .i64 m.to, .string m.bd] 33)) = .ok (.slice (some ⟨g, 0, none⟩) (K.length + 1) c) w' ∧
    w'.ownsRow B 33 3 (.slice (some ⟨g, 0, none⟩) (K.length + 1) c) (K ++ [m]).length (rowM (K ++ [m])) ∧ (W.alloc (.cells #[.int .i64 m.fr, .int .i64 m.to, .string m.bd] 33)).grownBy w' v.ownBlock ∧ (v.ownBlock = some g ∨ g = W.heap.size + 1) := by
  obtain ⟨i0, hi, hq⟩ := Option.map_eq_some_iff.1 infoM
  simp only [Prod.mk.injEq] at hq
  obtain ⟨q1, q2, q3⟩ := hq
  have hb := Blk.new W #[.int .i64 m.fr, .int .i64 m.to, .string m.bd] 33
  obtain ⟨v', w', hr, h2, h3, _, h5⟩ := run_append_own_at (P := Try.prog) (W.alloc (.cells #[.int .i64 m.fr, .int .i64 m.to, .string m.bd] 33)) B 37 37 33 i0 _ 3 32 Try.underlying37 hi q1 q2 q3 rfl (by omega) v K.length (rowM K) (h.alloc _) ⟨W.heap.size, 0, none⟩ 1 1 (rowM [m]) rfl
    (fun j u hj => by
      rw [Addr.add_mid, Nat.zero_add, hb.cell]
      simpa [rowM] using hj) (fun u hu => by simp [rowM] at hu; rcases hu with rfl | rfl | rfl <;> rfl) (by unfold maxLen; omega) (by omega) (by simp; omega)
  obtain ⟨g, c, rfl⟩ := ownsRow_succ h2
  refine ⟨g, c, w', hr, ?_, h3, ?_⟩
  · rw [rowM_append, List.length_append]
    exact h2
  · rcases h5 with h5 | h5
    · exact .inl h5.symm
    · right
      simpa [Value.ownBlock] using h5
theorem app_int {W : World} {B : Nat} {v : Value} {l : List Nat} (h : W.ownsRow B 3 1 v l.length (ints l)) (x : Nat) (hB : B ≤ W.heap.size) (hn : l.length ≤ 1000000) : ∃ g c w',
    (Builtin.append_ #[47, 47] 47 #[v, .slice (some ⟨W.heap.size, 0, none⟩) 1 1]).run Try.prog (W.alloc (.cells #[.int .i64 (x : Int)] 3)) = .ok (.slice (some ⟨g, 0, none⟩) (l.length + 1) c) w' ∧
    w'.ownsRow B 3 1 (.slice (some ⟨g, 0, none⟩) (l.length + 1) c) (l ++ [x]).length (ints (l ++ [x])) ∧ (W.alloc (.cells #[.int .i64 (x : Int)] 3)).grownBy w' v.ownBlock ∧ (v.ownBlock = some g ∨ g = W.heap.size + 1) := by
  obtain ⟨i0, hi, hq⟩ := Option.map_eq_some_iff.1 infoN
  simp only [Prod.mk.injEq] at hq
  obtain ⟨q1, q2, q3⟩ := hq
  have hb := Blk.new W #[.int .i64 (x : Int)] 3
  obtain ⟨v', w', hr, h2, h3, _, h5⟩ := run_append_own_at (P := Try.prog) (W.alloc (.cells #[.int .i64 (x : Int)] 3)) B 47 47 3 i0 _ 1 8 Try.underlying47 hi q1 q2 q3 rfl (by omega) v l.length (ints l) (h.alloc _) ⟨W.heap.size, 0, none⟩ 1 1 (ints [x]) rfl
    (fun j u hj => by
      rw [Addr.add_mid, Nat.zero_add, hb.cell]
      simpa [ints] using hj) (fun u hu => by simp [ints] at hu; rcases hu with rfl; rfl) (by unfold maxLen; omega) (by omega) (by simp; omega)
  obtain ⟨g, c, rfl⟩ := ownsRow_succ h2
  refine ⟨g, c, w', hr, ?_, h3, ?_⟩
  · rw [ints_append, List.length_append]
    exact h2
  · rcases h5 with h5 | h5
    · exact .inl h5.symm
    · right
      simpa [Value.ownBlock] using h5
/-- .. and what lay below the row lies as it lay -/
theorem app_bel {w0 W w' : World} {B0 B e size n : Nat} {v : Value} {xs : List Value} {o : Obj} (hb : Below B0 w0 W) (h : W.ownsRow B e size v n xs) (hg : (W.alloc o).grownBy w' v.ownBlock) (h0 : B0 ≤ W.heap.size) (hB : B0 ≤ B) : Below B0 w0 w' :=
  (hb.alloc h0 o).grown hg (by simp; omega) fun k hk => Nat.le_trans hB (h.lt k hk).1

/-- the document's bag in block h: its row is v, in a block from B on -/
structure Rb (w : World) (B h : Nat) (v : Value) (M : Nat) (K : List Ml) : Prop where
  blk : Blk w h #[v, .int .i64 (M : Int)] 39
  own : w.ownsRow B 33 3 v K.length (rowM K)
  len : K.length ≤ 1000000
variable {w : World} {B h M : Nat} {v : Value} {K : List Ml}
theorem Rb.lt (r : Rb w B h v M K) : h < w.heap.size := r.blk.lt
theorem Rb.ne (r : Rb w B h v M K) : v.ownBlock ≠ some h := by
  rcases own_cells r.own with ⟨rfl, _⟩ | ⟨b, c, rfl, _, _, _, _, _, cur, hc⟩
  · simp [Value.ownBlock]
  · intro e
    obtain rfl : b = h := by simpa [Value.ownBlock] using e
    have := r.blk
    unfold Blk at this
    rw [hc] at this
    simp at this
theorem Rb.bel {w' : World} (r : Rb w B h v M K) (hb : Below w.heap.size w w') : Rb w' B h v M K := ⟨r.blk.below hb r.lt, own_bel r.own hb, r.len⟩
theorem Rb.keep {w' : World} (r : Rb w B h v M K) (h1 : w'.heap[h]? = w.heap[h]?) (h2 : ∀ k, v.ownBlock = some k → w'.heap[k]? = w.heap[k]?) : Rb w' B h v M K := ⟨h1.trans r.blk, own_keep r.own h2, r.len⟩
theorem Rb.c1 (r : Rb w B h v M K) : w.cell? ⟨h, 1, none⟩ = some (.int .i64 (M : Int)) := r.blk.cell 1
/-- its slice, written out -/
theorem Rb.shape (r : Rb w B h v M K) : ∃ a c, v = .slice a K.length c ∧ w.cell? ⟨h, 0, none⟩ = some (.slice a K.length c) := by
  rcases own_cells r.own with ⟨rfl, h0⟩ | ⟨b, c, rfl, _⟩
  · rw [h0]; exact ⟨_, _, rfl, r.blk.cell 0⟩
  · exact ⟨_, _, rfl, r.blk.cell 0⟩
theorem Rb.item (r : Rb w B h v M K) {j : Nat} {m : Ml} (hj : K[j]? = some m) : ∃ b c, v = .slice (some ⟨b, 0, none⟩) K.length c ∧ w.cell? ⟨h, 0, none⟩ = some (.slice (some ⟨b, 0, none⟩) K.length c) ∧ w.cell? ⟨b, j * 3, none⟩ = some (.int .i64 m.fr) ∧ w.cell? ⟨b, j * 3 + 1, none⟩ = some (.int .i64 m.to) ∧ w.cell? ⟨b, j * 3 + 2, none⟩ = some (.string m.bd) := by
  rcases own_cells r.own with ⟨rfl, h0⟩ | ⟨b, c, rfl, _, _, _, hc, _⟩
  · have := (List.getElem?_eq_some_iff.1 hj).1
    omega
  · obtain ⟨x1, x2, x3⟩ := rowM_get hj
    exact ⟨b, c, rfl, r.blk.cell 0, hc _ _ x1, hc _ _ x2, hc _ _ x3⟩

/-- behind a change of the document's bag: its row is v' then; what was there ahead of it and is none of its own stays -/
structure Rx (w w' : World) (B h : Nat) (v v' : Value) (M : Nat) (K : List Ml) : Prop where
  rb : Rb w' B h v' M K
  own : ∀ f, v'.ownBlock = some f → v.ownBlock = some f ∨ w.heap.size ≤ f
  os : w'.os = w.os
  tape : w'.tape = w.tape
  output : w'.output = w.output
  size : w.heap.size ≤ w'.heap.size
  block : ∀ k, k < w.heap.size → k ≠ h → v.ownBlock ≠ some k → w'.heap[k]? = w.heap[k]?
def Rn (w w' : World) (B h : Nat) (v : Value) (M : Nat) (K : List Ml) : Prop := ∃ v', Rx w w' B h v v' M K
theorem Rn.pre {w1 w2 : World} (hb : Below w.heap.size w w1) (r : Rn w1 w2 B h v M K) : Rn w w2 B h v M K := by
  obtain ⟨v', r⟩ := r
  have hs := hb.size
  exact ⟨v', r.rb, fun f hf => (r.own f hf).imp id (fun h => by omega), r.os.trans hb.os, r.tape.trans hb.tape, r.output.trans hb.output, Nat.le_trans hb.size r.size, fun k hk h1 h2 => (r.block k (Nat.lt_of_lt_of_le hk hb.size) h1 h2).trans (hb.block k hk)⟩
/-- the row is stored: nothing else was changed but what was made behind, and the old row's own block -/
theorem Rb.store {w1 : World} {v' : Value} {K' : List Ml} (r : Rb w B h v M K) (hg : ∀ k, k < w.heap.size → v.ownBlock ≠ some k → w1.heap[k]? = w.heap[k]?) (hs : w.heap.size ≤ w1.heap.size) (ho : w1.os = w.os) (ht : w1.tape = w.tape) (hu : w1.output = w.output)
    (hO : w1.ownsRow B 33 3 v' K'.length (rowM K')) (hl : K'.length ≤ 1000000) (hv : ∀ f, v'.ownBlock = some f → v.ownBlock = some f ∨ w.heap.size ≤ f) : Rx w (w1.setCell ⟨h, 0, none⟩ v') B h v v' M K' := by
  have hb1 : Blk w1 h #[v, .int .i64 (M : Int)] 39 := (hg h r.lt r.ne).trans r.blk
  have hne : v'.ownBlock ≠ some h := fun e => by
    rcases hv h e with hv | hv
    · exact r.ne hv
    · have := r.lt; omega
  refine ⟨⟨hb1.put 0 v', own_keep hO fun k hk => Below.heap_setCell _ _ _ _ (by intro e; exact hne (by rw [hk]; simpa using e)), hl⟩, hv, ho, ht, hu, by simpa [World.setCell] using hs, fun k hk h1 h2 => (Below.heap_setCell _ _ _ _ (by simpa using h1)).trans (hg k hk h2)⟩
theorem Rx.setRow {w1 : World} {v' : Value} (r : Rx w w1 B h v v' M K) {s : Nat} (hs : w.heap.size ≤ s) (h1 : s ≠ h) (h2 : v'.ownBlock ≠ some s) (cs : Array Value) : Rx w (w1.setRow s cs) B h v v' M K :=
  ⟨⟨r.rb.blk.setRow_other s cs (fun e => h1 e.symm), own_keep r.rb.own fun k hk => Go.setRow_other _ _ k _ (fun e => h2 (by rw [hk, e])), r.rb.len⟩, r.own, r.os, r.tape, r.output, by simpa [World.setRow] using r.size, fun k hk h3 h4 => (Go.setRow_other _ _ k _ (by omega)).trans (r.block k hk h3 h4)⟩
end Go.Proofs.Ytbjjbcjapkmnfaa
