/- A bag and the document's bag, side by side. -/
import Derived.Test.YtbjjbcjapkmnfaaBagOpen
namespace Go.Proofs.Ytbjjbcjapkmnfaa
open Go Go.RowKit Go.Sort

/-- a bag in g with the messages K1, the document's bag in h with the messages K2, its row v; all made behind B -/
structure Pr (B : Nat) (w0 w : World) (g h M : Nat) (K1 K2 : List Ml) (v : Value) : Prop where
  has : HasB B w0 w g M K1
  rb : Rb w B h v M K2
  hB : B ≤ h
variable {B g h M : Nat} {w0 w : World} {K1 K2 : List Ml} {v : Value}
theorem Pr.bel {w' : World} (t : Pr B w0 w g h M K1 K2 v) (hb : Below w.heap.size w w') : Pr B w0 w' g h M K1 K2 v := ⟨t.has.bel hb, t.rb.bel hb, t.hB⟩
theorem Rb.fr {w' : World} (r : Rb w B h v M K2) (hF : Fr w w') : Rb w' B h v M K2 := by
  refine ⟨hF _ _ _ (by decide) r.blk, ?_, r.len⟩
  rcases own_cells r.own with ⟨rfl, h0⟩ | ⟨b, c, rfl, _, _, _, _, _, cur, hc⟩
  · exact own_keep r.own fun k hk => by simp [Value.ownBlock] at hk
  · have hc' := hF b cur 33 (by decide) hc
    exact own_keep r.own fun k hk => by
      obtain rfl : b = k := by simpa [Value.ownBlock] using hk
      exact hc'.trans hc.symm
/-- the document's bag changed: blocks that are neither a document's bag nor its row stay -/
def Fr2 (w w' : World) : Prop := ∀ (k : Nat) (cs : Array Value) (t : TypeId), t ≠ 39 → t ≠ 33 → Blk w k cs t → Blk w' k cs t
theorem Fr2.of {w w' : World} (h : Below w.heap.size w w') : Fr2 w w' := fun _ _ _ _ _ hk => hk.below h hk.lt
theorem Rb.ne_row (r : Rb w B h v M K2) {k : Nat} {cs : Array Value} {t : TypeId} (ht : t ≠ 33) (hk : Blk w k cs t) : v.ownBlock ≠ some k := by
  rcases own_cells r.own with ⟨rfl, _⟩ | ⟨b, c, rfl, _, _, _, _, _, cur, hc⟩
  · simp [Value.ownBlock]
  · intro e
    obtain rfl : b = k := by simpa [Value.ownBlock] using e
    unfold Blk at hk
    rw [hk] at hc
    simp at hc
    exact ht hc.2
theorem Rb.ne_blk (r : Rb w B h v M K2) {k : Nat} {cs : Array Value} {t : TypeId} (ht : t ≠ 39) (hk : Blk w k cs t) : k ≠ h := by
  rintro rfl
  have := r.blk
  unfold Blk at this hk
  rw [hk] at this
  simp at this
  exact ht this.2
theorem Rx.fr2 {w' : World} {v' : Value} {K' : List Ml} (x : Rx w w' B h v v' M K') (r : Rb w B h v M K2) : Fr2 w w' := fun k _ _ h1 h2 hk => (x.block k hk.lt (r.ne_blk h1 hk) (r.ne_row h2 hk)).trans hk
theorem Rx.keep {w' : World} {v' : Value} {K' : List Ml} (x : Rx w w' B h v v' M K') (r : Rb w B h v M K2) {q : Nat} {m : Ml} (hq : Blk w q (mlC m) 33) (hv : v.ownBlock ≠ some q) : Blk w' q (mlC m) 33 := (x.block q hq.lt (r.ne_blk (by decide) hq) hv).trans hq
theorem Pr.rx {w' : World} {v' : Value} {K' : List Ml} (t : Pr B w0 w g h M K1 K2 v) (x : Rx w w' B h v v' M K') : Pr B w0 w' g h M K1 K' v' := by
  refine ⟨?_, x.rb, t.hB⟩
  have hle := t.has.le
  obtain ⟨mb, L, h1, h2, h3, h4, h5, h6, h7⟩ := t.has
  have hmb : mb ≠ h ∧ v.ownBlock ≠ some mb := by
    refine ⟨fun e => h1.own.ne t.rb.blk e.symm, ?_⟩
    rcases own_cells t.rb.own with ⟨e, _⟩ | ⟨b, c, e, _, _, _, _, _, cur, hc⟩
    · rw [e]; simp [Value.ownBlock]
    · intro e2
      obtain rfl : b = mb := by rw [e] at e2; simpa [Value.ownBlock] using e2
      exact h1.own.ne (show Blk w b cur _ from hc) rfl
  refine ⟨mb, L, ⟨(x.block g h1.lt (t.rb.ne_blk (by decide) h1.blk) (t.rb.ne_row (by decide) h1.blk)).trans h1.blk, h1.own.same (x.block mb h1.own.lt hmb.1 hmb.2), h1.len⟩, h2, h3, ?_, h5, h6, h7⟩
  have hB := t.hB
  exact h4.trans ⟨x.os, x.tape, x.output, x.size, fun k hk => x.block k (by omega) (by omega) (fun e => by have := (t.rb.own.lt k e).1; omega)⟩
theorem Pr.fr {w' : World} {K' : List Ml} (t : Pr B w0 w g h M K1 K2 v) (hH : HasB B w0 w' g M K') (hF : Fr w w') : Pr B w0 w' g h M K' K2 v := ⟨hH, t.rb.fr hF, t.hB⟩

/-! the bag's calls -/
theorem pr_put (t : Pr B w0 w g h M K1 K2 v) (m : Ml) : Calls Try.prog 13 #[.pointer (some ⟨g, 0, none⟩), .agg #[.int .i64 m.fr, .int .i64 m.to, .string m.bd]] w fun e w' => e = .returned (.int .i64 (putE M K1 m)) ∧ Pr B w0 w' g h M (putK M K1 m) K2 v ∧ Fr w w' :=
  (hb_put t.has m).mono fun _ _ ⟨h1, h2, h3⟩ => ⟨h1, t.fr h2 h3, h3⟩
theorem pr_take (t : Pr B w0 w g h M K1 K2 v) (i : Int) : Calls Try.prog 14 #[.pointer (some ⟨g, 0, none⟩), .int .i64 i] w fun e w' => e = .returned (.tuple #[.agg (mlC (atV K1 i)), .int .i64 (atE K1 i)]) ∧ Pr B w0 w' g h M (takeK K1 i) K2 v ∧ Fr w w' :=
  (hb_take t.has i).mono fun _ _ ⟨h1, h2, h3⟩ => ⟨h1, t.fr h2 h3, h3⟩
theorem pr_twice (t : Pr B w0 w g h M K1 K2 v) (i : Int) : Calls Try.prog 16 #[.pointer (some ⟨g, 0, none⟩), .int .i64 i] w fun e w' => e = .returned (.int .i64 (twE M K1 i)) ∧ Pr B w0 w' g h M (twK M K1 i) K2 v ∧ Fr w w' :=
  (hb_twice t.has i).mono fun _ _ ⟨h1, h2, h3⟩ => ⟨h1, t.fr h2 h3, h3⟩
theorem pr_lose (t : Pr B w0 w g h M K1 K2 v) (a : Int) : Calls Try.prog 18 #[.pointer (some ⟨g, 0, none⟩), .int .i64 a] w fun e w' => e = .returned (.int .i64 ((toL K1 a 0).length : Nat)) ∧ Pr B w0 w' g h M (left K1 a) K2 v ∧ Fr w w' :=
  (hb_lose t.has a).mono fun _ _ ⟨h1, h2, h3⟩ => ⟨h1, t.fr h2 h3, h3⟩

/-! the document's -/
/-- the document's bag has the messages K' now -/
def Nx (B : Nat) (w0 w w' : World) (g h M : Nat) (K1 K' : List Ml) (v : Value) : Prop := ∃ v', Pr B w0 w' g h M K1 K' v' ∧ Fr2 w w' ∧ ∀ (q : Nat) (m : Ml), v.ownBlock ≠ some q → Blk w q (mlC m) 33 → Blk w' q (mlC m) 33
theorem Pr.nx {w' : World} {K' : List Ml} (t : Pr B w0 w g h M K1 K2 v) (hN : Rn w w' B h v M K') : Nx B w0 w w' g h M K1 K' v := by
  obtain ⟨v', x⟩ := hN
  exact ⟨v', t.rx x, x.fr2 t.rb, fun q m h1 h2 => x.keep t.rb h2 h1⟩
theorem Pr.same {w' : World} (t : Pr B w0 w g h M K1 K2 v) (hb : Below w.heap.size w w') : Nx B w0 w w' g h M K1 K2 v := ⟨v, t.bel hb, Fr2.of hb, fun _ _ _ h2 => h2.below hb h2.lt⟩
theorem pr_rput (t : Pr B w0 w g h M K1 K2 v) (hM : M ≤ 1000) (m : Ml) : Calls Try.prog 19 #[.pointer (some ⟨h, 0, none⟩), .agg #[.int .i64 m.fr, .int .i64 m.to, .string m.bd]] w fun e w' => e = .returned (.int .i64 (putE M K2 m)) ∧ Nx B w0 w w' g h M K1 (putK M K2 m) v := by
  unfold putE putK
  by_cases hs : 4096 < m.bd.size
  · rw [if_pos hs, if_pos hs]
    exact (refput_big h m hs w).mono fun _ _ ⟨h1, h2⟩ => ⟨h1, t.same h2⟩
  · rw [if_neg hs, if_neg hs]
    by_cases hf : M ≤ K2.length
    · rw [if_pos hf, if_pos hf]
      exact (refput_full t.rb hf m (by omega)).mono fun _ _ ⟨h1, h2⟩ => ⟨h1, t.same h2⟩
    · rw [if_neg hf, if_neg hf]
      exact (refput_yes t.rb (by omega) hM t.has.le m (by omega)).mono fun _ _ ⟨h1, h2⟩ => ⟨h1, t.nx h2⟩
theorem pr_rtake (t : Pr B w0 w g h M K1 K2 v) (i : Int) : Calls Try.prog 20 #[.pointer (some ⟨h, 0, none⟩), .int .i64 i] w fun e w' => e = .returned (.tuple #[.agg (mlC (atV K2 i)), .int .i64 (atE K2 i)]) ∧ Nx B w0 w w' g h M K1 (takeK K2 i) v := by
  unfold atV atE takeK
  cases hx : ix K2 i with
  | none => exact (reftake_no t.rb t.has.le (ix_no hx)).mono fun _ _ ⟨h1, h2⟩ => ⟨h1, t.nx h2⟩
  | some m =>
    obtain ⟨k, rfl, hk⟩ := ix_yes hx
    exact (reftake_yes t.rb t.has.le hk).mono fun _ _ ⟨h1, h2⟩ => ⟨h1, by simpa using t.nx h2⟩
theorem pr_rtwice (t : Pr B w0 w g h M K1 K2 v) (hM : M ≤ 1000) (hT : ∀ m ∈ K2, m.bd.size ≤ 4096) (i : Int) : Calls Try.prog 21 #[.pointer (some ⟨h, 0, none⟩), .int .i64 i] w fun e w' => e = .returned (.int .i64 (twE M K2 i)) ∧ Nx B w0 w w' g h M K1 (twK M K2 i) v := by
  unfold twE twK
  cases hx : ix K2 i with
  | none => exact (reftwice_no t.rb (ix_no hx)).mono fun _ _ ⟨h1, h2⟩ => ⟨h1, t.same h2⟩
  | some m =>
    obtain ⟨k, rfl, hk⟩ := ix_yes hx
    have hs := hT m (List.mem_of_getElem? hk)
    by_cases hf : M ≤ K2.length
    · refine (reftwice_full t.rb hk hf hs).mono ?_
      rintro e w' ⟨rfl, h2⟩
      exact ⟨by simp [hf], by simpa [hf] using t.same h2⟩
    · refine (reftwice_yes t.rb hk (by omega) hM t.has.le hs).mono ?_
      rintro e w' ⟨rfl, h2⟩
      exact ⟨by simp [hf], by simpa [hf] using t.nx h2⟩
theorem pr_rlose (t : Pr B w0 w g h M K1 K2 v) (a : Int) : Calls Try.prog 22 #[.pointer (some ⟨h, 0, none⟩), .int .i64 a] w fun e w' => e = .returned (.int .i64 ((toL K2 a 0).length : Nat)) ∧ Nx B w0 w w' g h M K1 (left K2 a) v :=
  (reflose_any t.rb t.has.le a).mono fun _ _ ⟨h1, h2⟩ => ⟨h1, t.nx h2⟩
theorem pr_rat (t : Pr B w0 w g h M K1 K2 v) (i : Int) : Calls Try.prog 23 #[.pointer (some ⟨h, 0, none⟩), .int .i64 i] w fun e w' => e = .returned (.tuple #[.agg (mlC (atV K2 i)), .int .i64 (atE K2 i)]) ∧ Below w.heap.size w w' := by
  unfold atV atE
  cases hx : ix K2 i with
  | none => exact refat_no t.rb (ix_no hx)
  | some m =>
    obtain ⟨k, rfl, hk⟩ := ix_yes hx
    exact refat_yes t.rb hk
theorem pr_rto (t : Pr B w0 w g h M K1 K2 v) (a : Int) : Calls Try.prog 25 #[.pointer (some ⟨h, 0, none⟩), .int .i64 a] w fun e w' => ∃ s c, e = .returned (.slice s (toL K2 a 0).length c) ∧ IsI w' (.slice s (toL K2 a 0).length c) (toL K2 a 0) ∧ Below w.heap.size w w' := by
  refine (refto_any t.rb a).mono ?_
  rintro e w' ⟨u, rfl, hb, ho⟩
  obtain ⟨s, c, rfl⟩ := own_form ho
  exact ⟨s, c, rfl, own_isI ho rfl, hb⟩

/-! the texts stay short -/
def Short (K : List Ml) : Prop := ∀ m ∈ K, m.bd.size ≤ 4096
theorem ix_mem {K : List Ml} {i : Int} {m : Ml} (h : ix K i = some m) : m ∈ K := by
  obtain ⟨k, rfl, hk⟩ := ix_yes h
  exact List.mem_of_getElem? hk
theorem Short.put {K : List Ml} (h : Short K) (m : Ml) : Short (putK M K m) := by
  unfold putK
  split
  · exact h
  · split
    · exact h
    · intro x hx
      rcases List.mem_append.1 hx with hx | hx
      · exact h x hx
      · obtain rfl : x = m := by simpa using hx
        omega
theorem Short.take {K : List Ml} (h : Short K) (i : Int) : Short (takeK K i) := by
  unfold takeK
  split
  · exact fun x hx => h x (List.mem_of_mem_eraseIdx hx)
  · exact h
theorem Short.twice {K : List Ml} (h : Short K) (i : Int) : Short (twK M K i) := by
  unfold twK
  split
  · rename_i m hm
    split
    · exact h
    · intro x hx
      rcases List.mem_append.1 hx with hx | hx
      · exact h x hx
      · obtain rfl : x = m := by simpa using hx
        exact h x (ix_mem hm)
  · exact h
theorem Short.left {K : List Ml} (h : Short K) (a : Int) : Short (left K a) := fun x hx => h x (List.mem_filter.1 hx).1
theorem Short.nil : Short [] := fun _ h => by simp at h
end Go.Proofs.Ytbjjbcjapkmnfaa
