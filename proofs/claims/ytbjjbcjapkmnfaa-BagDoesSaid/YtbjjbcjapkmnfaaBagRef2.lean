/- The document's bag: New, Put, At, Twice. -/
import Derived.Test.YtbjjbcjapkmnfaaBagRef
import Derived.Test.YtbjjbcjapkmnfaaTail
import Derived.Lib.AppendZeros
namespace Go.Proofs.Ytbjjbcjapkmnfaa
open Go Go.RowKit

/-- what is left of a region in a forced order -/
theorem any_tail {P : Program} {l : List Oper} {Q : Exit → Act → World → Prop} {a : Act} {w : World} {listed : Array Bool} {fuel : Nat} (k : Nat) (hf : fuel = l.length - k) (hs : Region.noSelect l.toArray = true) (hB : seqP .any l.toArray (l.length - k) k listed = true)
    (hQ0 : ∀ c a t v w, Q (.panic c) (a.put (some t) v) w → Q (.panic c) a w) (h : wpList P l.toArray Q (l.drop k) a w) : wpAny P .any l.toArray Q fuel listed a w := by
  have := wpAny_of_seqP (md := .any) (Q' := Q) hs (panic_put hQ0) (l.drop k) k listed a w (fun j => by simp [List.getElem?_drop]) (by rw [List.length_drop]; exact hB) h
  rw [List.length_drop, ← hf] at this
  exact this
theorem refnew_any {M : Nat} (h1 : 1 ≤ M) (h2 : M ≤ 1000) (w : World) (B : Nat) : Calls Try.prog 9 #[.int .i64 (M : Int)] w fun e w' => e = .returned (.tuple #[.pointer (some ⟨w.heap.size, 0, none⟩), .int .i64 0]) ∧ Rb w' B w.heap.size (.slice none 0 0) M [] ∧ Below w.heap.size w w' := by
  have m1 := Blk.new w #[.slice none 0 0, .int .i64 (M : Int)] 39
  have hB := (Below.refl w.heap.size w).alloc (Nat.le_refl _) (.cells #[.slice none 0 0, .int .i64 (M : Int)] 39)
  have q1 : ¬ (M : Int) < 1 := by omega
  have q2 : ¬ (1000 : Int) < (M : Int) := by omega
  go_enter Try.func9, Try.ntmps9
  go_wp2
  go_ret2
  exact ⟨rfl, ⟨m1, World.ownsRow_nil _ _ _ _, by simp⟩, hB⟩
theorem refnew_err {M : Int} (h : M < 1 ∨ 1000 < M) (w : World) : Calls Try.prog 9 #[.int .i64 M] w fun e w' => e = .returned (.tuple #[.pointer none, .int .i64 1]) ∧ w = w' := by
  go_enter Try.func9, Try.ntmps9
  rcases h with h | h
  · go_wp2
    go_ret2
    exact ⟨rfl, rfl⟩
  · have q1 : ¬ M < 1 := by omega
    go_wp2
    go_ret2
    exact ⟨rfl, rfl⟩

abbrev mlB (m : Ml) : Obj := .cells #[.int .i64 m.fr, .int .i64 m.to, .string m.bd] 33
theorem refput_big (h : Nat) (m : Ml) (hs : 4096 < m.bd.size) (w : World) : Calls Try.prog 19 #[.pointer (some ⟨h, 0, none⟩), .agg #[.int .i64 m.fr, .int .i64 m.to, .string m.bd]] w fun e w' => e = .returned (.int .i64 2) ∧ Below w.heap.size w w' := by
  have hB := (Below.refl w.heap.size w).alloc (Nat.le_refl _) (mlB m)
  have b0 := Blk.new w #[.int .i64 m.fr, .int .i64 m.to, .string m.bd] 33
  have q2 : (w.alloc (mlB m)).cell? ⟨w.heap.size, 2, none⟩ = some (.string m.bd) := b0.cell 2
  have h1 : (4096 : Int) < (m.bd.size : Int) := by omega
  clear b0
  go_enter Try.func19, Try.ntmps19
  go_wp2
  go_ret
  exact ⟨rfl, hB⟩
set_option maxHeartbeats 2000000 in
theorem refput_full {w : World} {B h M : Nat} {v : Value} {K : List Ml} (r : Rb w B h v M K) (hf : M ≤ K.length) (m : Ml) (hs : m.bd.size ≤ 4096) :
    Calls Try.prog 19 #[.pointer (some ⟨h, 0, none⟩), .agg #[.int .i64 m.fr, .int .i64 m.to, .string m.bd]] w fun e w' => e = .returned (.int .i64 12) ∧ Below w.heap.size w w' := by
  have hB := (Below.refl w.heap.size w).alloc (Nat.le_refl _) (mlB m)
  have r1 := r.bel hB
  have b0 := Blk.new w #[.int .i64 m.fr, .int .i64 m.to, .string m.bd] 33
  have q2 : (w.alloc (mlB m)).cell? ⟨w.heap.size, 2, none⟩ = some (.string m.bd) := b0.cell 2
  have h1 : ¬ (4096 : Int) < (m.bd.size : Int) := by omega
  obtain ⟨a, c, rfl, k0⟩ := r1.shape
  have k1 := r1.c1
  have h2 : (M : Int) ≤ (K.length : Int) := by omega
  have HB := Lib.hid hB
  clear b0 r r1 hB
  generalize K.length = n at *
  go_enter Try.func19, Try.ntmps19
  go_wp2
  go_region
  go_wp2
  go_ret
  exact ⟨rfl, HB.out.trans ⟨rfl, rfl, rfl, Nat.le_refl _, fun _ _ => rfl⟩⟩
set_option maxHeartbeats 4000000 in
theorem refput_yes {w : World} {B h M : Nat} {v : Value} {K : List Ml} (r : Rb w B h v M K) (hf : K.length < M) (hM : M ≤ 1000) (hBw : B ≤ w.heap.size) (m : Ml) (hs : m.bd.size ≤ 4096) :
    Calls Try.prog 19 #[.pointer (some ⟨h, 0, none⟩), .agg #[.int .i64 m.fr, .int .i64 m.to, .string m.bd]] w fun e w' => e = .returned (.int .i64 0) ∧ Rn w w' B h v M (K ++ [m]) := by
  have hB := (Below.refl w.heap.size w).alloc (Nat.le_refl _) (mlB m)
  have r1 := r.bel hB
  have b0 := Blk.new w #[.int .i64 m.fr, .int .i64 m.to, .string m.bd] 33
  have q2 : (w.alloc (mlB m)).cell? ⟨w.heap.size, 2, none⟩ = some (.string m.bd) := b0.cell 2
  have q0 : (w.alloc (mlB m)).cell? ⟨w.heap.size, 0, none⟩ = some (.int .i64 m.fr) := b0.cell 0
  have q1 : (w.alloc (mlB m)).cell? ⟨w.heap.size, 1, none⟩ = some (.int .i64 m.to) := b0.cell 1
  have h1 : ¬ (4096 : Int) < (m.bd.size : Int) := by omega
  have hBd : Below w.heap.size w (w.alloc (mlB m)).drew.drew := hB.trans ⟨rfl, rfl, rfl, Nat.le_refl _, fun _ _ => rfl⟩
  have r2 := r.bel hBd
  obtain ⟨g, c', w3, hap, o3, g3, l3⟩ := app_ml r2.own m (by show B ≤ (w.alloc (mlB m)).heap.size; simp; omega) r.len
  have hlt := r.lt
  have hsz3 : w.heap.size + 1 ≤ w3.heap.size := by
    have e1 := g3.size
    have e2 : ((w.alloc (mlB m)).drew.drew.alloc (mlB m)).heap.size = w.heap.size + 1 + 1 := by simp
    rw [e2] at e1
    omega
  have hk3 : ∀ k, k < w.heap.size → v.ownBlock ≠ some k → w3.heap[k]? = w.heap[k]? := fun k hk hne =>
    (g3.block k (by simp; omega) (fun e => hne e.symm)).trans ((Below.heap_alloc _ _ k (by simp; omega)).trans (hBd.block k hk))
  have HR : Hid (Rn w (w3.setCell ⟨h, 0, none⟩ (.slice (some ⟨g, 0, none⟩) (K.length + 1) c')) B h v M (K ++ [m])) :=
    ⟨_, r.store hk3 (by omega) (g3.os.trans rfl) (g3.tape.trans rfl) (g3.output.trans rfl) o3 (by simp; omega) (by
      intro f hf
      obtain rfl : g = f := by simpa [Value.ownBlock] using hf
      rcases l3 with l3 | l3
      · exact .inl l3
      · right
        rw [l3]; simp; omega)⟩
  have hb3 : Blk w3 h #[v, .int .i64 (M : Int)] 39 := (hk3 h hlt r.ne).trans r.blk
  have c3 := hb3.cell 0
  have f3 := hb3.free 0
  obtain ⟨a, c, rfl, k0⟩ := r1.shape
  have k1 := r1.c1
  have h2 : ¬ (M : Int) ≤ (K.length : Int) := by omega
  have hsz : (w.alloc (mlB m)).drew.drew.heap.size = w.heap.size + 1 := by simp
  rw [hsz] at hap
  change Sem.run _ _ ((w.alloc (.cells #[.int .i64 m.fr, .int .i64 m.to, .string m.bd] 33)).alloc (.cells #[.int .i64 m.fr, .int .i64 m.to, .string m.bd] 33)).drew.drew = _ at hap
  have HAP := Lib.hid hap
  clear b0 r r1 hB r2 o3 g3 l3 hk3 hb3 hBd hsz hap
  generalize K.length = n at *
  go_enter Try.func19, Try.ntmps19
  go_wp2
  go_region
  go_wp2
  refine wp_region_any (by kernel_rfl) ?_
  change wpAny _ _ _ _ _ _ _ (World.drew _)
  refine wpAny_take (i := 0) (v := ?_) rfl (by kernel_rfl) (by kernel_rfl) (by kernel_rfl) (fun _ _ _ h => h) (Or.inl ⟨by rfl, ?_⟩) ?_
  rotate_left
  · intro w9
    go_simp
    (try with_reducible rfl)
  (try simp only [Act.put]); (try simp only [List.setIfInBounds_toArray]); (try simp only [List.set_cons_succ]); (try simp only [List.set_cons_zero])
  refine wpAny_take (i := 1) (v := ?_) rfl (by kernel_rfl) (by kernel_rfl) (by kernel_rfl) (fun _ _ _ h => h) (Or.inl ⟨by rfl, ?_⟩) ?_
  rotate_left
  · intro w9
    go_simp
    (try with_reducible rfl)
  (try simp only [Act.put]); (try simp only [List.setIfInBounds_toArray]); (try simp only [List.set_cons_succ]); (try simp only [List.set_cons_zero])
  refine wpAny_take (i := 2) (v := ?_) rfl (by kernel_rfl) (by kernel_rfl) (by kernel_rfl) (fun _ _ _ h => h) (Or.inl ⟨by rfl, ?_⟩) ?_
  rotate_left
  · intro w9
    go_simp
    (try with_reducible rfl)
  (try simp only [Act.put]); (try simp only [List.setIfInBounds_toArray]); (try simp only [List.set_cons_succ]); (try simp only [List.set_cons_zero])
  refine wpAny_take (i := 3) (v := ?_) rfl (by kernel_rfl) (by kernel_rfl) (by kernel_rfl) (fun _ _ _ h => h) (Or.inl ⟨by rfl, ?_⟩) ?_
  rotate_left
  · intro w9
    go_simp
    (try with_reducible rfl)
  (try simp only [Act.put]); (try simp only [List.setIfInBounds_toArray]); (try simp only [List.set_cons_succ]); (try simp only [List.set_cons_zero])
  refine wpAny_ready (rs := [4, 5]) (by kernel_rfl) (by simp) ?_
  refine AllReady.cons rfl (fun K hK => ?_) ?_
  · go_simp
    refine hK _ _ ?_
    clear hK K
    (try simp only [Act.put]); (try simp only [List.setIfInBounds_toArray]); (try simp only [List.set_cons_succ]); (try simp only [List.set_cons_zero])
    refine wpAny_ready (rs := [5]) (by kernel_rfl) (by simp) ?_
    refine AllReady.cons rfl (fun K hK => ?_) ?_
    · go_simp
      refine hK _ _ ?_
      clear hK K
      (try simp only [Act.put]); (try simp only [List.setIfInBounds_toArray]); (try simp only [List.set_cons_succ]); (try simp only [List.set_cons_zero])
      refine wpAny_ready (rs := [6]) (by kernel_rfl) (by simp) ?_
      refine AllReady.cons rfl (fun K hK => ?_) ?_
      · go_simp
        refine hK _ _ ?_
        clear hK K
        (try simp only [Act.put]); (try simp only [List.setIfInBounds_toArray]); (try simp only [List.set_cons_succ]); (try simp only [List.set_cons_zero])
        refine any_tail 7 (by kernel_rfl) (by kernel_rfl) (by kernel_rfl) (fun _ _ _ _ _ h => h) ?_
        simp only [List.drop_succ_cons, List.drop_zero]
        go_wp2_with (at_builtin; refine Lib.wpList_append_run _ rfl _ _ 37 37 rfl _ _ rfl rfl _ _ HAP.out ?_)
        go_ret
        exact ⟨rfl, HR.out⟩
      exact AllReady.nil
    exact AllReady.nil
  refine AllReady.cons rfl (fun K hK => ?_) ?_
  · go_simp
    refine hK _ _ ?_
    clear hK K
    (try simp only [Act.put]); (try simp only [List.setIfInBounds_toArray]); (try simp only [List.set_cons_succ]); (try simp only [List.set_cons_zero])
    refine wpAny_ready (rs := [4, 6]) (by kernel_rfl) (by simp) ?_
    refine AllReady.cons rfl (fun K hK => ?_) ?_
    · go_simp
      refine hK _ _ ?_
      clear hK K
      (try simp only [Act.put]); (try simp only [List.setIfInBounds_toArray]); (try simp only [List.set_cons_succ]); (try simp only [List.set_cons_zero])
      refine wpAny_ready (rs := [6]) (by kernel_rfl) (by simp) ?_
      refine AllReady.cons rfl (fun K hK => ?_) ?_
      · go_simp
        refine hK _ _ ?_
        clear hK K
        (try simp only [Act.put]); (try simp only [List.setIfInBounds_toArray]); (try simp only [List.set_cons_succ]); (try simp only [List.set_cons_zero])
        refine any_tail 7 (by kernel_rfl) (by kernel_rfl) (by kernel_rfl) (fun _ _ _ _ _ h => h) ?_
        simp only [List.drop_succ_cons, List.drop_zero]
        go_wp2_with (at_builtin; refine Lib.wpList_append_run _ rfl _ _ 37 37 rfl _ _ rfl rfl _ _ HAP.out ?_)
        go_ret
        exact ⟨rfl, HR.out⟩
      exact AllReady.nil
    refine AllReady.cons rfl (fun K hK => ?_) ?_
    · go_simp
      refine hK _ _ ?_
      clear hK K
      (try simp only [Act.put]); (try simp only [List.setIfInBounds_toArray]); (try simp only [List.set_cons_succ]); (try simp only [List.set_cons_zero])
      refine wpAny_ready (rs := [4]) (by kernel_rfl) (by simp) ?_
      refine AllReady.cons rfl (fun K hK => ?_) ?_
      · go_simp
        refine hK _ _ ?_
        clear hK K
        (try simp only [Act.put]); (try simp only [List.setIfInBounds_toArray]); (try simp only [List.set_cons_succ]); (try simp only [List.set_cons_zero])
        refine any_tail 7 (by kernel_rfl) (by kernel_rfl) (by kernel_rfl) (fun _ _ _ _ _ h => h) ?_
        simp only [List.drop_succ_cons, List.drop_zero]
        go_wp2_with (at_builtin; refine Lib.wpList_append_run _ rfl _ _ 37 37 rfl _ _ rfl rfl _ _ HAP.out ?_)
        go_ret
        exact ⟨rfl, HR.out⟩
      exact AllReady.nil
    exact AllReady.nil
  exact AllReady.nil
end Go.Proofs.Ytbjjbcjapkmnfaa
