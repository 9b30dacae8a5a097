/- A row of peers that is written in place: what it holds, told as a function; swapped, rotated. -/
import Derived.Test.YtkcljbolopephaaTabSeg
import Derived.Test.YtkcljbolopephaaTabTail
import Derived.Deep.Upon
namespace Go.Proofs.Ytkcljbolopephaa
set_option maxRecDepth 100000
open Go Go.RowKit Go.Sort

/-- the peers f 0 to f (n - 1) lie in block b, from offset o on, and may be written -/
structure Dat (w : World) (b o : Nat) (f : Nat → Pe) (n : Nat) : Prop where
  cells : w.rangeAt b o (flat (seg f 0 n))
  there : w.there b o (n * 21)
  lt : b < w.heap.size
theorem range_flatD {w : World} {b : Nat} : ∀ {L : List Pe} {o : Nat}, (∀ i x, L[i]? = some x → w.rangeAt b (o + i * 21) (peC x)) → w.rangeAt b o (flat L)
  | [], o, _ => fun j v hv => by simp [flat] at hv
  | x :: L, o, h => fun j v hv => by
    by_cases hj : j < 21
    · have := h 0 x rfl j v (by rw [flat, List.getElem?_append_left (by rw [peC_length]; exact hj)] at hv; exact hv)
      rwa [Nat.zero_mul, Nat.add_zero] at this
    · have := range_flatD (L := L) (o := o + 21) (fun i y hy => by
        have := h (i + 1) y (by simpa using hy)
        rwa [show o + (i + 1) * 21 = o + 21 + i * 21 by omega] at this) (j - 21) v (by rw [flat, List.getElem?_append_right (by rw [peC_length]; omega), peC_length] at hv; exact hv)
      rwa [show o + 21 + (j - 21) = o + j by omega] at this
theorem Dat.at {w : World} {b o n : Nat} {f : Nat → Pe} (h : Dat w b o f n) {i : Nat} (hi : i < n) : w.rangeAt b (o + i * 21) (peC (f i)) :=
  row_peer h.cells (by rw [seg_get _ _ _ _ (by omega), Nat.zero_add])
theorem Dat.thereAt {w : World} {b o n : Nat} {f : Nat → Pe} (h : Dat w b o f n) {i : Nat} (hi : i < n) : w.there b (o + i * 21) 21 := fun j hj => by
  have := h.there (i * 21 + j) (by omega)
  rwa [show o + (i * 21 + j) = o + i * 21 + j by omega] at this
theorem Dat.of {w : World} {b o n : Nat} {f : Nat → Pe} (h : ∀ i, i < n → w.rangeAt b (o + i * 21) (peC (f i))) (ht : w.there b o (n * 21)) (hl : b < w.heap.size) : Dat w b o f n :=
  ⟨range_flatD fun i x hx => by
    have hi : i < n := by have := (List.getElem?_eq_some_iff.1 hx).1; rw [seg_length] at this; omega
    rw [seg_get _ _ _ _ (by omega), Nat.zero_add, Option.some.injEq] at hx
    subst hx
    exact h i hi, ht, hl⟩
theorem there_kept {w w' : World} {b o n : Nat} (h : w.there b o n) (hk : w'.heap[b]? = w.heap[b]?) : w'.there b o n := fun j hj => by
  obtain ⟨h1, h2⟩ := h j hj
  exact ⟨by rw [World.cell?_of_block (a := ⟨b, o + j, none⟩) hk]; exact h1, by rw [World.frozen?_of_block (a := ⟨b, o + j, none⟩) hk]; exact h2⟩
theorem Dat.kept {w w' : World} {b o n : Nat} {f : Nat → Pe} (h : Dat w b o f n) (hk : w'.heap[b]? = w.heap[b]?) (hs : w.heap.size ≤ w'.heap.size) : Dat w' b o f n :=
  ⟨fun j v hv => (World.cell?_of_block (a := ⟨b, o + j, none⟩) hk).trans (h.cells j v hv), there_kept h.there hk, Nat.lt_of_lt_of_le h.lt hs⟩
theorem Dat.bel {w w' : World} {b o n : Nat} {f : Nat → Pe} (h : Dat w b o f n) (hb : Below w.heap.size w w') : Dat w' b o f n := h.kept (hb.block b h.lt) hb.size
theorem grownBy_trans {a b c : World} {r : Option Nat} (h : a.grownBy b r) (k : b.grownBy c r) : a.grownBy c r :=
  ⟨k.os.trans h.os, k.tape.trans h.tape, k.output.trans h.output, Nat.le_trans h.size k.size, fun i hi hr => (k.block i (Nat.lt_of_lt_of_le hi h.size) hr).trans (h.block i hi hr)⟩
theorem bel_grown {w w' : World} (h : Below w.heap.size w w') (r : Option Nat) : w.grownBy w' r := ⟨h.os, h.tape, h.output, h.size, fun i hi _ => h.block i hi⟩
theorem tape_setCells (b : Nat) : ∀ (vs : List Value) (o : Nat) (w : World), (w.setCells b o vs).tape = w.tape ∧ (w.setCells b o vs).heap.size = w.heap.size
  | [], _, _ => ⟨rfl, rfl⟩
  | v :: vs, o, w => by
    obtain ⟨h1, h2⟩ := tape_setCells b vs (o + 1) (w.setCell ⟨b, o, none⟩ v)
    exact ⟨h1, h2.trans (by simp [World.setCell])⟩
theorem grown_set (w : World) (b o : Nat) (vs : List Value) : w.grownBy (w.setCells b o vs) (some b) :=
  ⟨World.os_setCells w b o vs, (tape_setCells b vs o w).1, World.output_setCells w b o vs, Nat.le_of_eq (tape_setCells b vs o w).2.symm, fun i hi hr => World.heap_setCells_other w b o vs hi (fun e => hr (by rw [e]))⟩
theorem Dat.set {w : World} {b o n : Nat} {f : Nat → Pe} (h : Dat w b o f n) {i : Nat} (hi : i < n) (x : Pe) : Dat (w.setCells b (o + i * 21) (peC x)) b o (fun j => if j = i then x else f j) n := by
  refine .of (fun j hj => ?_) (World.there_setCells h.there _ _ _) (by rw [(tape_setCells _ _ _ _).2]; exact h.lt)
  by_cases e : j = i
  · subst e
    simp only [if_true]
    exact World.rangeAt_setCells_same _ _ _ _ (by rw [peC_length]; exact h.thereAt hi)
  · rw [if_neg e]
    refine World.rangeAt_setCells_apart (h.at hj) _ _ _ (.inr ?_)
    rw [peC_length, peC_length]; omega
/-- two places change -/
theorem Dat.swp {w : World} {b o n : Nat} {f : Nat → Pe} (h : Dat w b o f n) {p q : Nat} (hp : p < n) (hq : q < n) :
    Dat ((w.setCells b (o + p * 21) (peC (f q))).setCells b (o + q * 21) (peC (f p))) b o (swp f p q) n := (h.set hp (f q)).set hq (f p)
theorem grown_swp (w : World) (b o p q : Nat) (x y : Pe) : w.grownBy ((w.setCells b (o + p * 21) (peC x)).setCells b (o + q * 21) (peC y)) (some b) := grownBy_trans (grown_set ..) (grown_set ..)
theorem Dat.congr {w : World} {b o n : Nat} {f g : Nat → Pe} (h : Dat w b o f n) (e : ∀ i, i < n → f i = g i) : Dat w b o g n :=
  ⟨by rw [← seg_congr (f := f) (g := g) fun i _ hi => e i hi]; exact h.cells, h.there, h.lt⟩

theorem pe_oneL (x : Pe) : ∀ v ∈ peC x, v.oneCell' = true := peC_one x
theorem sizePL (x : Pe) : (Try.prog.info? 25).map (·.size) = some (peC x).length := by rw [peC_length]; exact sizeP

/-- a call of the row's sort: it changes block b alone -/
def Does (w : World) (b o n : Nat) (g : Nat → Pe) (e : Ending) (w' : World) : Prop := e = .returned (.tuple #[]) ∧ Dat w' b o g n ∧ w.grownBy w' (some b)
theorem sum_in (a i : Nat) (h : a + i ≤ 1000000) : IntKind.i64.wrap ((a : Int) + (i : Int)) = ((a + i : Nat) : Int) := by
  rw [← Int.natCast_add]; exact IntWalk.i64_in _ (by omega)
theorem p_idxP {ops : Array Oper} {rest : List Oper} {op : Oper} {a : Act} {w : World} {Q : Exit → Act → World → Prop} (hgd : op.guard = none) (s i : Operand) (ho : op.op = .indexAddr 26 s i)
    (b o n c p : Nat) (hs : a.eval s = .slice (some ⟨b, o, none⟩) n c) (hi : a.eval i = .int .i64 (p : Int)) (hp : p < n) (h : wpList Try.prog ops Q rest (a.put op.dst (.pointer (some ⟨b, o + p * 21, none⟩))) w) : wpList Try.prog ops Q (op :: rest) a w := by
  obtain ⟨i0, hi0, hq⟩ := Option.map_eq_some_iff.1 sizeP
  have hel : Try.prog.elem 26 = 25 := by simp [Program.elem, Try.underlying26]
  have hT : Try.prog.underlying 26 = some (.slice (Try.prog.elem 26)) := by rw [hel]; exact Try.underlying26
  have hr : (Instr.indexAt 26 (.slice (some ⟨b, o, none⟩) n c) (.int .i64 (p : Int))).run Try.prog w = .ok (.pointer (some ⟨b, o + p * 21, none⟩)) w := by
    rw [run_indexAt_slice _ _ _ _ _ _ _ hT, if_pos ⟨by omega, by omega⟩, hel]
    simp [sizeOf, typeInfo, hi0, hq, Result.andThen, Addr.add_mid]
  refine wpList_plain hgd fun K hK => ?_
  unfold Oper.wp execOp
  simp only [ho, hs, hi, Sem.run_bind, hr, Sem.run_pure, Result.andThen_ok]
  exact hK _ _ h
set_option maxHeartbeats 1000000 in
theorem swapRange_any {w : World} {b o c n : Nat} {f : Nat → Pe} {v : Value} (h : Dat w b o f n) (a m k : Nat) (hn : n ≤ 1000) (ha : a + k ≤ m) (hm : m + k ≤ n) :
    Calls Try.prog 86 #[.slice (some ⟨b, o, none⟩) n c, .int .i64 (a : Int), .int .i64 (m : Int), .int .i64 (k : Int), v] w (Does w b o n (swpR f a m k)) := by
  have H := Lib.hid h
  clear h
  go_enter Try.func86, Try.ntmps86
  go_wp2
  go_loopw [10] (fun i wr => ∃ q : Nat, q ≤ k ∧ i = .int .i64 (q : Int) ∧ Dat wr b o (swpR f a m q) n ∧ w.grownBy wr (some b)) (fun i _ => k - (intOf i).toNat)
  case atStart => exact ⟨0, by omega, rfl, by rw [swpR_zero]; exact H.out, World.grownBy.refl _ _⟩
  case round =>
    obtain ⟨q, hq, rfl, hD, hG⟩ := hrel
    by_cases hlt : q < k
    · have hD2 := (hD.bel (drew_bel wr)).swp (p := a + q) (q := m + q) (by omega) (by omega)
      rw [swpR_succ f (by omega)] at hD2
      have hG2 := fun x y => grownBy_trans (grownBy_trans hG (bel_grown (drew_bel wr) _)) (grown_swp wr.drew b o (a + q) (m + q) x y)
      have r1 := hD.at (i := a + q) (by omega)
      have r2 := hD.at (i := m + q) (by omega)
      have t1 := hD.thereAt (i := a + q) (by omega)
      have t2 := hD.thereAt (i := m + q) (by omega)
      generalize hx : swpR f a m q (a + q) = x at *
      generalize hy : swpR f a m q (m + q) = y at *
      clear hx hy
      have HD2 := Lib.hid hD2
      have HG2 := Lib.hid (hG2 y x)
      clear hD hG hD2 hG2
      have s1 := sum_in a q (by omega)
      have s2 := sum_in m q (by omega)
      have hu := Try.underlying25
      have i1 := sizePL x
      have i2 := sizePL y
      have l1 := peC_length x
      have l2 := peC_length y
      have o1 := pe_oneL x
      have o2 := pe_oneL y
      have b1 : ((a + q : Nat) : Int) < (n : Int) := by omega
      have b2 : ((m + q : Nat) : Int) < (n : Int) := by omega
      have b3 : (0 : Int) ≤ ((a + q : Nat) : Int) := by omega
      have b4 : (0 : Int) ≤ ((m + q : Nat) : Int) := by omega
      generalize hp1 : a + q = p1 at *
      generalize hp2 : m + q = p2 at *
      go_upto_region 3 with (fail)
      (try simp only [Act.put])
      have r1 := (show wr.drew.rangeAt b (o + p1 * 21) (peC x) from r1)
      have r2 := (show wr.drew.rangeAt b (o + p2 * 21) (peC y) from r2)
      have t1 := (show wr.drew.there b (o + p1 * 21) 21 from t1)
      have t2 := World.there_setCells (show wr.drew.there b (o + p2 * 21) 21 from t2) b (o + p1 * 21) (peC y)
      refine wp_region_any (by kernel_rfl) ?_
      change wpAny _ _ _ _ _ _ _ (World.drew _)
      refine wpAny_take (i := 4) (v := ?_) rfl (by kernel_rfl) (by kernel_rfl) (by kernel_rfl) (fun _ _ _ h => h) (Or.inl ⟨by rfl, ?_⟩) ?_
      rotate_left
      · intro w9
        go_simp
        (try with_reducible rfl)
      (try simp only [Act.put]); (try simp only [List.setIfInBounds_toArray]); (try simp only [List.set_cons_succ]); (try simp only [List.set_cons_zero])
      refine wpAny_take (i := 5) (v := ?_) rfl (by kernel_rfl) (by kernel_rfl) (by kernel_rfl) (fun _ _ _ h => h) (Or.inl ⟨by rfl, ?_⟩) ?_
      rotate_left
      · intro w9
        go_simp
        (try with_reducible rfl)
      (try simp only [Act.put]); (try simp only [List.setIfInBounds_toArray]); (try simp only [List.set_cons_succ]); (try simp only [List.set_cons_zero])
      refine wpAny_take (i := 6) (v := ?_) rfl (by kernel_rfl) (by kernel_rfl) (by kernel_rfl) (fun _ _ _ h => h) (Or.inl ⟨by rfl, ?_⟩) ?_
      rotate_left
      · intro w9
        go_simp
        (try with_reducible rfl)
      (try simp only [Act.put]); (try simp only [List.setIfInBounds_toArray]); (try simp only [List.set_cons_succ]); (try simp only [List.set_cons_zero])
      refine wpAny_take (i := 7) (v := ?_) rfl (by kernel_rfl) (by kernel_rfl) (by kernel_rfl) (fun _ _ _ h => h) (Or.inl ⟨by rfl, ?_⟩) ?_
      rotate_left
      · intro w9
        go_simp
        (try with_reducible rfl)
      (try simp only [Act.put]); (try simp only [List.setIfInBounds_toArray]); (try simp only [List.set_cons_succ]); (try simp only [List.set_cons_zero])
      refine any_tailX 20 [0, 1, 2, 3, 8, 9, 10, 11, 12, 13, 14, 15, 16, 17, 18, 19] (by kernel_rfl) (by rfl) (fun _ _ _ _ _ h => h) ?_
      simp only [pickL, List.getElem?_cons_succ, List.getElem?_cons_zero, List.drop_succ_cons, List.drop_zero]
      still_step
      still_step
      still_step
      still_step
      still_step
      still_step
      still_step
      still_step
      still_step
      refine wpStill_mid rfl 25 _ rfl b (o + p2 * 21) rfl (peC y) _ r2 Try.underlying25 rfl (sizePL y) ?_
      (try simp only [Act.put]); (try simp only [List.setIfInBounds_toArray]); (try simp only [List.set_cons_succ]); (try simp only [List.set_cons_zero])
      still_step
      still_step
      still_step
      still_step
      still_step
      refine wpStill_mid rfl 25 _ rfl b (o + p1 * 21) rfl (peC x) _ r1 Try.underlying25 rfl (sizePL x) ?_
      (try simp only [Act.put]); (try simp only [List.setIfInBounds_toArray]); (try simp only [List.set_cons_succ]); (try simp only [List.set_cons_zero])
      refine wpStill_nil ?_
      (try simp only [Act.put]); (try simp only [List.setIfInBounds_toArray]); (try simp only [List.set_cons_succ]); (try simp only [List.set_cons_zero])
      refine p_idxP rfl _ _ rfl b o n c p1 rfl rfl (by omega) ?_
      (try simp only [Act.put]); (try simp only [List.setIfInBounds_toArray]); (try simp only [List.set_cons_succ]); (try simp only [List.set_cons_zero])
      refine wpList_store_mid rfl 25 _ _ rfl b (o + p1 * 21) (peA y) rfl rfl (by rw [peA_size]; exact t1) (by rw [peA_size]; exact sizeP) (peA_one y) ?_
      rw [peA_list]
      (try simp only [Act.put]); (try simp only [List.setIfInBounds_toArray]); (try simp only [List.set_cons_succ]); (try simp only [List.set_cons_zero])
      refine p_idxP rfl _ _ rfl b o n c p2 rfl rfl (by omega) ?_
      (try simp only [Act.put]); (try simp only [List.setIfInBounds_toArray]); (try simp only [List.set_cons_succ]); (try simp only [List.set_cons_zero])
      refine wpList_store_mid rfl 25 _ _ rfl b (o + p2 * 21) (peA x) rfl rfl (by rw [peA_size]; exact t2) (by rw [peA_size]; exact sizeP) (peA_one x) ?_
      rw [peA_list]
      (try simp only [Act.put]); (try simp only [List.setIfInBounds_toArray]); (try simp only [List.set_cons_succ]); (try simp only [List.set_cons_zero])
      have HD3 := HD2.out
      have HG3 := HG2.out
      clear HD2 HG2
      generalize (wr.drew.setCells b (o + p1 * 21) (peC y)).setCells b (o + p2 * 21) (peC x) = W2 at *
      clear hu i1 i2 l1 l2 o1 o2 r1 r2 t1 t2
      go_wp2
      exact ⟨⟨q + 1, by omega, by go_num, HD3, HG3⟩, by simp [intOf]; omega⟩
    · obtain rfl : k = q := by omega
      go_wp2
      refine bodyPost_end (results_none rfl _ _ _) rfl ⟨rfl, hD, hG⟩
end Go.Proofs.Ytkcljbolopephaa
