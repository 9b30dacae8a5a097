/- The document's timers: a row in memory; Cancel, Next. -/
import Derived.Test.YtboojbgcleknlaaTimTick
namespace Go.Proofs.Ytboojbgcleknlaa
open Go Go.RowKit Go.Sort

/-- the cells of timers, one behind the other -/
def rowO : List Du → List Value
  | [] => []
  | d :: L => .int .i64 d.id :: .int .i64 d.tm :: rowO L
theorem rowO_length (L : List Du) : (rowO L).length = L.length * 2 := by
  induction L with
  | nil => rfl
  | cons d L ih => simp [rowO, ih]; omega
theorem rowO_append (L M : List Du) : rowO (L ++ M) = rowO L ++ rowO M := by
  induction L with
  | nil => rfl
  | cons d L ih => simp [rowO, ih]
theorem rowO_get {L : List Du} {j : Nat} {d : Du} (h : L[j]? = some d) : (rowO L)[j * 2]? = some (.int .i64 d.id) ∧ (rowO L)[j * 2 + 1]? = some (.int .i64 d.tm) := by
  induction L generalizing j with
  | nil => simp at h
  | cons y L ih =>
    cases j with
    | zero => simp only [List.getElem?_cons_zero, Option.some.injEq] at h; subst h; exact ⟨rfl, rfl⟩
    | succ j => rw [show (j + 1) * 2 = j * 2 + 1 + 1 by omega]; simpa [rowO] using ih (by simpa using h)
theorem infoO : (Try.prog.info? 57).map (fun i => (i.zero, i.size, i.bytes)) = some (some (.agg #[.int .i64 0, .int .i64 0]), 2, 16) := by kernel_rfl
theorem sizeO : (Try.prog.info? 57).map (·.size) = some 2 := by kernel_rfl
theorem own_mono {w : World} {B B' e size n : Nat} {v : Value} {xs : List Value} (h : w.ownsRow B e size v n xs) (hb : B' ≤ B) : w.ownsRow B' e size v n xs :=
  ⟨h.1, h.2.imp id fun ⟨g, cap, cur, h0, h1, h2⟩ => ⟨g, cap, cur, h0, Nat.le_trans hb h1, h2⟩⟩
/-- one more timer behind a row of the call's own -/
theorem app_one {W : World} {B : Nat} {v : Value} {L : List Du} (h : W.ownsRow B 57 2 v L.length (rowO L)) (d : Du) (hB : B ≤ W.heap.size) (hn : L.length ≤ 1000000) : ∃ g c w',
    (Builtin.append_ #[26, 26] 26 #[v, .slice (some ⟨W.heap.size, 0, none⟩) 1 1]).run Try.prog (W.alloc (.cells #[.int .i64 d.id, .int .i64 d.tm] 57)) = .ok (.slice (some ⟨g, 0, none⟩) (L.length + 1) c) w' ∧
    w'.ownsRow B 57 2 (.slice (some ⟨g, 0, none⟩) (L.length + 1) c) (L ++ [d]).length (rowO (L ++ [d])) ∧ (W.alloc (.cells #[.int .i64 d.id, .int .i64 d.tm] 57)).grownBy w' v.ownBlock ∧ (v.ownBlock = some g ∨ g = W.heap.size + 1) := by
  obtain ⟨i0, hi, hq⟩ := Option.map_eq_some_iff.1 infoO
  simp only [Prod.mk.injEq] at hq
  obtain ⟨q1, q2, q3⟩ := hq
  have hb := Blk.new W #[.int .i64 d.id, .int .i64 d.tm] 57
  obtain ⟨v', w', hr, h2, h3, _, h5⟩ := run_append_own_at (P := Try.prog) (W.alloc (.cells #[.int .i64 d.id, .int .i64 d.tm] 57)) B 26 26 57 i0 _ 2 16 Try.underlying26 hi q1 q2 q3 rfl (by omega) v L.length (rowO L) (h.alloc _) ⟨W.heap.size, 0, none⟩ 1 1 (rowO [d]) rfl
    (fun j u hj => by
      rw [Addr.add_mid, Nat.zero_add, hb.cell]
      simpa [rowO] using hj) (fun u hu => by simp [rowO] at hu; rcases hu with rfl | rfl <;> rfl) (by unfold maxLen; omega) (by omega) (by simp; omega)
  obtain ⟨g, c, rfl⟩ := own_some h2
  refine ⟨g, c, w', hr, ?_, h3, ?_⟩
  · rw [rowO_append, List.length_append]
    exact h2
  · rcases h5 with h5 | h5
    · exact .inl h5.symm
    · right
      simpa [Value.ownBlock] using h5

/-- the document's timers in block r, with their row v -/
structure Rf (w : World) (r : Nat) (v : Value) (now : Int) (L : List Du) : Prop where
  blk : Blk w r #[v, .int .i64 now] 28
  own : w.ownsRow 0 57 2 v L.length (rowO L)
  len : L.length ≤ 1000000
section
variable {w w' : World} {r : Nat} {v : Value} {now : Int} {L : List Du}
theorem Rf.lt (R : Rf w r v now L) : r < w.heap.size := R.blk.lt
theorem Rf.own_blk (R : Rf w r v now L) {k : Nat} (hk : v.ownBlock = some k) : ∃ cur, Blk w k cur 57 := by
  rcases R.own.2 with ⟨rfl, _⟩ | ⟨g, cap, cur, rfl, _, hg, _⟩
  · cases hk
  · obtain rfl : g = k := Option.some.inj hk
    exact ⟨cur, hg⟩
theorem Blk.type {j k : Nat} {cs ds : Array Value} {s t : TypeId} (h : Blk w j cs s) (h2 : Blk w k ds t) (hne : s ≠ t) : j ≠ k := by
  rintro rfl
  unfold Blk at h h2
  rw [h] at h2
  injection h2 with e
  injection e with _ e2
  exact hne e2
theorem Rf.ne (R : Rf w r v now L) : v.ownBlock ≠ some r := fun e => by
  obtain ⟨cur, hb⟩ := R.own_blk e
  exact hb.type R.blk (by decide) rfl
theorem Rf.same (R : Rf w r v now L) (h1 : w'.heap[r]? = w.heap[r]?) (h2 : ∀ k, v.ownBlock = some k → w'.heap[k]? = w.heap[k]?) : Rf w' r v now L := ⟨h1.trans R.blk, own_keep R.own h2, R.len⟩
theorem Rf.bel (R : Rf w r v now L) (hb : Below w.heap.size w w') : Rf w' r v now L := R.same (hb.block r R.lt) fun k hk => by
  obtain ⟨cur, h⟩ := R.own_blk hk
  exact hb.block k h.lt
theorem Rf.form (R : Rf w r v now L) : ∃ a c, v = .slice a L.length c := own_form R.own
theorem Rf.c0 (R : Rf w r v now L) : w.cell? ⟨r, 0, none⟩ = some v := R.blk.cell 0
theorem Rf.c1 (R : Rf w r v now L) : w.cell? ⟨r, 1, none⟩ = some (.int .i64 now) := R.blk.cell 1
theorem Rf.item (R : Rf w r v now L) {j : Nat} {d : Du} (hd : L[j]? = some d) : ∃ b c, v = .slice (some ⟨b, 0, none⟩) L.length c ∧ b < w.heap.size ∧ w.cell? ⟨b, j * 2, none⟩ = some (.int .i64 d.id) ∧ w.cell? ⟨b, j * 2 + 1, none⟩ = some (.int .i64 d.tm) := by
  obtain ⟨h1, h2⟩ := rowO_get hd
  obtain ⟨hj, _⟩ := List.getElem?_eq_some_iff.1 hd
  rcases R.own.2 with ⟨_, h0⟩ | ⟨g, cap, cur, rfl, _, hg, _, _, _, ht⟩
  · omega
  · refine ⟨g, cap, rfl, Blk.lt hg, ?_, ?_⟩
    · rw [Blk.cell hg]
      rw [← ht, List.getElem?_take] at h1
      split at h1
      · simpa using h1
      · cases h1
    · rw [Blk.cell hg]
      rw [← ht, List.getElem?_take] at h2
      split at h2
      · simpa using h2
      · cases h2
/-- another row, or another time, is stored -/
theorem Rf.put {w1 : World} {v' : Value} {M : List Du} (R : Rf w r v now L) (h1 : w1.heap[r]? = w.heap[r]?) (ho : w1.ownsRow 0 57 2 v' M.length (rowO M)) (hM : M.length ≤ 1000000) : Rf (w1.setCell ⟨r, 0, none⟩ v') r v' now M := by
  have hb : Blk w1 r #[v, .int .i64 now] 28 := h1.trans R.blk
  refine ⟨hb.put 0 v', ?_, hM⟩
  refine own_keep ho fun k hk => heap_setCell_other _ ⟨r, 0, none⟩ k _ ?_
  rcases ho.2 with ⟨rfl, _⟩ | ⟨g, cap, cur, rfl, _, hg, _⟩
  · cases hk
  · obtain rfl : g = k := Option.some.inj hk
    exact Blk.type hg hb (by decide)
theorem Rf.time (R : Rf w r v now L) (t : Int) : Rf (w.setCell ⟨r, 1, none⟩ (.int .i64 t)) r v t L :=
  ⟨R.blk.put 1 _, own_keep R.own fun k hk => heap_setCell_other _ ⟨r, 1, none⟩ k _ (fun e => R.ne (hk.trans (congrArg some e))), R.len⟩
/-- behind a change of them -/
def RfN (w w' : World) (r : Nat) (v : Value) (now : Int) (L : List Du) : Prop := ∃ v', Rf w' r v' now L ∧ Kp w w' r r v.ownBlock ∧ (v'.ownBlock = v.ownBlock ∨ ∀ b, v'.ownBlock = some b → w.heap.size ≤ b)

theorem p_midO {ops : Array Oper} {rest : List Oper} {o : Oper} {a : Act} {w : World} {Q : Exit → Act → World → Prop} (hgd : o.guard = none) (x : Operand) (ho : o.op = .load 57 x)
    (b i : Nat) (hx : a.eval x = .pointer (some ⟨b, i, none⟩)) (d : Du) (h0 : w.cell? ⟨b, i, none⟩ = some (.int .i64 d.id)) (h1 : w.cell? ⟨b, i + 1, none⟩ = some (.int .i64 d.tm))
    (h : wpList Try.prog ops Q rest (a.put o.dst (.agg #[.int .i64 d.id, .int .i64 d.tm])) w) : wpList Try.prog ops Q (o :: rest) a w :=
  wpList_load_mid hgd 57 x ho b i hx (duC d).toList _ (fun j v hv => by
    match j, hv with
    | 0, hv => simp only [duC, List.getElem?_cons_zero, Option.some.injEq] at hv; subst hv; exact h0
    | 1, hv => simp only [duC, List.getElem?_cons_succ, List.getElem?_cons_zero, Option.some.injEq] at hv; subst hv; exact h1
    | j + 2, hv => simp [duC] at hv) Try.underlying57 rfl sizeO h
theorem p_storeO {ops : Array Oper} {rest : List Oper} {o : Oper} {a : Act} {w : World} {Q : Exit → Act → World → Prop} (hgd : o.guard = none) (x y : Operand) (ho : o.op = .store 57 x y)
    (g : Nat) (hx : a.eval x = .pointer (some ⟨g, 0, none⟩)) (d : Du) (hy : a.eval y = .agg #[.int .i64 d.id, .int .i64 d.tm]) (Z : Array Value) (hZ : Z.size = 2) (hg : Blk w g Z 57)
    (h : wpList Try.prog ops Q rest (a.put o.dst undef) (w.setRow g (duC d))) : wpList Try.prog ops Q (o :: rest) a w :=
  wpList_store_row hgd 57 x y ho g (duC d) hx hy 57 Z hg sizeO (by rw [hZ]; rfl) (duC_one d) h

theorem delK_take {k : Int} {p : Nat} {d : Du} (hd : L[p]? = some d) : delK k (L.take (p + 1)) = if d.id = k then delK k (L.take p) else delK k (L.take p) ++ [d] := by
  rw [take_snoc hd, delK, List.filter_append]
  by_cases h : d.id = k
  · rw [if_pos h, List.filter_cons_of_neg (by simp [h])]; simp [delK]
  · rw [if_neg h, List.filter_cons_of_pos (by simp [h])]; simp [delK]
theorem delK_le (k : Int) (L : List Du) : (delK k L).length ≤ L.length := List.length_filter_le ..
theorem drew_bel (w : World) : Below w.heap.size w w.drew := ⟨rfl, rfl, rfl, Nat.le_refl _, fun _ _ => rfl⟩
/-- a row of the call's own grows -/
theorem app_bel {W w3 : World} {B n e size : Nat} {u : Value} {xs : List Value} {o : Obj} {w0 : World} (hB : Below B w0 W) (hBW : B ≤ W.heap.size) (hO : W.ownsRow B e size u n xs) (hg : (W.alloc o).grownBy w3 u.ownBlock) : Below B w0 w3 :=
  (hB.alloc hBW o).trans ⟨hg.os, hg.tape, hg.output, hg.size, fun k hk => hg.block k (by simp; omega) (fun e => by have := (hO.lt k e.symm).1; omega)⟩
set_option maxRecDepth 100000 in
set_option maxHeartbeats 4000000 in
theorem refcancel_any (R : Rf w r v now L) (k : Int) :
    Calls Try.prog 11 #[.pointer (some ⟨r, 0, none⟩), .int .i64 k] w fun e w' => e = .returned (.bool (decide ((delK k L).length < L.length))) ∧ RfN w w' r v now (delK k L) := by
  have HR := Lib.hid R
  have hlen := R.len
  obtain ⟨n, hn⟩ : ∃ n, n = L.length := ⟨_, rfl⟩
  have HN := Lib.hid hn
  rw [← hn] at hlen ⊢
  obtain ⟨va, vc, hv⟩ := R.form
  rw [← hn] at hv
  have c0 := R.c0
  rw [hv] at c0
  have HV := Lib.hid hv
  clear R hn hv
  go_enter Try.func11, Try.ntmps11
  go_wp2
  clear c0
  go_loopw [5, 6] (fun u kv wr => ∃ p : Nat, p ≤ n ∧ kv = .int .i64 p ∧ wr.ownsRow w.heap.size 57 2 u (delK k (L.take p)).length (rowO (delK k (L.take p))) ∧ Below w.heap.size w wr) (fun _ kv _ => n - (intOf kv).toNat)
  case atStart => exact ⟨0, by omega, rfl, World.ownsRow_nil _ _ _ _, Below.refl _ _⟩
  case round =>
    obtain ⟨p, hp, rfl, hO, hB⟩ := hrel
    have HO := Lib.hid hO
    have HB := Lib.hid hB
    clear hO hB
    have c0 := (HR.out.bel HB.out).c0
    rw [HV.out] at c0
    by_cases hlt : p < n
    · obtain ⟨x, hx⟩ : ∃ x, L[p]? = some x := ⟨_, List.getElem?_eq_getElem (by have := HN.out; omega)⟩
      obtain ⟨b, c', hv', d0, d1, d2⟩ := (HR.out.bel HB.out).item hx
      rw [← HN.out] at hv'
      obtain rfl : va = some ⟨b, 0, none⟩ := by
        have := HV.out.symm.trans hv'
        simp only [Value.slice.injEq] at this
        exact this.1
      clear d0 hv'
      have hT := delK_take (k := k) hx
      by_cases hk : x.id = k
      · rw [if_pos hk] at hT
        have HD := Lib.hid hT
        have hd : (x.id != k) = false := by simp [hk]
        clear hk hx hT
        go_wp2
        exact ⟨⟨p + 1, by omega, by go_num, by rw [HD.out]; exact HO.out, HB.out⟩, by simp [intOf]; omega⟩
      · rw [if_neg hk] at hT
        have HD := Lib.hid hT
        have hd : (x.id != k) = true := by simp [hk]
        have hsl := delK_le k (L.take p)
        rw [List.length_take] at hsl
        obtain ⟨q, gc, w3, hap, o3, g3, _⟩ := app_one HO.out x HB.out.size (by omega)
        have HAP := Lib.hid hap
        have HO3 := Lib.hid o3
        have HB3 := Lib.hid (app_bel HB.out HB.out.size HO.out g3)
        clear hk hx hap o3 g3 hT
        generalize (delK k (L.take p)).length = z at *
        go_wp2_with (first
          | (refine p_midO rfl _ rfl b (p * 2) rfl x d1 d2 ?_)
          | (at_builtin; refine Lib.wpList_append_run _ rfl _ _ 26 26 rfl _ _ rfl rfl _ _ HAP.out ?_))
        exact ⟨⟨p + 1, by omega, by go_num, by rw [HD.out]; exact HO3.out, HB3.out⟩, by simp [intOf]; omega⟩
    · obtain rfl : n = p := by omega
      have r0 := HR.out.bel HB.out
      have f0 := r0.blk.free 0
      obtain ⟨ua, uc, rfl⟩ := own_form HO.out
      have hall : L.take n = L := by rw [HN.out, List.take_length]
      rw [hall] at HO ⊢
      have hsl := delK_le k L
      rw [← HN.out] at hsl
      have HE : Hid (RfN w (wr.setCell ⟨r, 0, none⟩ (.slice ua (delK k L).length uc)) r v now (delK k L)) := by
        refine ⟨_, r0.put rfl (own_mono HO.out (Nat.zero_le _)) (by omega), (Kp.of HB.out r r _).trans (Kp.own _ r r _ 0 _), .inr fun b hb => (HO.out.lt b hb).1⟩
      clear hall HO r0
      generalize hz : (delK k L).length = z at *
      have HZ := Lib.hid hz
      clear hz
      go_wp2
      go_ret
      exact ⟨by rw [HZ.out]; simp, HE.out⟩
end
end Go.Proofs.Ytboojbgcleknlaa
