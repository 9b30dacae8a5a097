/- Letters, places and numbers among the arguments, opened. -/
import Derived.Test.YtplcdjmidelboaaLetIs
import Derived.Test.YtplcdjmidelboaaOwn
import Derived.Deep.Slices
import Derived.SizedLaws
import Derived.ProofKit
import Derived.OpenShut
import Derived.ShutString
import Derived.ChangeOld
namespace Go.Proofs.Ytplcdjmidelboaa
set_option maxRecDepth 100000
open Go Go.ChangeShapes Go.WideShapes Go.ChangeAt Go.RowKit Go.Sort

theorem cells23 : Try.prog.cellsOf 23 = 20 := by kernel_rfl
theorem cells5 : Try.prog.cellsOf 5 = 1 := by kernel_rfl
theorem mapM_some {α β : Type} {f : α → Option β} : ∀ {l : List α} {ys : List β}, l.mapM f = some ys → ∀ x ∈ l, ∃ y, f x = some y
  | [], _, _, x, hx => by cases hx
  | a :: l, ys, h, x, hx => by
    rw [List.mapM_cons] at h
    cases ha : f a with
    | none => rw [ha] at h; cases h
    | some y =>
      cases hl : l.mapM f with
      | none => rw [ha, hl] at h; cases h
      | some zs =>
        rcases List.mem_cons.1 hx with rfl | hx
        · exact ⟨y, ha⟩
        · exact mapM_some hl x hx
theorem nat_list {cs : List Value} (h : ∀ c ∈ cs, ∃ n : Nat, n < 256 ∧ c = .int .u8 (n : Int)) : ∃ l : List Nat, l.length = cs.length ∧ (∀ b ∈ l, b < 256) ∧ cs = l.map fun (n : Nat) => Value.int .u8 (n : Int) := by
  induction cs with
  | nil => exact ⟨[], rfl, fun b hb => (by cases hb), rfl⟩
  | cons c r ih =>
    obtain ⟨n, hn, rfl⟩ := h c (List.mem_cons_self ..)
    obtain ⟨l, h1, h2, rfl⟩ := ih (fun x hx => h x (List.mem_cons_of_mem _ hx))
    refine ⟨n :: l, by simp, ?_, rfl⟩
    intro b hb
    rcases List.mem_cons.1 hb with rfl | hb
    · exact hn
    · exact h2 b hb
theorem id_cells {H : Type} {enc : TypeId × Value → H} {w : World} {base : Nat} {sp : Nat → Bool} {held : Bool} {fuel : Nat} {cs : List Value} {x : DataW H × List MemPlace} (hsz : cs.length = 20)
    (hf : DataW.trod enc Try.prog w base sp held fuel 23 cs = some x) : ∃ n, n < M ∧ cs = (row (dig 20 n)).toList := by
  cases fuel with
  | zero => simp [DataW.trod] at hf
  | succ m =>
    unfold DataW.trod at hf
    rw [Try.underlying23] at hf
    simp only [cells23, cells5, Nat.mul_one] at hf
    rw [if_pos hsz] at hf
    cases hx : (List.range 20).mapM fun i => DataW.trod enc Try.prog w base sp held m 5 ((cs.drop i).take 1) with
    | none => rw [hx] at hf; cases hf
    | some xs =>
      have hall := mapM_some hx
      have hc : ∀ c ∈ cs, ∃ n : Nat, n < 256 ∧ c = .int .u8 (n : Int) := by
        intro c hc
        obtain ⟨i, hi, rfl⟩ := List.getElem_of_mem hc
        have hi20 : i < 20 := by simpa [hsz] using hi
        obtain ⟨y, hy⟩ := hall i (List.mem_range.2 hi20)
        rw [List.drop_eq_getElem_cons hi, List.take_succ_cons, List.take_zero] at hy
        obtain ⟨n, e1, _, wf⟩ := DataW.trod_int Try.underlying5 hy
        have e2 : cs[i] = .int .u8 n := by simpa using e1
        have hw : 0 ≤ n ∧ n < 256 := by
          have h0 : IntKind.min .u8 = 0 := rfl
          have h1 : IntKind.max .u8 = 255 := rfl
          simp only [Lit.wf, h0, h1, Bool.and_eq_true, decide_eq_true_eq] at wf
          omega
        exact ⟨n.toNat, by omega, by rw [e2, Int.toNat_of_nonneg hw.1]⟩
      obtain ⟨l, h1, h2, h3⟩ := nat_list hc
      have hl : l.length = 20 := by rw [h1]; simpa using hsz
      obtain ⟨n, hn, hdg⟩ := dig_of l h2
      rw [hl] at hn hdg
      refine ⟨n, hn, ?_⟩
      unfold row
      rw [hdg, ← h3]
theorem open_id {H : Type} {enc : TypeId × Value → H} {w : World} {base : Nat} {sp : Nat → Bool} {held : Bool} {r : Reach} {b0 : Nat} {v : Value} {d : DataW H} {ps : List MemPlace}
    (hval : Value.okWide Try.prog w r b0 23 v) (hd : DataW.Trod enc Try.prog w base sp held 23 v d ps) : ∃ n, n < M ∧ v = idv n := by
  simp only [Value.okWide, Try.underlying23] at hval
  obtain ⟨cs, rfl, hsz, _⟩ := hval
  rw [cells23] at hsz
  obtain ⟨fuel, hf⟩ := hd
  cases fuel with
  | zero => simp [DataW.trod] at hf
  | succ m =>
    unfold DataW.trod at hf
    rw [Try.underlying23] at hf
    simp only [Value.cells, cells23, cells5, Nat.mul_one] at hf
    split at hf
    · cases hx : (List.range 20).mapM fun i => DataW.trod enc Try.prog w base sp held m 5 ((cs.toList.drop i).take 1) with
      | none => rw [hx] at hf; cases hf
      | some xs =>
        have hall := mapM_some hx
        have hc : ∀ c ∈ cs.toList, ∃ n : Nat, n < 256 ∧ c = .int .u8 (n : Int) := by
          intro c hc
          obtain ⟨i, hi, rfl⟩ := List.getElem_of_mem hc
          have hi20 : i < 20 := by simpa [hsz] using hi
          obtain ⟨y, hy⟩ := hall i (List.mem_range.2 hi20)
          rw [List.drop_eq_getElem_cons hi, List.take_succ_cons, List.take_zero] at hy
          obtain ⟨n, e1, _, wf⟩ := DataW.trod_int Try.underlying5 hy
          have e2 : cs.toList[i] = .int .u8 n := by simpa using e1
          have hw : 0 ≤ n ∧ n < 256 := by
            have h0 : IntKind.min .u8 = 0 := rfl
            have h1 : IntKind.max .u8 = 255 := rfl
            simp only [Lit.wf, h0, h1, Bool.and_eq_true, decide_eq_true_eq] at wf
            omega
          exact ⟨n.toNat, by omega, by rw [e2, Int.toNat_of_nonneg hw.1]⟩
        obtain ⟨l, h1, h2, h3⟩ := nat_list hc
        have hl : l.length = 20 := by rw [h1]; simpa using hsz
        obtain ⟨n, hn, hdg⟩ := dig_of l h2
        rw [hl] at hn hdg
        refine ⟨n, hn, ?_⟩
        unfold idv row
        rw [hdg, ← h3, Array.toArray_toList]
    · cases hf
theorem wf_i64 {n : Int} (wf : Lit.wf (.int .i64 n) = true) : -9223372036854775808 ≤ n ∧ n ≤ 9223372036854775807 := by
  have h0 : IntKind.min .i64 = -9223372036854775808 := rfl
  have h1 : IntKind.max .i64 = 9223372036854775807 := rfl
  simp only [Lit.wf, h0, h1, Bool.and_eq_true, decide_eq_true_eq] at wf
  exact wf
theorem open_i64 {H : Type} {enc : TypeId × Value → H} {w : World} {base : Nat} {sp : Nat → Bool} {held : Bool} {r : Reach} {b0 : Nat} {v : Value} {d : DataW H} {ps : List MemPlace} (hval : Value.okWide Try.prog w r b0 3 v) (hd : DataW.Trod enc Try.prog w base sp held 3 v d ps) : ∃ n : Int, (-9223372036854775808 ≤ n ∧ n ≤ 9223372036854775807) ∧ v = .int .i64 n := by
  obtain ⟨n, rfl, _, _, wf⟩ := open_int Try.underlying3 hval hd
  exact ⟨n, wf_i64 wf, rfl⟩
theorem slice_spot {P : Program} {w : World} {r : Reach} {base : Nat} {t e : TypeId} {a : Addr} {n c : Nat} (ht : P.underlying t = some (.slice e)) (h : Value.okWide P w r base t (.slice (some a) n c)) : a.spot = none := by
  simp only [Value.okWide, ht, Cell.okWide, Cell.ok] at h
  exact h.2.2.2.1
/-- a row among the arguments reads as a list -/
theorem open_row {H α : Type} [Inhabited α] {enc : TypeId × Value → H} {P : Program} {W : World} {r : Reach} {base : Nat} {v : Value} {d : DataW H} {p : List MemPlace} (t e : TypeId) (c : Nat) (cells : α → List Value) (wf : α → Prop) (ht : P.underlying t = some (.slice e)) (hc : P.cellsOf e = c)
    (hone : ∀ cs n D Pl, cs.length = c → DataW.trod enc P W 0 (fun _ => true) true n e cs = some (D, Pl) → ∃ s, cs = cells s ∧ wf s) (hlen : ∀ s, (cells s).length = c)
    (hv : Value.okWide P W r base t v) (h : DataW.Trod enc P W 0 (fun _ => true) true t v d p) :
    ∃ l : List α, (l = [] ∧ v = .slice none 0 0) ∨ ∃ b o cap, v = .slice (some ⟨b, o, none⟩) l.length cap ∧ l.length ≤ cap ∧ ∀ (j : Nat) s, l[j]? = some s → W.rangeAt b (o + j * c) (cells s) ∧ wf s := by
  obtain ⟨a0, len0, cap0, rfl⟩ := okWide_slice ht hv
  obtain ⟨fuel, hf⟩ := h
  rcases Deep.open_slice ht hf with ⟨hcs, _⟩ | ⟨a, len, cap, m, n, D, Pl, hcs, _, hlc, hcm, hm, hx, hel⟩
  · have e1 : Value.slice a0 len0 cap0 = .slice none 0 0 := by simpa [Value.cells] using hcs
    exact ⟨[], .inl ⟨rfl, e1⟩⟩
  · have e1 : Value.slice a0 len0 cap0 = .slice (some a) len cap := by simpa [Value.cells] using hcs
    rw [e1] at hv ⊢
    have hsp := slice_spot ht hv
    have hml : len ≤ m := by rw [hm]; split <;> omega
    have each : ∀ i, i < len → ∃ s : α, W.cells? 0 (a.add (i * c)) c = some (cells s) ∧ wf s := by
      intro i hi
      obtain ⟨cs, g1, g2⟩ := hel i (by omega)
      rw [hc] at g1
      obtain ⟨s, rfl, hw⟩ := hone cs _ _ _ (World.cells?_some g1).2.1 g2
      exact ⟨s, g1, hw⟩
    obtain ⟨S, hS⟩ := Deep.choose_lt (α := α) each
    obtain ⟨b, o, sp⟩ := a
    obtain rfl : sp = none := hsp
    refine ⟨(List.range len).map S, .inr ⟨b, o, cap, by simp, by simpa using hlc, fun j s hj => ?_⟩⟩
    simp only [List.getElem?_map, Option.map_eq_some_iff] at hj
    obtain ⟨i, hi, rfl⟩ := hj
    obtain ⟨hjl, hij⟩ := List.getElem?_eq_some_iff.1 hi
    rw [List.getElem_range] at hij
    rw [List.length_range] at hjl
    subst hij
    obtain ⟨g1, g2⟩ := hS j hjl
    refine ⟨fun k u hk => ?_, g2⟩
    obtain ⟨_, gl, gc⟩ := World.cells?_some g1
    have hkc : k < c := by have := (List.getElem?_eq_some_iff.1 hk).1; rw [hlen] at this; exact this
    have := gc k hkc
    rw [hk, Addr.add_mid, Addr.add_mid] at this
    exact this
theorem peer_one {H : Type} {enc : TypeId × Value → H} {W : World} {cs : List Value} {n : Nat} {D : DataW H} {Pl : List MemPlace} (hlen : cs.length = 21) (h : DataW.trod enc Try.prog W 0 (fun _ => true) true n 25 cs = some (D, Pl)) :
    ∃ x : Pe, cs = peC x ∧ x.2 < M := by
  obtain ⟨xs, m, _, _, _, hl, hf⟩ := DataW.trod_struct Try.underlying25 h
  have e1 : Try.prog.cellsOf 3 = 1 := by kernel_rfl
  have hl2 : xs.length = 2 := hl
  match cs, hlen, xs, hl2 with
  | c0 :: r, hlen, [y0, y1], _ =>
    have t0 : DataW.trod enc Try.prog W 0 (fun _ => true) true m 3 (List.take (Try.prog.cellsOf 3) (c0 :: r)) = some y0 := hf 0 _ rfl
    have t1 : DataW.trod enc Try.prog W 0 (fun _ => true) true m 23 (List.take (Try.prog.cellsOf 23) r) = some y1 := hf 1 _ rfl
    rw [e1] at t0
    have hr : r.length = 20 := by simpa using hlen
    rw [cells23, List.take_of_length_le (by omega)] at t1
    obtain ⟨n0, h0, _, _⟩ := DataW.trod_int Try.underlying3 t0
    obtain ⟨k, hk, rfl⟩ := id_cells hr t1
    simp only [List.take_succ_cons, List.take_zero, List.cons.injEq, and_true] at h0
    subst h0
    exact ⟨(n0, k), rfl, hk⟩
theorem range_flat {w : World} {b : Nat} : ∀ (l : List Pe) (o : Nat), (∀ (i : Nat) x, l[i]? = some x → w.rangeAt b (o + i * 21) (peC x)) → w.rangeAt b o (flat l)
  | [], o, _ => fun j v hj => by simp [flat] at hj
  | x :: l, o, h => fun j v hj => by
    have h0 := h 0 x rfl
    rcases Nat.lt_or_ge j 21 with h1 | h1
    · rw [flat, List.getElem?_append_left (by rw [peC_length]; exact h1)] at hj
      have := h0 j v hj
      rwa [Nat.zero_mul, Nat.add_zero] at this
    · rw [flat, List.getElem?_append_right (by rw [peC_length]; exact h1), peC_length] at hj
      have := range_flat l (o + 21) (fun i y hy => by
        have := h (i + 1) y hy
        rwa [show o + (i + 1) * 21 = o + 21 + i * 21 by omega] at this) (j - 21) v hj
      rwa [show o + 21 + (j - 21) = o + j by omega] at this
/-- peers among the arguments -/
theorem open_peers {H : Type} {enc : TypeId × Value → H} {W : World} {r : Reach} {base : Nat} {v : Value} {d : DataW H} {p : List MemPlace} (hv : Value.okWide Try.prog W r base 28 v)
    (h : DataW.Trod enc Try.prog W 0 (fun _ => true) true 28 v d p) : ∃ l : List Pe, Lies W v l ∧ Wf l := by
  haveI : Inhabited Pe := ⟨(0, 0)⟩
  obtain ⟨l, hl⟩ := open_row (α := Pe) 28 25 21 peC (fun x => x.2 < M) Try.underlying28 (by kernel_rfl) (fun cs n D Pl hlen h => peer_one hlen h) peC_length hv h
  refine ⟨l, ?_⟩
  rcases hl with ⟨rfl, rfl⟩ | ⟨b, o, cap, rfl, hc, hj⟩
  · exact ⟨.inl ⟨⟨_, rfl⟩, rfl⟩, fun x hx => by cases hx⟩
  · refine ⟨.inr ⟨b, o, cap, rfl, hc, range_flat l o fun i x hx => (hj i x hx).1⟩, fun x hx => ?_⟩
    obtain ⟨i, hi, rfl⟩ := List.getElem_of_mem hx
    exact (hj i _ (List.getElem?_eq_getElem hi)).2
theorem open_nums {H : Type} {enc : TypeId × Value → H} {W : World} {r : Reach} {base : Nat} {v : Value} {d : DataW H} {p : List MemPlace} (hv : Value.okWide Try.prog W r base 27 v)
    (h : DataW.Trod enc Try.prog W 0 (fun _ => true) true 27 v d p) : ∃ l, Nums W v l := by
  obtain ⟨l, hl⟩ := open_row (α := Int) 27 3 1 (fun s => [.int .i64 s]) (fun _ => True) Try.underlying27 (by kernel_rfl) (fun cs n D Pl _ h => by obtain ⟨n0, h0, _, _⟩ := DataW.trod_int Try.underlying3 h; exact ⟨n0, h0, trivial⟩) (fun _ => rfl) hv h
  refine ⟨l, ?_⟩
  rcases hl with ⟨rfl, rfl⟩ | ⟨b, o, cap, rfl, _, hj⟩
  · exact .inl ⟨rfl, rfl⟩
  · refine .inr ⟨b, o, cap, rfl, fun j v hv => ?_⟩
    unfold ints at hv
    rw [List.getElem?_map, Option.map_eq_some_iff] at hv
    obtain ⟨x, hx, rfl⟩ := hv
    have := (hj j x hx).1 0 _ rfl
    rwa [Nat.mul_one, Nat.add_zero] at this

theorem open_bool_cell {H : Type} {enc : TypeId × Value → H} {W : World} {n : Nat} {x : Value} {D : DataW H × List MemPlace} (h : DataW.trod enc Try.prog W 0 (fun _ => true) true n 4 [x] = some D) : ∃ b, x = .bool b := by
  cases n with
  | zero => simp [DataW.trod] at h
  | succ m =>
    unfold DataW.trod at h
    rw [Try.underlying4] at h
    cases x <;> simp at h <;> exact ⟨_, rfl⟩
theorem wf_u64 {n : Int} (wf : Lit.wf (.int .u64 n) = true) : 0 ≤ n ∧ n < 18446744073709551616 := by
  have h0 : IntKind.min .u64 = 0 := rfl
  have h1 : IntKind.max .u64 = 18446744073709551615 := rfl
  simp only [Lit.wf, h0, h1, Bool.and_eq_true, decide_eq_true_eq] at wf
  omega
theorem split8 {L : List Value} (hl : L.length = 67) : L = L[0]'(by omega) :: ((L.drop 1).take 21 ++ (L[22]'(by omega) :: ((L.drop 23).take 20 ++ (L[43]'(by omega) :: L[44]'(by omega) :: ((L.drop 45).take 21 ++ [L[66]'(by omega)]))))) := by
  have h66 : [L[66]'(by omega)] = L.drop 66 := by rw [List.drop_eq_getElem_cons (by omega), List.drop_of_length_le (by omega)]
  rw [h66, show L.drop 66 = (L.drop 45).drop 21 by rw [List.drop_drop], List.take_append_drop, ← List.drop_eq_getElem_cons, ← List.drop_eq_getElem_cons, show L.drop 43 = (L.drop 23).drop 20 by rw [List.drop_drop], List.take_append_drop, ← List.drop_eq_getElem_cons, show L.drop 22 = (L.drop 1).drop 21 by rw [List.drop_drop], List.take_append_drop, ← List.drop_eq_getElem_cons, List.drop_zero]
theorem open_let {H : Type} {enc : TypeId × Value → H} {W : World} {r : Reach} {base : Nat} {v : Value} {d : DataW H} {p : List MemPlace} (hv : Value.okWide Try.prog W r base 30 v)
    (h : DataW.Trod enc Try.prog W 0 (fun _ => true) true 30 v d p) : ∃ (l : Lt) (u1 u2 : Value), v = .agg (ltA l u1 u2) ∧ LtM W l u1 u2 ∧ l.Wf := by
  have hu := Try.underlying30
  simp only [Value.okWide, hu] at hv
  obtain ⟨cs, rfl, hsz, ts, hts, _, hcs⟩ := hv
  have e67 : Try.prog.cellsOf 30 = 67 := by kernel_rfl
  have e21 : Try.prog.cellsOf 25 = 21 := by kernel_rfl
  have e1 : Try.prog.cellsOf 28 = 1 := by kernel_rfl
  have e1a : Try.prog.cellsOf 27 = 1 := by kernel_rfl
  have e1b : Try.prog.cellsOf 3 = 1 := by kernel_rfl
  have e1c : Try.prog.cellsOf 26 = 1 := by kernel_rfl
  have e1d : Try.prog.cellsOf 4 = 1 := by kernel_rfl
  rw [e67] at hsz
  obtain ⟨L⟩ := cs
  have hl : L.length = 67 := by simpa using hsz
  obtain ⟨fuel, hf⟩ := h
  obtain ⟨xs, m, _, _, _, hxl, hf⟩ := DataW.trod_struct hu hf
  have hl8 : xs.length = 8 := hxl
  match xs, hl8 with
  | [y0, y1, y2, y3, y4, y5, y6, y7], _ =>
    have t0 : DataW.trod enc Try.prog W 0 (fun _ => true) true m 3 (List.take (Try.prog.cellsOf 3) (List.drop 0 L)) = some y0 := hf 0 _ rfl
    have t1 : DataW.trod enc Try.prog W 0 (fun _ => true) true m 25 (List.take (Try.prog.cellsOf 25) (List.drop 1 L)) = some y1 := hf 1 _ rfl
    have t2 : DataW.trod enc Try.prog W 0 (fun _ => true) true m 26 (List.take (Try.prog.cellsOf 26) (List.drop 22 L)) = some y2 := hf 2 _ rfl
    have t3 : DataW.trod enc Try.prog W 0 (fun _ => true) true m 23 (List.take (Try.prog.cellsOf 23) (List.drop 23 L)) = some y3 := hf 3 _ rfl
    have t4 : DataW.trod enc Try.prog W 0 (fun _ => true) true m 27 (List.take (Try.prog.cellsOf 27) (List.drop 43 L)) = some y4 := hf 4 _ rfl
    have t5 : DataW.trod enc Try.prog W 0 (fun _ => true) true m 4 (List.take (Try.prog.cellsOf 4) (List.drop 44 L)) = some y5 := hf 5 _ rfl
    have t6 : DataW.trod enc Try.prog W 0 (fun _ => true) true m 25 (List.take (Try.prog.cellsOf 25) (List.drop 45 L)) = some y6 := hf 6 _ rfl
    have t7 : DataW.trod enc Try.prog W 0 (fun _ => true) true m 28 (List.take (Try.prog.cellsOf 28) (List.drop 66 L)) = some y7 := hf 7 _ rfl
    rw [e1b, List.drop_eq_getElem_cons (by omega), List.take_succ_cons, List.take_zero] at t0
    rw [e21] at t1
    rw [e1c, List.drop_eq_getElem_cons (by omega), List.take_succ_cons, List.take_zero] at t2
    rw [cells23] at t3
    rw [e1a, List.drop_eq_getElem_cons (by omega), List.take_succ_cons, List.take_zero] at t4
    rw [e1d, List.drop_eq_getElem_cons (by omega), List.take_succ_cons, List.take_zero] at t5
    rw [e21] at t6
    rw [e1, List.drop_eq_getElem_cons (by omega), List.take_succ_cons, List.take_zero] at t7
    obtain ⟨k, hk, _, wfk⟩ := DataW.trod_int Try.underlying3 t0
    obtain ⟨f, hf1, hfm⟩ := peer_one (by rw [List.length_take, List.length_drop]; omega) t1
    obtain ⟨rq, hr, _, wfr⟩ := DataW.trod_int Try.underlying26 t2
    obtain ⟨i, him, hi⟩ := id_cells (by rw [List.length_take, List.length_drop]; omega) t3
    obtain ⟨q, hq, hqm⟩ := peer_one (by rw [List.length_take, List.length_drop]; omega) t6
    have hd : ∃ b, L[44]'(by omega) = Value.bool b := by
      obtain ⟨b, hb⟩ := open_bool_cell t5
      exact ⟨b, hb⟩
    obtain ⟨b, hb⟩ := hd
    have ets : Try.prog.cellTypes Try.prog.depth 30 = some ([3] ++ ([3] ++ List.replicate 20 5) ++ [26] ++ List.replicate 20 5 ++ [27, 4] ++ ([3] ++ List.replicate 20 5) ++ [28]) := by kernel_rfl
    rw [ets] at hts
    injection hts with hts
    subst hts
    have hv1 : Value.okWide Try.prog W r base 27 (L[43]'(by omega)) := by
      obtain ⟨u, hu1, hu2⟩ := hcs 43 (L[43]'(by omega)) (by simp)
      injection hu1 with hu1
      subst hu1
      simp only [Value.okWide, Try.underlying27]
      exact hu2
    have hv2 : Value.okWide Try.prog W r base 28 (L[66]'(by omega)) := by
      obtain ⟨u, hu1, hu2⟩ := hcs 66 (L[66]'(by omega)) (by simp)
      injection hu1 with hu1
      subst hu1
      simp only [Value.okWide, Try.underlying28]
      exact hu2
    have hL := split8 hl
    rw [hf1, hi, hq, hb] at hL
    obtain ⟨A, hA⟩ := open_nums (d := y4.1) (p := y4.2) hv1 ⟨m, by
      obtain ⟨a0, l0, b0, h0⟩ := okWide_slice Try.underlying27 hv1
      rw [h0] at t4 ⊢
      exact t4⟩
    obtain ⟨F, hF, hFw⟩ := open_peers (d := y7.1) (p := y7.2) hv2 ⟨m, by
      obtain ⟨a0, l0, b0, h0⟩ := okWide_slice Try.underlying28 hv2
      rw [h0] at t7 ⊢
      exact t7⟩
    have h0 := wf_i64 wfk
    have h2 := wf_u64 wfr
    simp only [List.cons.injEq, and_true] at hk hr
    rw [hk, hr] at hL
    refine ⟨{ kind := k, fr := f, req := rq.toNat, id := i, avoid := A, done := b, peer := q, peers := F }, L[43]'(by omega), L[66]'(by omega), ?_, ⟨hA, hF⟩, ⟨h0, hfm, by show rq.toNat < _; omega, him, hqm, hFw⟩⟩
    unfold ltA ltC
    simp only
    rw [Int.toNat_of_nonneg h2.1]
    exact congrArg (fun x => Value.agg ⟨x⟩) hL
end Go.Proofs.Ytplcdjmidelboaa
