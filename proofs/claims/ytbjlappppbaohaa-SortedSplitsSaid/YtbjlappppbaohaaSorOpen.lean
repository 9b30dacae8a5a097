/- Rows of items, and scripts, among the arguments, opened. -/
import Derived.Test.YtbjlappppbaohaaSorHas
import Derived.Deep.Slices
import Derived.SizedLaws
namespace Go.Proofs.Ytbjlappppbaohaa
open Go Go.ChangeShapes Go.WideShapes Go.ChangeAt Go.RowKit Go.Sort

theorem wf_i64 {n : Int} (wf : Lit.wf (.int .i64 n) = true) : -9223372036854775808 ≤ n ∧ n ≤ 9223372036854775807 := by
  have h0 : IntKind.min .i64 = -9223372036854775808 := rfl
  have h1 : IntKind.max .i64 = 9223372036854775807 := rfl
  simp only [Lit.wf, h0, h1, Bool.and_eq_true, decide_eq_true_eq] at wf
  exact wf
theorem wf_u64 {n : Int} (wf : Lit.wf (.int .u64 n) = true) : ∃ k : Nat, k < 18446744073709551616 ∧ n = (k : Int) := by
  have h0 : IntKind.min .u64 = 0 := rfl
  have h1 : IntKind.max .u64 = 18446744073709551615 := rfl
  simp only [Lit.wf, h0, h1, Bool.and_eq_true, decide_eq_true_eq] at wf
  obtain ⟨k, rfl⟩ := Int.eq_ofNat_of_zero_le wf.1
  exact ⟨k, by omega, rfl⟩
theorem open_i64 {H : Type} {enc : TypeId × Value → H} {w : World} {base : Nat} {sp : Nat → Bool} {held : Bool} {r : Reach} {b0 : Nat} {v : Value} {d : DataW H} {ps : List MemPlace} (hval : Value.okWide Try.prog w r b0 3 v) (hd : DataW.Trod enc Try.prog w base sp held 3 v d ps) : ∃ n : Int, (-9223372036854775808 ≤ n ∧ n ≤ 9223372036854775807) ∧ v = .int .i64 n := by
  obtain ⟨n, rfl, _, _, wf⟩ := open_int Try.underlying3 hval hd
  exact ⟨n, wf_i64 wf, rfl⟩
theorem open_u64 {H : Type} {enc : TypeId × Value → H} {w : World} {base : Nat} {sp : Nat → Bool} {held : Bool} {r : Reach} {b0 : Nat} {v : Value} {d : DataW H} {ps : List MemPlace} (hval : Value.okWide Try.prog w r b0 31 v) (hd : DataW.Trod enc Try.prog w base sp held 31 v d ps) : ∃ k : Nat, k < 18446744073709551616 ∧ v = .int .u64 (k : Int) := by
  obtain ⟨n, rfl, _, _, wf⟩ := open_int Try.underlying31 hval hd
  obtain ⟨k, hk, rfl⟩ := wf_u64 wf
  exact ⟨k, hk, rfl⟩
theorem slice_spot {P : Program} {w : World} {r : Reach} {base : Nat} {t e : TypeId} {a : Addr} {n c : Nat} (ht : P.underlying t = some (.slice e)) (h : Value.okWide P w r base t (.slice (some a) n c)) : a.spot = none := by
  simp only [Value.okWide, ht, Cell.okWide, Cell.ok] at h
  exact h.2.2.2.1
/-- a row among the arguments reads as a list -/
theorem open_row {H α : Type} [Inhabited α] {enc : TypeId × Value → H} {P : Program} {W : World} {r : Reach} {base : Nat} {v : Value} {d : DataW H} {p : List MemPlace} (t e : TypeId) (c : Nat) (cells : α → List Value) (wf : α → Prop) (ht : P.underlying t = some (.slice e)) (hc : P.cellsOf e = c)
    (hone : ∀ cs n D Pl, cs.length = c → DataW.trod enc P W 0 (fun _ => true) true n e cs = some (D, Pl) → ∃ s, cs = cells s ∧ wf s) (hlen : ∀ s, (cells s).length = c)
    (hv : Value.okWide P W r base t v) (h : DataW.Trod enc P W 0 (fun _ => true) true t v d p) :
    ∃ l : List α, (l = [] ∧ v = .slice none 0 0) ∨ ∃ b o cap, v = .slice (some ⟨b, o, none⟩) l.length cap ∧ ∀ (j : Nat) s, l[j]? = some s → W.rangeAt b (o + j * c) (cells s) ∧ wf s := by
  obtain ⟨a0, len0, cap0, rfl⟩ := okWide_slice ht hv
  obtain ⟨fuel, hf⟩ := h
  rcases Deep.open_slice ht hf with ⟨hcs, _⟩ | ⟨a, len, cap, m, n, D, Pl, hcs, _, hlc, hcm, hm, hx, hel⟩
  · have e1 : Value.slice a0 len0 cap0 = .slice none 0 0 := by simpa [Value.cells] using hcs
    exact ⟨[], .inl ⟨rfl, e1⟩⟩
  · have e1 : Value.slice a0 len0 cap0 = .slice (some a) len cap := by simpa [Value.cells] using hcs
    rw [e1] at hv ⊢
    have hsp := slice_spot ht hv
    have hml : len ≤ m := by rw [hm]; split <;> omega
    have each : ∀ i, i < len → ∃ s : α, W.cells? 0 (a.add (i * c)) c = some (cells s) ∧ wf s := by
      intro i hi
      obtain ⟨cs, g1, g2⟩ := hel i (by omega)
      rw [hc] at g1
      obtain ⟨s, rfl, hw⟩ := hone cs _ _ _ (World.cells?_some g1).2.1 g2
      exact ⟨s, g1, hw⟩
    obtain ⟨S, hS⟩ := Deep.choose_lt (α := α) each
    obtain ⟨b, o, sp⟩ := a
    obtain rfl : sp = none := hsp
    refine ⟨(List.range len).map S, .inr ⟨b, o, cap, by simp, fun j s hj => ?_⟩⟩
    simp only [List.getElem?_map, Option.map_eq_some_iff] at hj
    obtain ⟨i, hi, rfl⟩ := hj
    obtain ⟨hjl, hij⟩ := List.getElem?_eq_some_iff.1 hi
    rw [List.getElem_range] at hij
    rw [List.length_range] at hjl
    subst hij
    obtain ⟨g1, g2⟩ := hS j hjl
    refine ⟨fun k u hk => ?_, g2⟩
    obtain ⟨_, gl, gc⟩ := World.cells?_some g1
    have hkc : k < c := by have := (List.getElem?_eq_some_iff.1 hk).1; rw [hlen] at this; exact this
    have := gc k hkc
    rw [hk, Addr.add_mid, Addr.add_mid] at this
    exact this
theorem range_flat {w : World} {b : Nat} : ∀ (l : List It) (o : Nat), (∀ (i : Nat) x, l[i]? = some x → w.rangeAt b (o + i * 2) (itC x.1 x.2).toList) → w.rangeAt b o (flat l)
  | [], o, _ => fun j v hj => by simp [flat] at hj
  | x :: l, o, h => fun j v hj => by
    have h0 := h 0 x rfl
    match j, hj with
    | 0, hj => exact h0 0 v hj
    | 1, hj => exact h0 1 v hj
    | j + 2, hj =>
      have := range_flat l (o + 2) (fun i y hy => by
        have := h (i + 1) y hy
        rwa [show o + (i + 1) * 2 = o + 2 + i * 2 by omega] at this) j v hj
      rwa [show o + 2 + j = o + (j + 2) by omega] at this
theorem item_one {H : Type} {enc : TypeId × Value → H} {W : World} {cs : List Value} {n : Nat} {D : DataW H} {Pl : List MemPlace} (hlen : cs.length = 2) (h : DataW.trod enc Try.prog W 0 (fun _ => true) true n 46 cs = some (D, Pl)) :
    ∃ x : It, cs = (itC x.1 x.2).toList ∧ x.1 < 18446744073709551616 := by
  obtain ⟨xs, m, _, _, _, hl, hf⟩ := DataW.trod_struct Try.underlying46 h
  have e1 : Try.prog.cellsOf 31 = 1 := by kernel_rfl
  have e2 : Try.prog.cellsOf 9 = 1 := by kernel_rfl
  have hl2 : xs.length = 2 := hl
  match cs, hlen, xs, hl2 with
  | [c0, c1], _, [y0, y1], _ =>
    have t0 : DataW.trod enc Try.prog W 0 (fun _ => true) true m 31 (List.take (Try.prog.cellsOf 31) [c0, c1]) = some y0 := hf 0 _ rfl
    have t1 : DataW.trod enc Try.prog W 0 (fun _ => true) true m 9 (List.take (Try.prog.cellsOf 9) [c1]) = some y1 := hf 1 _ rfl
    rw [e1] at t0
    rw [e2] at t1
    obtain ⟨n0, h0, _, w0⟩ := DataW.trod_int Try.underlying31 t0
    obtain ⟨s1, h1, _, _⟩ := DataW.trod_string Try.underlying9 t1
    obtain ⟨k, hk, rfl⟩ := wf_u64 w0
    simp only [List.take_succ_cons, List.take_zero, List.cons.injEq, and_true] at h0 h1
    subst h0 h1
    exact ⟨(k, s1), rfl, hk⟩
/-- items among the arguments -/
theorem open_items {H : Type} {enc : TypeId × Value → H} {W : World} {r : Reach} {base : Nat} {v : Value} {d : DataW H} {p : List MemPlace} (hv : Value.okWide Try.prog W r base 27 v)
    (h : DataW.Trod enc Try.prog W 0 (fun _ => true) true 27 v d p) : ∃ l : List It, Told W v l ∧ ∀ x ∈ l, x.1 < 18446744073709551616 := by
  haveI : Inhabited It := ⟨(0, ⟨#[]⟩)⟩
  obtain ⟨l, hl⟩ := open_row (α := It) 27 46 2 (fun x => (itC x.1 x.2).toList) (fun x => x.1 < 18446744073709551616) Try.underlying27 (by kernel_rfl) (fun cs n D Pl hlen h => item_one hlen h) (fun _ => rfl) hv h
  refine ⟨l, ?_⟩
  rcases hl with ⟨rfl, rfl⟩ | ⟨b, o, cap, rfl, hj⟩
  · exact ⟨⟨rfl, .inl ⟨rfl, rfl⟩⟩, by simp⟩
  · refine ⟨⟨flat_length l, .inr ⟨b, o, cap, rfl, range_flat l o fun i x hx => (hj i x hx).1⟩⟩, fun x hx => ?_⟩
    obtain ⟨i, hi, rfl⟩ := List.getElem_of_mem hx
    exact (hj i _ (List.getElem?_eq_getElem hi)).2

/-- one of a script -/
structure Stp where
  kind : Int
  key : Nat
  val : ByteArray
  hi : Nat
  most : Int
def stpC (s : Stp) : Array Value := #[.int .i64 s.kind, .int .u64 (s.key : Int), .string s.val, .int .u64 (s.hi : Int), .int .i64 s.most]
def Stp.wf (s : Stp) : Prop := s.key < 18446744073709551616 ∧ s.hi < 18446744073709551616 ∧ -9223372036854775808 ≤ s.most ∧ s.most ≤ 9223372036854775807
theorem step_one {H : Type} {enc : TypeId × Value → H} {W : World} {cs : List Value} {n : Nat} {D : DataW H} {Pl : List MemPlace} (hlen : cs.length = 5) (h : DataW.trod enc Try.prog W 0 (fun _ => true) true n 33 cs = some (D, Pl)) :
    ∃ s : Stp, cs = (stpC s).toList ∧ s.wf := by
  obtain ⟨xs, m, _, _, _, hl, hf⟩ := DataW.trod_struct Try.underlying33 h
  have e1 : Try.prog.cellsOf 31 = 1 := by kernel_rfl
  have e2 : Try.prog.cellsOf 9 = 1 := by kernel_rfl
  have e3 : Try.prog.cellsOf 3 = 1 := by kernel_rfl
  have hl2 : xs.length = 5 := hl
  match cs, hlen, xs, hl2 with
  | [c0, c1, c2, c3, c4], _, [y0, y1, y2, y3, y4], _ =>
    have t0 : DataW.trod enc Try.prog W 0 (fun _ => true) true m 3 (List.take (Try.prog.cellsOf 3) [c0, c1, c2, c3, c4]) = some y0 := hf 0 _ rfl
    have t1 : DataW.trod enc Try.prog W 0 (fun _ => true) true m 31 (List.take (Try.prog.cellsOf 31) [c1, c2, c3, c4]) = some y1 := hf 1 _ rfl
    have t2 : DataW.trod enc Try.prog W 0 (fun _ => true) true m 9 (List.take (Try.prog.cellsOf 9) [c2, c3, c4]) = some y2 := hf 2 _ rfl
    have t3 : DataW.trod enc Try.prog W 0 (fun _ => true) true m 31 (List.take (Try.prog.cellsOf 31) [c3, c4]) = some y3 := hf 3 _ rfl
    have t4 : DataW.trod enc Try.prog W 0 (fun _ => true) true m 3 (List.take (Try.prog.cellsOf 3) [c4]) = some y4 := hf 4 _ rfl
    rw [e3] at t0 t4
    rw [e1] at t1 t3
    rw [e2] at t2
    obtain ⟨n0, h0, _, _⟩ := DataW.trod_int Try.underlying3 t0
    obtain ⟨n1, h1, _, w1⟩ := DataW.trod_int Try.underlying31 t1
    obtain ⟨s2, h2, _, _⟩ := DataW.trod_string Try.underlying9 t2
    obtain ⟨n3, h3, _, w3⟩ := DataW.trod_int Try.underlying31 t3
    obtain ⟨n4, h4, _, w4⟩ := DataW.trod_int Try.underlying3 t4
    obtain ⟨k1, hk1, rfl⟩ := wf_u64 w1
    obtain ⟨k3, hk3, rfl⟩ := wf_u64 w3
    simp only [List.take_succ_cons, List.take_zero, List.cons.injEq, and_true] at h0 h1 h2 h3 h4
    subst h0 h1 h2 h3 h4
    exact ⟨⟨n0, k1, s2, k3, n4⟩, rfl, hk1, hk3, wf_i64 w4⟩
/-- v reads as the script l -/
def Scr (w : World) (v : Value) (l : List Stp) : Prop :=
  (l = [] ∧ v = .slice none 0 0) ∨ ∃ b o c, v = .slice (some ⟨b, o, none⟩) l.length c ∧ ∀ (j : Nat) s, l[j]? = some s → w.rangeAt b (o + j * 5) (stpC s).toList ∧ s.wf
theorem open_script {H : Type} {enc : TypeId × Value → H} {W : World} {r : Reach} {base : Nat} {v : Value} {d : DataW H} {p : List MemPlace} (hv : Value.okWide Try.prog W r base 22 v)
    (h : DataW.Trod enc Try.prog W 0 (fun _ => true) true 22 v d p) : ∃ l, Scr W v l := by
  haveI : Inhabited Stp := ⟨⟨0, 0, ⟨#[]⟩, 0, 0⟩⟩
  exact open_row (α := Stp) 22 33 5 (fun s => (stpC s).toList) Stp.wf Try.underlying22 (by kernel_rfl) (fun cs n D Pl hlen h => step_one hlen h) (fun _ => rfl) hv h
end Go.Proofs.Ytbjlappppbaohaa
