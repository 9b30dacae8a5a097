/- Numbers, rows of them, and scripts, among the arguments, opened. -/
import Derived.Test.YtboojbgcleknlaaTimHas
import Derived.Deep.Slices
import Derived.SizedLaws
namespace Go.Proofs.Ytboojbgcleknlaa
set_option maxRecDepth 100000
open Go Go.ChangeShapes Go.WideShapes Go.ChangeAt Go.RowKit Go.Sort

theorem wf_i64 {n : Int} (wf : Lit.wf (.int .i64 n) = true) : -9223372036854775808 ≤ n ∧ n ≤ 9223372036854775807 := by
  have h0 : IntKind.min .i64 = -9223372036854775808 := rfl
  have h1 : IntKind.max .i64 = 9223372036854775807 := rfl
  simp only [Lit.wf, h0, h1, Bool.and_eq_true, decide_eq_true_eq] at wf
  exact wf
theorem open_i64 {H : Type} {enc : TypeId × Value → H} {w : World} {base : Nat} {sp : Nat → Bool} {held : Bool} {r : Reach} {b0 : Nat} {v : Value} {d : DataW H} {ps : List MemPlace} (hval : Value.okWide Try.prog w r b0 3 v) (hd : DataW.Trod enc Try.prog w base sp held 3 v d ps) : ∃ n : Int, (-9223372036854775808 ≤ n ∧ n ≤ 9223372036854775807) ∧ v = .int .i64 n := by
  obtain ⟨n, rfl, _, _, wf⟩ := open_int Try.underlying3 hval hd
  exact ⟨n, wf_i64 wf, rfl⟩
theorem slice_spot {P : Program} {w : World} {r : Reach} {base : Nat} {t e : TypeId} {a : Addr} {n c : Nat} (ht : P.underlying t = some (.slice e)) (h : Value.okWide P w r base t (.slice (some a) n c)) : a.spot = none := by
  simp only [Value.okWide, ht, Cell.okWide, Cell.ok] at h
  exact h.2.2.2.1
/-- a row among the arguments reads as a list -/
theorem open_row {H α : Type} [Inhabited α] {enc : TypeId × Value → H} {P : Program} {W : World} {r : Reach} {base : Nat} {v : Value} {d : DataW H} {p : List MemPlace} (t e : TypeId) (c : Nat) (cells : α → List Value) (wf : α → Prop) (ht : P.underlying t = some (.slice e)) (hc : P.cellsOf e = c)
    (hone : ∀ cs n D Pl, cs.length = c → DataW.trod enc P W 0 (fun _ => true) true n e cs = some (D, Pl) → ∃ s, cs = cells s ∧ wf s) (hlen : ∀ s, (cells s).length = c)
    (hv : Value.okWide P W r base t v) (h : DataW.Trod enc P W 0 (fun _ => true) true t v d p) :
    ∃ l : List α, (l = [] ∧ v = .slice none 0 0) ∨ ∃ b o cap, v = .slice (some ⟨b, o, none⟩) l.length cap ∧ ∀ (j : Nat) s, l[j]? = some s → W.rangeAt b (o + j * c) (cells s) ∧ wf s := by
  obtain ⟨a0, len0, cap0, rfl⟩ := okWide_slice ht hv
  obtain ⟨fuel, hf⟩ := h
  rcases Deep.open_slice ht hf with ⟨hcs, _⟩ | ⟨a, len, cap, m, n, D, Pl, hcs, _, hlc, hcm, hm, hx, hel⟩
  · have e1 : Value.slice a0 len0 cap0 = .slice none 0 0 := by simpa [Value.cells] using hcs
    exact ⟨[], .inl ⟨rfl, e1⟩⟩
  · have e1 : Value.slice a0 len0 cap0 = .slice (some a) len cap := by simpa [Value.cells] using hcs
    rw [e1] at hv ⊢
    have hsp := slice_spot ht hv
    have hml : len ≤ m := by rw [hm]; split <;> omega
    have each : ∀ i, i < len → ∃ s : α, W.cells? 0 (a.add (i * c)) c = some (cells s) ∧ wf s := by
      intro i hi
      obtain ⟨cs, g1, g2⟩ := hel i (by omega)
      rw [hc] at g1
      obtain ⟨s, rfl, hw⟩ := hone cs _ _ _ (World.cells?_some g1).2.1 g2
      exact ⟨s, g1, hw⟩
    obtain ⟨S, hS⟩ := Deep.choose_lt (α := α) each
    obtain ⟨b, o, sp⟩ := a
    obtain rfl : sp = none := hsp
    refine ⟨(List.range len).map S, .inr ⟨b, o, cap, by simp, fun j s hj => ?_⟩⟩
    simp only [List.getElem?_map, Option.map_eq_some_iff] at hj
    obtain ⟨i, hi, rfl⟩ := hj
    obtain ⟨hjl, hij⟩ := List.getElem?_eq_some_iff.1 hi
    rw [List.getElem_range] at hij
    rw [List.length_range] at hjl
    subst hij
    obtain ⟨g1, g2⟩ := hS j hjl
    refine ⟨fun k u hk => ?_, g2⟩
    obtain ⟨_, gl, gc⟩ := World.cells?_some g1
    have hkc : k < c := by have := (List.getElem?_eq_some_iff.1 hk).1; rw [hlen] at this; exact this
    have := gc k hkc
    rw [hk, Addr.add_mid, Addr.add_mid] at this
    exact this
theorem fit_of {n : Int} (h : -9223372036854775808 ≤ n ∧ n ≤ 9223372036854775807) : Fit n := WalkArith.wf_i64 h
/-- v reads as the numbers l -/
def Num (w : World) (v : Value) (l : List Int) : Prop := (l = [] ∧ v = .slice none 0 0) ∨ ∃ b o c, v = .slice (some ⟨b, o, none⟩) l.length c ∧ ∀ (j : Nat) x, l[j]? = some x → w.rangeAt b (o + j * 1) [.int .i64 x] ∧ Fit x
theorem open_nums {H : Type} {enc : TypeId × Value → H} {W : World} {r : Reach} {base : Nat} {v : Value} {d : DataW H} {p : List MemPlace} (hv : Value.okWide Try.prog W r base 34 v)
    (h : DataW.Trod enc Try.prog W 0 (fun _ => true) true 34 v d p) : ∃ l, Num W v l :=
  open_row (α := Int) 34 3 1 (fun s => [.int .i64 s]) Fit Try.underlying34 (by kernel_rfl) (fun cs n D Pl _ h => by obtain ⟨n0, h0, _, hw⟩ := DataW.trod_int Try.underlying3 h; exact ⟨n0, h0, hw⟩) (fun _ => rfl) hv h
theorem Num.form {w : World} {v : Value} {l : List Int} (h : Num w v l) : ∃ a c, v = .slice a l.length c := by
  rcases h with ⟨rfl, rfl⟩ | ⟨b, o, c, rfl, _⟩
  · exact ⟨_, _, rfl⟩
  · exact ⟨_, _, rfl⟩
/-- .. in a later world: one of them -/
theorem Num.at {w w' : World} {a : Option Addr} {n c : Nat} {l : List Int} (h : Num w (.slice a n c) l) (hb : Below w.heap.size w w') {j : Nat} {x : Int} (hj : l[j]? = some x) :
    ∃ b o, a = some ⟨b, o, none⟩ ∧ w'.cell? ⟨b, o + j, none⟩ = some (.int .i64 x) ∧ Fit x := by
  rcases h with ⟨rfl, _⟩ | ⟨b, o, c', hv, h⟩
  · simp at hj
  · obtain ⟨hr, hw⟩ := h j x hj
    have hr' := range_bel hr hb (range_lt hr (by simp))
    simp only [Value.slice.injEq] at hv
    refine ⟨b, o, hv.1, ?_, hw⟩
    have := hr' 0 _ rfl
    rwa [Nat.mul_one, Nat.add_zero] at this
/-- one of a script -/
structure Stp where
  kind : Int
  id : Int
  tm : Int
def stpC (s : Stp) : Array Value := #[.int .i64 s.kind, .int .i64 s.id, .int .i64 s.tm]
theorem step_one {H : Type} {enc : TypeId × Value → H} {W : World} {cs : List Value} {n : Nat} {D : DataW H} {Pl : List MemPlace} (hlen : cs.length = 3) (h : DataW.trod enc Try.prog W 0 (fun _ => true) true n 30 cs = some (D, Pl)) :
    ∃ s : Stp, cs = (stpC s).toList ∧ Fit s.id := by
  obtain ⟨xs, f, _, _, _, hl, hf⟩ := DataW.trod_struct Try.underlying30 h
  have e1 : Try.prog.cellsOf 3 = 1 := by kernel_rfl
  have hl2 : xs.length = 3 := hl
  match cs, hlen, xs, hl2 with
  | [c0, c1, c2], _, [y0, y1, y2], _ =>
    have t0 : DataW.trod enc Try.prog W 0 (fun _ => true) true f 3 (List.take (Try.prog.cellsOf 3) [c0, c1, c2]) = some y0 := hf 0 _ rfl
    have t1 : DataW.trod enc Try.prog W 0 (fun _ => true) true f 3 (List.take (Try.prog.cellsOf 3) [c1, c2]) = some y1 := hf 1 _ rfl
    have t2 : DataW.trod enc Try.prog W 0 (fun _ => true) true f 3 (List.take (Try.prog.cellsOf 3) [c2]) = some y2 := hf 2 _ rfl
    rw [e1] at t0 t1 t2
    obtain ⟨n0, h0, _, _⟩ := DataW.trod_int Try.underlying3 t0
    obtain ⟨n1, h1, _, hw⟩ := DataW.trod_int Try.underlying3 t1
    obtain ⟨n2, h2, _, _⟩ := DataW.trod_int Try.underlying3 t2
    simp only [List.take_succ_cons, List.take_zero, List.cons.injEq, and_true] at h0 h1 h2
    subst h0 h1 h2
    exact ⟨⟨n0, n1, n2⟩, rfl, hw⟩
/-- v reads as the script l -/
def Scr (w : World) (v : Value) (l : List Stp) : Prop :=
  (l = [] ∧ v = .slice none 0 0) ∨ ∃ b o c, v = .slice (some ⟨b, o, none⟩) l.length c ∧ ∀ (j : Nat) s, l[j]? = some s → w.rangeAt b (o + j * 3) (stpC s).toList ∧ Fit s.id
theorem open_script {H : Type} {enc : TypeId × Value → H} {W : World} {r : Reach} {base : Nat} {v : Value} {d : DataW H} {p : List MemPlace} (hv : Value.okWide Try.prog W r base 22 v)
    (h : DataW.Trod enc Try.prog W 0 (fun _ => true) true 22 v d p) : ∃ l, Scr W v l := by
  haveI : Inhabited Stp := ⟨⟨0, 0, 0⟩⟩
  exact open_row (α := Stp) 22 30 3 (fun s => (stpC s).toList) (fun s => Fit s.id) Try.underlying22 (by kernel_rfl) (fun cs n D Pl hlen h => step_one hlen h) (fun _ => rfl) hv h
theorem Scr.form {w : World} {v : Value} {l : List Stp} (h : Scr w v l) : ∃ a c, v = .slice a l.length c := by
  rcases h with ⟨rfl, rfl⟩ | ⟨b, o, c, rfl, _⟩
  · exact ⟨_, _, rfl⟩
  · exact ⟨_, _, rfl⟩
theorem Scr.at {w w' : World} {a : Option Addr} {n c : Nat} {l : List Stp} (h : Scr w (.slice a n c) l) (hb : Below w.heap.size w w') {j : Nat} {s : Stp} (hj : l[j]? = some s) :
    ∃ b o, a = some ⟨b, o, none⟩ ∧ w'.rangeAt b (o + j * 3) (stpC s).toList ∧ Fit s.id := by
  rcases h with ⟨rfl, _⟩ | ⟨b, o, c', hv, h⟩
  · simp at hj
  · obtain ⟨hr, hw⟩ := h j s hj
    have hr' := range_bel hr hb (range_lt hr (by simp [stpC]))
    simp only [Value.slice.injEq] at hv
    exact ⟨b, o, hv.1, hr', hw⟩
end Go.Proofs.Ytboojbgcleknlaa
