/- Messages, rows of them, and scripts, among the arguments, opened. -/
import Derived.Test.YtbjjbcjapkmnfaaBagPacked
import Derived.Deep.Slices
import Derived.SizedLaws
namespace Go.Proofs.Ytbjjbcjapkmnfaa
set_option maxRecDepth 100000
open Go Go.ChangeShapes Go.WideShapes Go.ChangeAt Go.RowKit Go.Sort

theorem wf_i64 {n : Int} (wf : Lit.wf (.int .i64 n) = true) : -9223372036854775808 ≤ n ∧ n ≤ 9223372036854775807 := by
  have h0 : IntKind.min .i64 = -9223372036854775808 := rfl
  have h1 : IntKind.max .i64 = 9223372036854775807 := rfl
  simp only [Lit.wf, h0, h1, Bool.and_eq_true, decide_eq_true_eq] at wf
  exact wf
theorem open_i64 {H : Type} {enc : TypeId × Value → H} {w : World} {base : Nat} {sp : Nat → Bool} {held : Bool} {r : Reach} {b0 : Nat} {v : Value} {d : DataW H} {ps : List MemPlace} (hval : Value.okWide Try.prog w r b0 3 v) (hd : DataW.Trod enc Try.prog w base sp held 3 v d ps) : ∃ n : Int, (-9223372036854775808 ≤ n ∧ n ≤ 9223372036854775807) ∧ v = .int .i64 n := by
  obtain ⟨n, rfl, _, _, wf⟩ := open_int Try.underlying3 hval hd
  exact ⟨n, wf_i64 wf, rfl⟩
theorem slice_spot {P : Program} {w : World} {r : Reach} {base : Nat} {t e : TypeId} {a : Addr} {n c : Nat} (ht : P.underlying t = some (.slice e)) (h : Value.okWide P w r base t (.slice (some a) n c)) : a.spot = none := by
  simp only [Value.okWide, ht, Cell.okWide, Cell.ok] at h
  exact h.2.2.2.1
/-- a row among the arguments reads as a list -/
theorem open_row {H α : Type} [Inhabited α] {enc : TypeId × Value → H} {P : Program} {W : World} {r : Reach} {base : Nat} {v : Value} {d : DataW H} {p : List MemPlace} (t e : TypeId) (c : Nat) (cells : α → List Value) (wf : α → Prop) (ht : P.underlying t = some (.slice e)) (hc : P.cellsOf e = c)
    (hone : ∀ cs n D Pl, cs.length = c → DataW.trod enc P W 0 (fun _ => true) true n e cs = some (D, Pl) → ∃ s, cs = cells s ∧ wf s) (hlen : ∀ s, (cells s).length = c)
    (hv : Value.okWide P W r base t v) (h : DataW.Trod enc P W 0 (fun _ => true) true t v d p) :
    ∃ l : List α, (l = [] ∧ v = .slice none 0 0) ∨ ∃ b o cap, v = .slice (some ⟨b, o, none⟩) l.length cap ∧ ∀ (j : Nat) s, l[j]? = some s → W.rangeAt b (o + j * c) (cells s) ∧ wf s := by
  obtain ⟨a0, len0, cap0, rfl⟩ := okWide_slice ht hv
  obtain ⟨fuel, hf⟩ := h
  rcases Deep.open_slice ht hf with ⟨hcs, _⟩ | ⟨a, len, cap, m, n, D, Pl, hcs, _, hlc, hcm, hm, hx, hel⟩
  · have e1 : Value.slice a0 len0 cap0 = .slice none 0 0 := by simpa [Value.cells] using hcs
    exact ⟨[], .inl ⟨rfl, e1⟩⟩
  · have e1 : Value.slice a0 len0 cap0 = .slice (some a) len cap := by simpa [Value.cells] using hcs
    rw [e1] at hv ⊢
    have hsp := slice_spot ht hv
    have hml : len ≤ m := by rw [hm]; split <;> omega
    have each : ∀ i, i < len → ∃ s : α, W.cells? 0 (a.add (i * c)) c = some (cells s) ∧ wf s := by
      intro i hi
      obtain ⟨cs, g1, g2⟩ := hel i (by omega)
      rw [hc] at g1
      obtain ⟨s, rfl, hw⟩ := hone cs _ _ _ (World.cells?_some g1).2.1 g2
      exact ⟨s, g1, hw⟩
    obtain ⟨S, hS⟩ := Deep.choose_lt (α := α) each
    obtain ⟨b, o, sp⟩ := a
    obtain rfl : sp = none := hsp
    refine ⟨(List.range len).map S, .inr ⟨b, o, cap, by simp, fun j s hj => ?_⟩⟩
    simp only [List.getElem?_map, Option.map_eq_some_iff] at hj
    obtain ⟨i, hi, rfl⟩ := hj
    obtain ⟨hjl, hij⟩ := List.getElem?_eq_some_iff.1 hi
    rw [List.getElem_range] at hij
    rw [List.length_range] at hjl
    subst hij
    obtain ⟨g1, g2⟩ := hS j hjl
    refine ⟨fun k u hk => ?_, g2⟩
    obtain ⟨_, gl, gc⟩ := World.cells?_some g1
    have hkc : k < c := by have := (List.getElem?_eq_some_iff.1 hk).1; rw [hlen] at this; exact this
    have := gc k hkc
    rw [hk, Addr.add_mid, Addr.add_mid] at this
    exact this
theorem arr3 {α : Type} {a : Array α} (h : a.size = 3) : ∃ x0 x1 x2, a = #[x0, x1, x2] := by
  obtain ⟨l⟩ := a
  match l, h with
  | [x0, x1, x2], _ => exact ⟨x0, x1, x2, rfl⟩
theorem cells3 : Try.prog.cellsOf 33 = 3 := by kernel_rfl
theorem ml_one {H : Type} {enc : TypeId × Value → H} {W : World} {cs : List Value} {n : Nat} {D : DataW H} {Pl : List MemPlace} (hlen : cs.length = 3) (h : DataW.trod enc Try.prog W 0 (fun _ => true) true n 33 cs = some (D, Pl)) :
    ∃ m : Ml, cs = (mlC m).toList := by
  obtain ⟨xs, f, _, _, _, hl, hf⟩ := DataW.trod_struct Try.underlying33 h
  have e1 : Try.prog.cellsOf 3 = 1 := by kernel_rfl
  have e2 : Try.prog.cellsOf 9 = 1 := by kernel_rfl
  have hl2 : xs.length = 3 := hl
  match cs, hlen, xs, hl2 with
  | [c0, c1, c2], _, [y0, y1, y2], _ =>
    have t0 : DataW.trod enc Try.prog W 0 (fun _ => true) true f 3 (List.take (Try.prog.cellsOf 3) [c0, c1, c2]) = some y0 := hf 0 _ rfl
    have t1 : DataW.trod enc Try.prog W 0 (fun _ => true) true f 3 (List.take (Try.prog.cellsOf 3) [c1, c2]) = some y1 := hf 1 _ rfl
    have t2 : DataW.trod enc Try.prog W 0 (fun _ => true) true f 9 (List.take (Try.prog.cellsOf 9) [c2]) = some y2 := hf 2 _ rfl
    rw [e1] at t0 t1
    rw [e2] at t2
    obtain ⟨n0, h0, _, _⟩ := DataW.trod_int Try.underlying3 t0
    obtain ⟨n1, h1, _, _⟩ := DataW.trod_int Try.underlying3 t1
    obtain ⟨s2, h2, _, _⟩ := DataW.trod_string Try.underlying9 t2
    simp only [List.take_succ_cons, List.take_zero, List.cons.injEq, and_true] at h0 h1 h2
    subst h0 h1 h2
    exact ⟨⟨n0, n1, s2⟩, rfl⟩
/-- a message among the arguments -/
theorem open_ml {H : Type} {enc : TypeId × Value → H} {W : World} {r : Reach} {base : Nat} {v : Value} {d : DataW H} {p : List MemPlace} (hv : Value.okWide Try.prog W r base 33 v)
    (h : DataW.Trod enc Try.prog W 0 (fun _ => true) true 33 v d p) : ∃ m : Ml, v = .agg #[.int .i64 m.fr, .int .i64 m.to, .string m.bd] := by
  have hu := Try.underlying33
  simp only [Value.okWide, hu] at hv
  obtain ⟨cs, rfl, hsz, _⟩ := hv
  rw [cells3] at hsz
  obtain ⟨c0, c1, c2, rfl⟩ := arr3 hsz
  obtain ⟨fuel, hf⟩ := h
  obtain ⟨m, hm⟩ := ml_one (by rfl) hf
  refine ⟨m, ?_⟩
  have : (#[c0, c1, c2] : Array Value) = mlC m := by
    apply Array.toList_inj.1
    exact hm
  rw [this]
  rfl
/-- v reads as the messages l -/
def IsM (w : World) (v : Value) (l : List Ml) : Prop :=
  (l = [] ∧ v = .slice none 0 0) ∨ ∃ b o c, v = .slice (some ⟨b, o, none⟩) l.length c ∧ ∀ (j : Nat) m, l[j]? = some m → w.rangeAt b (o + j * 3) (mlC m).toList
theorem open_mls {H : Type} {enc : TypeId × Value → H} {W : World} {r : Reach} {base : Nat} {v : Value} {d : DataW H} {p : List MemPlace} (hv : Value.okWide Try.prog W r base 37 v)
    (h : DataW.Trod enc Try.prog W 0 (fun _ => true) true 37 v d p) : ∃ l : List Ml, IsM W v l := by
  haveI : Inhabited Ml := ⟨mlZ⟩
  obtain ⟨l, hl⟩ := open_row (α := Ml) 37 33 3 (fun m => (mlC m).toList) (fun _ => True) Try.underlying37 cells3 (fun cs n D Pl hlen h => by obtain ⟨m, hm⟩ := ml_one hlen h; exact ⟨m, hm, trivial⟩) (fun _ => rfl) hv h
  refine ⟨l, hl.imp id ?_⟩
  rintro ⟨b, o, c, h1, h2⟩
  exact ⟨b, o, c, h1, fun j m hj => (h2 j m hj).1⟩
theorem IsM.form {w : World} {v : Value} {l : List Ml} (h : IsM w v l) : ∃ a c, v = .slice a l.length c := by
  rcases h with ⟨rfl, rfl⟩ | ⟨b, o, c, rfl, _⟩
  · exact ⟨_, _, rfl⟩
  · exact ⟨_, _, rfl⟩
/-- .. in a later world: a message of it -/
theorem IsM.at {w w' : World} {a : Option Addr} {n c : Nat} {l : List Ml} (h : IsM w (.slice a n c) l) (hb : Below w.heap.size w w') {j : Nat} {m : Ml} (hj : l[j]? = some m) :
    ∃ b o, a = some ⟨b, o, none⟩ ∧ w'.cell? ⟨b, o + j * 3, none⟩ = some (.int .i64 m.fr) ∧ w'.cell? ⟨b, o + j * 3 + 1, none⟩ = some (.int .i64 m.to) ∧ w'.cell? ⟨b, o + j * 3 + 2, none⟩ = some (.string m.bd) ∧ w'.rangeAt b (o + j * 3) (mlC m).toList := by
  rcases h with ⟨rfl, _⟩ | ⟨b, o, c', hv, h⟩
  · simp at hj
  · have hr := h j m hj
    have hr' := range_bel hr hb (range_lt hr (by simp [mlC]))
    simp only [Value.slice.injEq] at hv
    refine ⟨b, o, hv.1, ?_, ?_, ?_, hr'⟩
    · exact hr' 0 _ rfl
    · exact hr' 1 _ rfl
    · exact hr' 2 _ rfl

/-- one of a script -/
structure Stp where
  kind : Int
  m : Ml
  i : Int
def stpC (s : Stp) : Array Value := #[.int .i64 s.kind, .int .i64 s.m.fr, .int .i64 s.m.to, .string s.m.bd, .int .i64 s.i]
theorem step_one {H : Type} {enc : TypeId × Value → H} {W : World} {cs : List Value} {n : Nat} {D : DataW H} {Pl : List MemPlace} (hlen : cs.length = 5) (h : DataW.trod enc Try.prog W 0 (fun _ => true) true n 35 cs = some (D, Pl)) :
    ∃ s : Stp, cs = (stpC s).toList := by
  obtain ⟨xs, f, _, _, _, hl, hf⟩ := DataW.trod_struct Try.underlying35 h
  have e1 : Try.prog.cellsOf 3 = 1 := by kernel_rfl
  have hl2 : xs.length = 3 := hl
  match cs, hlen, xs, hl2 with
  | [c0, c1, c2, c3, c4], _, [y0, y1, y2], _ =>
    have t0 : DataW.trod enc Try.prog W 0 (fun _ => true) true f 3 (List.take (Try.prog.cellsOf 3) [c0, c1, c2, c3, c4]) = some y0 := hf 0 _ rfl
    have t1 : DataW.trod enc Try.prog W 0 (fun _ => true) true f 33 (List.take (Try.prog.cellsOf 33) [c1, c2, c3, c4]) = some y1 := hf 1 _ rfl
    have t2 : DataW.trod enc Try.prog W 0 (fun _ => true) true f 3 (List.take (Try.prog.cellsOf 3) [c4]) = some y2 := hf 2 _ rfl
    rw [e1] at t0 t2
    rw [cells3] at t1
    obtain ⟨n0, h0, _, _⟩ := DataW.trod_int Try.underlying3 t0
    obtain ⟨n2, h2, _, _⟩ := DataW.trod_int Try.underlying3 t2
    obtain ⟨m, hm⟩ := ml_one (by rfl) t1
    simp only [List.take_succ_cons, List.take_zero, List.cons.injEq, and_true] at h0 h2
    simp only [List.take_succ_cons, List.take_zero, mlC, List.cons.injEq, and_true] at hm
    obtain ⟨m0, m1, m2⟩ := hm
    subst h0 h2 m0 m1 m2
    exact ⟨⟨n0, m, n2⟩, rfl⟩
/-- v reads as the script l -/
def Scr (w : World) (v : Value) (l : List Stp) : Prop :=
  (l = [] ∧ v = .slice none 0 0) ∨ ∃ b o c, v = .slice (some ⟨b, o, none⟩) l.length c ∧ ∀ (j : Nat) s, l[j]? = some s → w.rangeAt b (o + j * 5) (stpC s).toList
theorem open_script {H : Type} {enc : TypeId × Value → H} {W : World} {r : Reach} {base : Nat} {v : Value} {d : DataW H} {p : List MemPlace} (hv : Value.okWide Try.prog W r base 22 v)
    (h : DataW.Trod enc Try.prog W 0 (fun _ => true) true 22 v d p) : ∃ l, Scr W v l := by
  haveI : Inhabited Stp := ⟨⟨0, mlZ, 0⟩⟩
  obtain ⟨l, hl⟩ := open_row (α := Stp) 22 35 5 (fun s => (stpC s).toList) (fun _ => True) Try.underlying22 (by kernel_rfl) (fun cs n D Pl hlen h => by obtain ⟨s, hs⟩ := step_one hlen h; exact ⟨s, hs, trivial⟩) (fun _ => rfl) hv h
  refine ⟨l, hl.imp id ?_⟩
  rintro ⟨b, o, c, h1, h2⟩
  exact ⟨b, o, c, h1, fun j m hj => (h2 j m hj).1⟩
end Go.Proofs.Ytbjjbcjapkmnfaa
