/- A script among the arguments, opened. -/
import Derived.Test.YtgpmfiphebmldaaDoorBlaScr
import Derived.Laws.OwnMore
namespace Go.Proofs.YtgpmfiphebmldaaDoor
open Go Go.ChangeShapes Go.WideShapes Go.ChangeAt Go.RowKit Go.Sort

theorem weights_mem_all {H : Type} {P : Program} {e : TypeId} : ∀ {ds : List (DataW H)} {j : Nat} {d : DataW H}, ds[j]? = some d → ∀ n ∈ d.weights P e, n ∈ DataW.weightsAll P e ds
  | [], j, d, h, _, _ => by simp at h
  | d0 :: ds, 0, d, h, n, hn => by
    simp only [List.getElem?_cons_zero, Option.some.injEq] at h
    subst h
    simp only [DataW.weightsAll, List.mem_append]
    exact .inl hn
  | d0 :: ds, j + 1, d, h, n, hn => by
    simp only [DataW.weightsAll, List.mem_append]
    exact .inr (weights_mem_all (by simpa using h) n hn)
theorem slice_spot {P : Program} {w : World} {r : Reach} {base : Nat} {t e : TypeId} {a : Addr} {n c : Nat} (ht : P.underlying t = some (.slice e)) (h : Value.okWide P w r base t (.slice (some a) n c)) : a.spot = none := by
  simp only [Value.okWide, ht, Cell.okWide, Cell.ok] at h
  exact h.2.2.2.1
theorem list4 {l : List Value} (h : l.length = 4) : ∃ a b c d, l = [a, b, c, d] := by
  match l, h with
  | [a, b, c, d], _ => exact ⟨a, b, c, d, rfl⟩
theorem int_bounds0 {n : Int} (h : (Lit.int .i64 n).wf = true) : -9223372036854775808 ≤ n ∧ n ≤ 9223372036854775807 := by
  have h0 : IntKind.min .i64 = -9223372036854775808 := rfl
  have h1 : IntKind.max .i64 = 9223372036854775807 := rfl
  simp only [Lit.wf, h0, h1, Bool.and_eq_true, decide_eq_true_eq] at h
  exact h
set_option maxRecDepth 100000 in
theorem stp_at {H : Type} {enc : TypeId × Value → H} {W : World} {n : Nat} {a : Addr} {D : DataW H} {Pl : List MemPlace} {cs' : List Value} (h1 : W.cells? 0 a (Tryd.prog.cellsOf 55) = some cs')
    (h2 : DataW.trod enc Tryd.prog W 0 (fun _ => true) true n 55 cs' = some (D, Pl)) (hz : ∀ k ∈ D.weights Tryd.prog 55, k ≤ reachBytes) : ∃ s : Stp, cs' = (stpC s).toList ∧ s.wf := by
  have h4 : Tryd.prog.cellsOf 55 = 4 := by kernel_rfl
  obtain ⟨_, hlen, _⟩ := World.cells?_some h1
  rw [h4] at hlen
  obtain ⟨y0, y1, y2, y3, m, hx, _, t0, t1, t2, t3⟩ := Joins.trod_struct4 Tryd.underlying55 h2
  have e0 : Tryd.prog.cellsOf 3 = 1 := by kernel_rfl
  have e1 : Tryd.prog.cellsOf 23 = 1 := by kernel_rfl
  have e2 : Tryd.prog.cellsOf 9 = 1 := by kernel_rfl
  obtain ⟨c0, c1, c2, c3, rfl⟩ := list4 hlen
  have t0' : DataW.trod enc Tryd.prog W 0 (fun _ => true) true m 3 (List.take (Tryd.prog.cellsOf 3) [c0, c1, c2, c3]) = some y0 := t0
  have t1' : DataW.trod enc Tryd.prog W 0 (fun _ => true) true m 23 (List.take (Tryd.prog.cellsOf 23) [c1, c2, c3]) = some y1 := t1
  have t2' : DataW.trod enc Tryd.prog W 0 (fun _ => true) true m 9 (List.take (Tryd.prog.cellsOf 9) [c2, c3]) = some y2 := t2
  have t3' : DataW.trod enc Tryd.prog W 0 (fun _ => true) true m 3 (List.take (Tryd.prog.cellsOf 3) [c3]) = some y3 := t3
  rw [e0] at t0' t3'
  rw [e1] at t1'
  rw [e2] at t2'
  obtain ⟨n0, h0, _, _⟩ := DataW.trod_int Tryd.underlying3 t0'
  obtain ⟨n1, h1', _, w1⟩ := DataW.trod_int Tryd.underlying23 t1'
  obtain ⟨s2, h2', x2, _⟩ := DataW.trod_string Tryd.underlying9 t2'
  obtain ⟨n3, h3, _, _⟩ := DataW.trod_int Tryd.underlying3 t3'
  simp only [List.take_succ_cons, List.take_zero, List.cons.injEq, and_true] at h0 h1' h2' h3
  subst h0 h1' h2' h3
  refine ⟨⟨n0, n1, s2, n3⟩, rfl, int_bounds0 w1, ?_⟩
  have hD : D = .agg [y0.1, y1.1, y2.1, y3.1] := (Prod.mk.inj hx).1
  have hk := hz s2.data.toList.length (by
    rw [hD, x2]
    have g : s2.data.toList.length ∈ (DataW.lit (.string s2.data.toList) : DataW H).weights Tryd.prog 9 := by
      rw [DataW.weights]
      exact List.mem_singleton.2 rfl
    have g2 := DataW.weights_mem_each (P := Tryd.prog) (ts := [3, 23, 9, 3]) (ds := [y0.1, y1.1, (DataW.lit (.string s2.data.toList) : DataW H), y3.1]) (j := 2) rfl rfl _ g
    rw [DataW.weights, Tryd.underlying55]
    exact g2)
  have hb := reachBytes_lt
  have hs : s2.size = s2.data.toList.length := (Array.length_toList ..).symm
  show s2.size ≤ 140737488355328
  omega
set_option maxRecDepth 100000 in
theorem open_script {H : Type} {enc : TypeId × Value → H} {W : World} {r : Reach} {base : Nat} {v : Value} {d : DataW H} {p : List MemPlace} (hv : Value.okWide Tryd.prog W r base 22 v)
    (h : DataW.Trod enc Tryd.prog W 0 (fun _ => true) true 22 v d p) (hz : ∀ k ∈ d.weights Tryd.prog 22, k ≤ reachBytes) : ∃ l, Scr W v l := by
  obtain ⟨a0, len0, cap0, rfl⟩ := okWide_slice Tryd.underlying22 hv
  obtain ⟨fuel, hf⟩ := h
  have h4 : Tryd.prog.cellsOf 55 = 4 := by kernel_rfl
  rcases Deep.open_slice Tryd.underlying22 hf with ⟨hcs, _⟩ | ⟨a, len, cap, m, n, D, Pl, hcs, _, hlc, hcm, hm, hx, hel⟩
  · have e : Value.slice a0 len0 cap0 = .slice none 0 0 := by simpa [Value.cells] using hcs
    exact ⟨[], .inl ⟨rfl, e⟩⟩
  · have e : Value.slice a0 len0 cap0 = .slice (some a) len cap := by simpa [Value.cells] using hcs
    rw [e] at hv ⊢
    have hsp := slice_spot Tryd.underlying22 hv
    have hml : len ≤ m := by rw [hm]; split <;> omega
    have hd : d = .slice ((List.range len).map D) ((List.range (m - len)).map fun j => D (len + j)) := (Prod.mk.inj hx).1
    have each : ∀ i, i < len → ∃ s : Stp, W.cells? 0 (a.add (i * 4)) 4 = some (stpC s).toList ∧ s.wf := by
      intro i hi
      obtain ⟨cs', g1, g2⟩ := hel i (by omega)
      obtain ⟨s, rfl, hw⟩ := stp_at g1 g2 (fun k hk => hz k (by
        rw [hd]
        simp only [DataW.weights, Tryd.underlying22, List.mem_cons, List.mem_append]
        exact .inr (.inl (weights_mem_all (j := i) (by simp [hi]) k hk))))
      rw [h4] at g1
      exact ⟨s, g1, hw⟩
    haveI : Inhabited Stp := ⟨⟨0, 0, ⟨#[]⟩, 0⟩⟩
    obtain ⟨S, hS⟩ := Deep.choose_lt (α := Stp) each
    obtain ⟨b, o, sp⟩ := a
    obtain rfl : sp = none := hsp
    refine ⟨(List.range len).map S, .inr ⟨b, o, cap, by simp, ?_, fun j s hj => ?_⟩⟩
    · have : maxLen = 9223372036854775807 := rfl
      simp; omega
    · simp only [List.getElem?_map, Option.map_eq_some_iff] at hj
      obtain ⟨i, hi, rfl⟩ := hj
      have hij : i = j := by
        rcases Nat.lt_or_ge j len with g | g
        · rw [List.getElem?_range g] at hi; exact (Option.some.inj hi).symm
        · rw [List.getElem?_eq_none (by simpa using g)] at hi; cases hi
      subst hij
      have hlt : i < len := by
        rcases Nat.lt_or_ge i len with g | g
        · exact g
        · rw [List.getElem?_eq_none (by simpa using g)] at hi; cases hi
      obtain ⟨g1, g2⟩ := hS i hlt
      refine ⟨fun k v hk => ?_, g2⟩
      obtain ⟨_, gl, gc⟩ := World.cells?_some g1
      have hk4 : k < 4 := by have := (List.getElem?_eq_some_iff.1 hk).1; omega
      have := gc k hk4
      rw [hk, Addr.add_mid, Addr.add_mid] at this
      exact this
end Go.Proofs.YtgpmfiphebmldaaDoor
