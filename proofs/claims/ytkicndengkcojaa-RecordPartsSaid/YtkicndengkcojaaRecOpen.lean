/- A record among the arguments, opened. -/
import Derived.Test.YtkicndengkcojaaPkB
import Derived.Test.YtkicndengkcojaaRecMem
namespace Go.Proofs.Ytkicndengkcojaa
set_option maxRecDepth 100000
open Go Go.ChangeShapes Go.WideShapes Go.ChangeAt Go.RowKit Go.Sort

theorem arr5 {α : Type} {a : Array α} (h : a.size = 5) : ∃ x0 x1 x2 x3 x4, a = #[x0, x1, x2, x3, x4] := by
  obtain ⟨l⟩ := a
  match l, h with
  | [x0, x1, x2, x3, x4], _ => exact ⟨x0, x1, x2, x3, x4, rfl⟩
theorem open_rec {H : Type} {enc : TypeId × Value → H} {W : World} {r : Reach} {base : Nat} {v : Value} {d : DataW H} {p : List MemPlace} (hv : Value.okWide Try.prog W r base 27 v)
    (h : DataW.Trod enc Try.prog W 0 (fun _ => true) true 27 v d p) : ∃ (R : Rc) (u : Value), R.Wf ∧ v = .agg (recC R u) ∧ Told W u R.items := by
  have hu := Try.underlying27
  simp only [Value.okWide, hu] at hv
  obtain ⟨cs, rfl, hsz, ts, hts, _, hcs⟩ := hv
  have e5 : Try.prog.cellsOf 27 = 5 := by kernel_rfl
  have ets : Try.prog.cellTypes Try.prog.depth 27 = some [3, 22, 3, 23, 23] := by kernel_rfl
  rw [ets] at hts
  injection hts with hts
  subst hts
  rw [e5] at hsz
  obtain ⟨c0, c1, c2, c3, c4, rfl⟩ := arr5 hsz
  obtain ⟨fuel, hf⟩ := h
  obtain ⟨xs, m, _, _, _, hl, hf⟩ := DataW.trod_struct hu hf
  have hl4 : xs.length = 4 := hl
  have e1 : Try.prog.cellsOf 23 = 1 := by kernel_rfl
  have e2 : Try.prog.cellsOf 3 = 1 := by kernel_rfl
  have e3 : Try.prog.cellsOf 22 = 1 := by kernel_rfl
  match xs, hl4 with
  | [y0, y1, y2, y3], _ =>
    have t0 : DataW.trod enc Try.prog W 0 (fun _ => true) true m 3 (List.take (Try.prog.cellsOf 3) [c0, c1, c2, c3, c4]) = some y0 := hf 0 _ rfl
    have t1 : DataW.trod enc Try.prog W 0 (fun _ => true) true m 22 (List.take (Try.prog.cellsOf 22) [c1, c2, c3, c4]) = some y1 := hf 1 _ rfl
    have t2 : DataW.trod enc Try.prog W 0 (fun _ => true) true m 25 (List.take (Try.prog.cellsOf 25) [c2, c3, c4]) = some y2 := hf 2 _ rfl
    have t3 : DataW.trod enc Try.prog W 0 (fun _ => true) true m 23 (List.take (Try.prog.cellsOf 23) [c4]) = some y3 := hf 3 _ rfl
    rw [e2] at t0
    rw [e3] at t1
    rw [cellsLab] at t2
    rw [e1] at t3
    obtain ⟨n0, h0, _, w0⟩ := DataW.trod_int Try.underlying3 t0
    obtain ⟨n3, h3, _, w3⟩ := DataW.trod_int Try.underlying23 t3
    obtain ⟨zs, m2, _, _, _, hz, hg⟩ := DataW.trod_struct Try.underlying25 t2
    have hz2 : zs.length = 2 := hz
    obtain ⟨k3, hk3, rfl⟩ := wf_u64 w3
    simp only [List.take_succ_cons, List.take_zero, List.cons.injEq, and_true] at h0 h3
    subst h0 h3
    match zs, hz2 with
    | [z0, z1], _ =>
      have s0 : DataW.trod enc Try.prog W 0 (fun _ => true) true m2 3 (List.take (Try.prog.cellsOf 3) [c2, c3]) = some z0 := hg 0 _ rfl
      have s1 : DataW.trod enc Try.prog W 0 (fun _ => true) true m2 23 (List.take (Try.prog.cellsOf 23) [c3]) = some z1 := hg 1 _ rfl
      rw [e2] at s0
      rw [e1] at s1
      obtain ⟨n4, h4, _, w4⟩ := DataW.trod_int Try.underlying3 s0
      obtain ⟨n5, h5, _, w5⟩ := DataW.trod_int Try.underlying23 s1
      obtain ⟨k5, hk5, rfl⟩ := wf_u64 w5
      simp only [List.take_succ_cons, List.take_zero, List.cons.injEq, and_true] at h4 h5
      subst h4 h5
      have hv1 : Value.okWide Try.prog W r base 22 c1 := by
        obtain ⟨u, hu1, hu2⟩ := hcs 1 c1 rfl
        injection hu1 with hu1
        subst hu1
        simp only [Value.okWide, Try.underlying22]
        exact hu2
      obtain ⟨l, hT, hk⟩ := open_items (d := y1.1) (p := y1.2) hv1 ⟨m, by
        obtain ⟨a0, l0, b0, rfl⟩ := okWide_slice Try.underlying22 hv1
        exact t1⟩
      exact ⟨⟨n0, l, n4, k5, k3⟩, c1, ⟨wf_i64 w0, wf_i64 w4, hk5, hk3, hk⟩, rfl, hT⟩
end Go.Proofs.Ytkicndengkcojaa
