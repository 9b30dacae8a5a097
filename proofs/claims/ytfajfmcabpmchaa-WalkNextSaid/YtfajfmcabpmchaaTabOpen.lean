/- Tables, peers, rows of peers, places and numbers among the arguments, opened. -/
import Derived.Test.YtfajfmcabpmchaaTabMath
import Derived.Test.YtfajfmcabpmchaaOwn
import Derived.Deep.Slices
import Derived.SizedLaws
import Derived.ProofKit
import Derived.OpenShut
import Derived.ShutString
import Derived.ChangeOld
namespace Go.Proofs.Ytfajfmcabpmchaa
set_option maxRecDepth 100000
open Go Go.ChangeShapes Go.WideShapes Go.ChangeAt Go.RowKit Go.Sort

theorem cells23 : Try.prog.cellsOf 24 = 20 := by kernel_rfl
theorem cells5 : Try.prog.cellsOf 5 = 1 := by kernel_rfl
theorem mapM_some {α β : Type} {f : α → Option β} : ∀ {l : List α} {ys : List β}, l.mapM f = some ys → ∀ x ∈ l, ∃ y, f x = some y
  | [], _, _, x, hx => by cases hx
  | a :: l, ys, h, x, hx => by
    rw [List.mapM_cons] at h
    cases ha : f a with
    | none => rw [ha] at h; cases h
    | some y =>
      cases hl : l.mapM f with
      | none => rw [ha, hl] at h; cases h
      | some zs =>
        rcases List.mem_cons.1 hx with rfl | hx
        · exact ⟨y, ha⟩
        · exact mapM_some hl x hx
theorem nat_list {cs : List Value} (h : ∀ c ∈ cs, ∃ n : Nat, n < 256 ∧ c = .int .u8 (n : Int)) : ∃ l : List Nat, l.length = cs.length ∧ (∀ b ∈ l, b < 256) ∧ cs = l.map fun (n : Nat) => Value.int .u8 (n : Int) := by
  induction cs with
  | nil => exact ⟨[], rfl, fun b hb => (by cases hb), rfl⟩
  | cons c r ih =>
    obtain ⟨n, hn, rfl⟩ := h c (List.mem_cons_self ..)
    obtain ⟨l, h1, h2, rfl⟩ := ih (fun x hx => h x (List.mem_cons_of_mem _ hx))
    refine ⟨n :: l, by simp, ?_, rfl⟩
    intro b hb
    rcases List.mem_cons.1 hb with rfl | hb
    · exact hn
    · exact h2 b hb
theorem id_cells {H : Type} {enc : TypeId × Value → H} {w : World} {base : Nat} {sp : Nat → Bool} {held : Bool} {fuel : Nat} {cs : List Value} {x : DataW H × List MemPlace} (hsz : cs.length = 20)
    (hf : DataW.trod enc Try.prog w base sp held fuel 24 cs = some x) : ∃ n, n < M ∧ cs = (row (dig 20 n)).toList := by
  cases fuel with
  | zero => simp [DataW.trod] at hf
  | succ m =>
    unfold DataW.trod at hf
    rw [Try.underlying24] at hf
    simp only [cells23, cells5, Nat.mul_one] at hf
    rw [if_pos hsz] at hf
    cases hx : (List.range 20).mapM fun i => DataW.trod enc Try.prog w base sp held m 5 ((cs.drop i).take 1) with
    | none => rw [hx] at hf; cases hf
    | some xs =>
      have hall := mapM_some hx
      have hc : ∀ c ∈ cs, ∃ n : Nat, n < 256 ∧ c = .int .u8 (n : Int) := by
        intro c hc
        obtain ⟨i, hi, rfl⟩ := List.getElem_of_mem hc
        have hi20 : i < 20 := by simpa [hsz] using hi
        obtain ⟨y, hy⟩ := hall i (List.mem_range.2 hi20)
        rw [List.drop_eq_getElem_cons hi, List.take_succ_cons, List.take_zero] at hy
        obtain ⟨n, e1, _, wf⟩ := DataW.trod_int Try.underlying5 hy
        have e2 : cs[i] = .int .u8 n := by simpa using e1
        have hw : 0 ≤ n ∧ n < 256 := by
          have h0 : IntKind.min .u8 = 0 := rfl
          have h1 : IntKind.max .u8 = 255 := rfl
          simp only [Lit.wf, h0, h1, Bool.and_eq_true, decide_eq_true_eq] at wf
          omega
        exact ⟨n.toNat, by omega, by rw [e2, Int.toNat_of_nonneg hw.1]⟩
      obtain ⟨l, h1, h2, h3⟩ := nat_list hc
      have hl : l.length = 20 := by rw [h1]; simpa using hsz
      obtain ⟨n, hn, hdg⟩ := dig_of l h2
      rw [hl] at hn hdg
      refine ⟨n, hn, ?_⟩
      unfold row
      rw [hdg, ← h3]
theorem open_id {H : Type} {enc : TypeId × Value → H} {w : World} {base : Nat} {sp : Nat → Bool} {held : Bool} {r : Reach} {b0 : Nat} {v : Value} {d : DataW H} {ps : List MemPlace}
    (hval : Value.okWide Try.prog w r b0 24 v) (hd : DataW.Trod enc Try.prog w base sp held 24 v d ps) : ∃ n, n < M ∧ v = idv n := by
  simp only [Value.okWide, Try.underlying24] at hval
  obtain ⟨cs, rfl, hsz, _⟩ := hval
  rw [cells23] at hsz
  obtain ⟨fuel, hf⟩ := hd
  cases fuel with
  | zero => simp [DataW.trod] at hf
  | succ m =>
    unfold DataW.trod at hf
    rw [Try.underlying24] at hf
    simp only [Value.cells, cells23, cells5, Nat.mul_one] at hf
    split at hf
    · cases hx : (List.range 20).mapM fun i => DataW.trod enc Try.prog w base sp held m 5 ((cs.toList.drop i).take 1) with
      | none => rw [hx] at hf; cases hf
      | some xs =>
        have hall := mapM_some hx
        have hc : ∀ c ∈ cs.toList, ∃ n : Nat, n < 256 ∧ c = .int .u8 (n : Int) := by
          intro c hc
          obtain ⟨i, hi, rfl⟩ := List.getElem_of_mem hc
          have hi20 : i < 20 := by simpa [hsz] using hi
          obtain ⟨y, hy⟩ := hall i (List.mem_range.2 hi20)
          rw [List.drop_eq_getElem_cons hi, List.take_succ_cons, List.take_zero] at hy
          obtain ⟨n, e1, _, wf⟩ := DataW.trod_int Try.underlying5 hy
          have e2 : cs.toList[i] = .int .u8 n := by simpa using e1
          have hw : 0 ≤ n ∧ n < 256 := by
            have h0 : IntKind.min .u8 = 0 := rfl
            have h1 : IntKind.max .u8 = 255 := rfl
            simp only [Lit.wf, h0, h1, Bool.and_eq_true, decide_eq_true_eq] at wf
            omega
          exact ⟨n.toNat, by omega, by rw [e2, Int.toNat_of_nonneg hw.1]⟩
        obtain ⟨l, h1, h2, h3⟩ := nat_list hc
        have hl : l.length = 20 := by rw [h1]; simpa using hsz
        obtain ⟨n, hn, hdg⟩ := dig_of l h2
        rw [hl] at hn hdg
        refine ⟨n, hn, ?_⟩
        unfold idv row
        rw [hdg, ← h3, Array.toArray_toList]
    · cases hf
theorem wf_i64 {n : Int} (wf : Lit.wf (.int .i64 n) = true) : -9223372036854775808 ≤ n ∧ n ≤ 9223372036854775807 := by
  have h0 : IntKind.min .i64 = -9223372036854775808 := rfl
  have h1 : IntKind.max .i64 = 9223372036854775807 := rfl
  simp only [Lit.wf, h0, h1, Bool.and_eq_true, decide_eq_true_eq] at wf
  exact wf
theorem open_i64 {H : Type} {enc : TypeId × Value → H} {w : World} {base : Nat} {sp : Nat → Bool} {held : Bool} {r : Reach} {b0 : Nat} {v : Value} {d : DataW H} {ps : List MemPlace} (hval : Value.okWide Try.prog w r b0 3 v) (hd : DataW.Trod enc Try.prog w base sp held 3 v d ps) : ∃ n : Int, (-9223372036854775808 ≤ n ∧ n ≤ 9223372036854775807) ∧ v = .int .i64 n := by
  obtain ⟨n, rfl, _, _, wf⟩ := open_int Try.underlying3 hval hd
  exact ⟨n, wf_i64 wf, rfl⟩
theorem slice_spot {P : Program} {w : World} {r : Reach} {base : Nat} {t e : TypeId} {a : Addr} {n c : Nat} (ht : P.underlying t = some (.slice e)) (h : Value.okWide P w r base t (.slice (some a) n c)) : a.spot = none := by
  simp only [Value.okWide, ht, Cell.okWide, Cell.ok] at h
  exact h.2.2.2.1
/-- a row among the arguments reads as a list -/
theorem open_row {H α : Type} [Inhabited α] {enc : TypeId × Value → H} {P : Program} {W : World} {r : Reach} {base : Nat} {v : Value} {d : DataW H} {p : List MemPlace} (t e : TypeId) (c : Nat) (cells : α → List Value) (wf : α → Prop) (ht : P.underlying t = some (.slice e)) (hc : P.cellsOf e = c)
    (hone : ∀ cs n D Pl, cs.length = c → DataW.trod enc P W 0 (fun _ => true) true n e cs = some (D, Pl) → ∃ s, cs = cells s ∧ wf s) (hlen : ∀ s, (cells s).length = c)
    (hv : Value.okWide P W r base t v) (h : DataW.Trod enc P W 0 (fun _ => true) true t v d p) :
    ∃ l : List α, (l = [] ∧ v = .slice none 0 0) ∨ ∃ b o cap, v = .slice (some ⟨b, o, none⟩) l.length cap ∧ l.length ≤ cap ∧ ∀ (j : Nat) s, l[j]? = some s → W.rangeAt b (o + j * c) (cells s) ∧ wf s := by
  obtain ⟨a0, len0, cap0, rfl⟩ := okWide_slice ht hv
  obtain ⟨fuel, hf⟩ := h
  rcases Deep.open_slice ht hf with ⟨hcs, _⟩ | ⟨a, len, cap, m, n, D, Pl, hcs, _, hlc, hcm, hm, hx, hel⟩
  · have e1 : Value.slice a0 len0 cap0 = .slice none 0 0 := by simpa [Value.cells] using hcs
    exact ⟨[], .inl ⟨rfl, e1⟩⟩
  · have e1 : Value.slice a0 len0 cap0 = .slice (some a) len cap := by simpa [Value.cells] using hcs
    rw [e1] at hv ⊢
    have hsp := slice_spot ht hv
    have hml : len ≤ m := by rw [hm]; split <;> omega
    have each : ∀ i, i < len → ∃ s : α, W.cells? 0 (a.add (i * c)) c = some (cells s) ∧ wf s := by
      intro i hi
      obtain ⟨cs, g1, g2⟩ := hel i (by omega)
      rw [hc] at g1
      obtain ⟨s, rfl, hw⟩ := hone cs _ _ _ (World.cells?_some g1).2.1 g2
      exact ⟨s, g1, hw⟩
    obtain ⟨S, hS⟩ := Deep.choose_lt (α := α) each
    obtain ⟨b, o, sp⟩ := a
    obtain rfl : sp = none := hsp
    refine ⟨(List.range len).map S, .inr ⟨b, o, cap, by simp, by simpa using hlc, fun j s hj => ?_⟩⟩
    simp only [List.getElem?_map, Option.map_eq_some_iff] at hj
    obtain ⟨i, hi, rfl⟩ := hj
    obtain ⟨hjl, hij⟩ := List.getElem?_eq_some_iff.1 hi
    rw [List.getElem_range] at hij
    rw [List.length_range] at hjl
    subst hij
    obtain ⟨g1, g2⟩ := hS j hjl
    refine ⟨fun k u hk => ?_, g2⟩
    obtain ⟨_, gl, gc⟩ := World.cells?_some g1
    have hkc : k < c := by have := (List.getElem?_eq_some_iff.1 hk).1; rw [hlen] at this; exact this
    have := gc k hkc
    rw [hk, Addr.add_mid, Addr.add_mid] at this
    exact this
theorem peer_one {H : Type} {enc : TypeId × Value → H} {W : World} {cs : List Value} {n : Nat} {D : DataW H} {Pl : List MemPlace} (hlen : cs.length = 21) (h : DataW.trod enc Try.prog W 0 (fun _ => true) true n 28 cs = some (D, Pl)) :
    ∃ x : Pe, cs = peC x ∧ x.2 < M := by
  obtain ⟨xs, m, _, _, _, hl, hf⟩ := DataW.trod_struct Try.underlying28 h
  have e1 : Try.prog.cellsOf 3 = 1 := by kernel_rfl
  have hl2 : xs.length = 2 := hl
  match cs, hlen, xs, hl2 with
  | c0 :: r, hlen, [y0, y1], _ =>
    have t0 : DataW.trod enc Try.prog W 0 (fun _ => true) true m 3 (List.take (Try.prog.cellsOf 3) (c0 :: r)) = some y0 := hf 0 _ rfl
    have t1 : DataW.trod enc Try.prog W 0 (fun _ => true) true m 24 (List.take (Try.prog.cellsOf 24) r) = some y1 := hf 1 _ rfl
    rw [e1] at t0
    have hr : r.length = 20 := by simpa using hlen
    rw [cells23, List.take_of_length_le (by omega)] at t1
    obtain ⟨n0, h0, _, _⟩ := DataW.trod_int Try.underlying3 t0
    obtain ⟨k, hk, rfl⟩ := id_cells hr t1
    simp only [List.take_succ_cons, List.take_zero, List.cons.injEq, and_true] at h0
    subst h0
    exact ⟨(n0, k), rfl, hk⟩
theorem range_flat {w : World} {b : Nat} : ∀ (l : List Pe) (o : Nat), (∀ (i : Nat) x, l[i]? = some x → w.rangeAt b (o + i * 21) (peC x)) → w.rangeAt b o (flat l)
  | [], o, _ => fun j v hj => by simp [flat] at hj
  | x :: l, o, h => fun j v hj => by
    have h0 := h 0 x rfl
    rcases Nat.lt_or_ge j 21 with h1 | h1
    · rw [flat, List.getElem?_append_left (by rw [peC_length]; exact h1)] at hj
      have := h0 j v hj
      rwa [Nat.zero_mul, Nat.add_zero] at this
    · rw [flat, List.getElem?_append_right (by rw [peC_length]; exact h1), peC_length] at hj
      have := range_flat l (o + 21) (fun i y hy => by
        have := h (i + 1) y hy
        rwa [show o + (i + 1) * 21 = o + 21 + i * 21 by omega] at this) (j - 21) v hj
      rwa [show o + 21 + (j - 21) = o + j by omega] at this
/-- peers among the arguments -/
theorem open_peers {H : Type} {enc : TypeId × Value → H} {W : World} {r : Reach} {base : Nat} {v : Value} {d : DataW H} {p : List MemPlace} (hv : Value.okWide Try.prog W r base 37 v)
    (h : DataW.Trod enc Try.prog W 0 (fun _ => true) true 37 v d p) : ∃ l : List Pe, Lies W v l ∧ Wf l := by
  haveI : Inhabited Pe := ⟨(0, 0)⟩
  obtain ⟨l, hl⟩ := open_row (α := Pe) 37 28 21 peC (fun x => x.2 < M) Try.underlying37 (by kernel_rfl) (fun cs n D Pl hlen h => peer_one hlen h) peC_length hv h
  refine ⟨l, ?_⟩
  rcases hl with ⟨rfl, rfl⟩ | ⟨b, o, cap, rfl, hc, hj⟩
  · exact ⟨.inl ⟨⟨_, rfl⟩, rfl⟩, fun x hx => by cases hx⟩
  · refine ⟨.inr ⟨b, o, cap, rfl, hc, range_flat l o fun i x hx => (hj i x hx).1⟩, fun x hx => ?_⟩
    obtain ⟨i, hi, rfl⟩ := List.getElem_of_mem hx
    exact (hj i _ (List.getElem?_eq_getElem hi)).2
theorem open_nums {H : Type} {enc : TypeId × Value → H} {W : World} {r : Reach} {base : Nat} {v : Value} {d : DataW H} {p : List MemPlace} (hv : Value.okWide Try.prog W r base 26 v)
    (h : DataW.Trod enc Try.prog W 0 (fun _ => true) true 26 v d p) : ∃ l, Nums W v l := by
  obtain ⟨l, hl⟩ := open_row (α := Int) 26 3 1 (fun s => [.int .i64 s]) (fun _ => True) Try.underlying26 (by kernel_rfl) (fun cs n D Pl _ h => by obtain ⟨n0, h0, _, _⟩ := DataW.trod_int Try.underlying3 h; exact ⟨n0, h0, trivial⟩) (fun _ => rfl) hv h
  refine ⟨l, ?_⟩
  rcases hl with ⟨rfl, rfl⟩ | ⟨b, o, cap, rfl, _, hj⟩
  · exact .inl ⟨rfl, rfl⟩
  · refine .inr ⟨b, o, cap, rfl, fun j v hv => ?_⟩
    unfold ints at hv
    rw [List.getElem?_map, Option.map_eq_some_iff] at hv
    obtain ⟨x, hx, rfl⟩ := hv
    have := (hj j x hx).1 0 _ rfl
    rwa [Nat.mul_one, Nat.add_zero] at this

theorem open_peer {H : Type} {enc : TypeId × Value → H} {W : World} {r : Reach} {base : Nat} {v : Value} {d : DataW H} {p : List MemPlace} (hv : Value.okWide Try.prog W r base 28 v)
    (h : DataW.Trod enc Try.prog W 0 (fun _ => true) true 28 v d p) : ∃ x : Pe, v = .agg (peA x) ∧ x.2 < M := by
  have hu := Try.underlying28
  simp only [Value.okWide, hu] at hv
  obtain ⟨cs, rfl, hsz, _⟩ := hv
  have e5 : Try.prog.cellsOf 28 = 21 := by kernel_rfl
  rw [e5] at hsz
  obtain ⟨fuel, hf⟩ := h
  obtain ⟨x, hx, hm⟩ := peer_one (by simpa [Value.cells] using hsz) hf
  refine ⟨x, ?_, hm⟩
  have e : cs = (peC x).toArray := by rw [← hx]; simp [Value.cells]
  rw [e]; rfl
theorem open_tab {H : Type} {enc : TypeId × Value → H} {W : World} {r : Reach} {base : Nat} {v : Value} {d : DataW H} {p : List MemPlace} (hv : Value.okWide Try.prog W r base 43 v)
    (h : DataW.Trod enc Try.prog W 0 (fun _ => true) true 43 v d p) : ∃ (s q : Pe) (u1 u2 : Value) (S F : List Pe), v = .agg (tabA s q u1 u2) ∧ Lies W u1 S ∧ Lies W u2 F ∧ s.2 < M ∧ q.2 < M ∧ Wf S ∧ Wf F := by
  have hu := Try.underlying43
  simp only [Value.okWide, hu] at hv
  obtain ⟨cs, rfl, hsz, ts, hts, _, hcs⟩ := hv
  have e44 : Try.prog.cellsOf 43 = 44 := by kernel_rfl
  have e21 : Try.prog.cellsOf 28 = 21 := by kernel_rfl
  have e1 : Try.prog.cellsOf 37 = 1 := by kernel_rfl
  rw [e44] at hsz
  obtain ⟨L⟩ := cs
  have hl : L.length = 44 := by simpa using hsz
  obtain ⟨fuel, hf⟩ := h
  obtain ⟨xs, m, _, _, _, hxl, hf⟩ := DataW.trod_struct hu hf
  have hl4 : xs.length = 4 := hxl
  match xs, hl4 with
  | [y0, y1, y2, y3], _ =>
    have t0 : DataW.trod enc Try.prog W 0 (fun _ => true) true m 28 (List.take (Try.prog.cellsOf 28) (List.drop 0 L)) = some y0 := hf 0 _ rfl
    have t1 : DataW.trod enc Try.prog W 0 (fun _ => true) true m 28 (List.take (Try.prog.cellsOf 28) (List.drop 21 L)) = some y1 := hf 1 _ rfl
    have t2 : DataW.trod enc Try.prog W 0 (fun _ => true) true m 37 (List.take (Try.prog.cellsOf 37) (List.drop 42 L)) = some y2 := hf 2 _ rfl
    have t3 : DataW.trod enc Try.prog W 0 (fun _ => true) true m 37 (List.take (Try.prog.cellsOf 37) (List.drop 43 L)) = some y3 := hf 3 _ rfl
    rw [e21, List.drop_zero] at t0
    rw [e21] at t1
    rw [e1, List.drop_eq_getElem_cons (by omega), List.take_succ_cons, List.take_zero] at t2 t3
    obtain ⟨s, hs, hsm⟩ := peer_one (by rw [List.length_take]; omega) t0
    obtain ⟨q, hq, hqm⟩ := peer_one (by rw [List.length_take, List.length_drop]; omega) t1
    have ets : Try.prog.cellTypes Try.prog.depth 43 = some ([3] ++ List.replicate 20 5 ++ [3] ++ List.replicate 20 5 ++ [37, 37]) := by kernel_rfl
    rw [ets] at hts
    injection hts with hts
    subst hts
    have hv1 : Value.okWide Try.prog W r base 37 (L[42]'(by omega)) := by
      obtain ⟨u, hu1, hu2⟩ := hcs 42 (L[42]'(by omega)) (by simp)
      injection hu1 with hu1
      subst hu1
      simp only [Value.okWide, Try.underlying37]
      exact hu2
    have hv2 : Value.okWide Try.prog W r base 37 (L[43]'(by omega)) := by
      obtain ⟨u, hu1, hu2⟩ := hcs 43 (L[43]'(by omega)) (by simp)
      injection hu1 with hu1
      subst hu1
      simp only [Value.okWide, Try.underlying37]
      exact hu2
    have hL : L = peC s ++ (peC q ++ [L[42]'(by omega), L[43]'(by omega)]) := by
      rw [← hs, ← hq]
      have h1 : L.drop 42 = [L[42]'(by omega), L[43]'(by omega)] := by
        rw [List.drop_eq_getElem_cons (by omega), List.drop_eq_getElem_cons (by omega), List.drop_of_length_le (by omega)]
      rw [← h1, show L.drop 42 = (L.drop 21).drop 21 by rw [List.drop_drop], List.take_append_drop, List.take_append_drop]
    obtain ⟨S, hS, hSw⟩ := open_peers (d := y2.1) (p := y2.2) hv1 ⟨m, by
      obtain ⟨a0, l0, b0, h0⟩ := okWide_slice Try.underlying37 hv1
      rw [h0] at t2 ⊢
      exact t2⟩
    obtain ⟨F, hF, hFw⟩ := open_peers (d := y3.1) (p := y3.2) hv2 ⟨m, by
      obtain ⟨a0, l0, b0, h0⟩ := okWide_slice Try.underlying37 hv2
      rw [h0] at t3 ⊢
      exact t3⟩
    refine ⟨s, q, L[42]'(by omega), L[43]'(by omega), S, F, ?_, hS, hF, hsm, hqm, hSw, hFw⟩
    have e9 : tabA s q (L[42]'(by omega)) (L[43]'(by omega)) = ⟨L⟩ := by
      have e8 : tabC s q (L[42]'(by omega)) (L[43]'(by omega)) = L := by
        conv => rhs; rw [hL]
        simp [tabC]
      unfold tabA
      rw [e8]
    rw [e9]
end Go.Proofs.Ytfajfmcabpmchaa
