/- The document's bag: Twice, Take, Lose, To. -/
import Derived.Test.YtbjjbcjapkmnfaaBagRef3
namespace Go.Proofs.Ytbjjbcjapkmnfaa
open Go Go.RowKit

set_option maxHeartbeats 1000000 in
theorem reftwice_no {w : World} {B h M : Nat} {v : Value} {K : List Ml} (r : Rb w B h v M K) {i : Int} (hi : i < 0 ∨ (K.length : Int) ≤ i) :
    Calls Try.prog 21 #[.pointer (some ⟨h, 0, none⟩), .int .i64 i] w fun e w' => e = .returned (.int .i64 7) ∧ Below w.heap.size w w' := by
  have HA := Lib.hid (refat_no r hi)
  clear hi r
  go_enter Try.func21, Try.ntmps21
  go_wp2_with (first
    | (go_at_call 23; (with_reducible refine HA.out.mono ?_); rintro e w1 ⟨rfl, hb1⟩; have HBk := Lib.hid (Blk.new w1 mlE 33))
    | (refine p_storeM rfl _ _ rfl w1.heap.size rfl mlZ rfl _ rfl HBk.out ?_))
  go_ret
  exact ⟨rfl, bel_setRow (hb1.alloc hb1.size _) hb1.size _⟩
set_option maxHeartbeats 1000000 in
theorem reftwice_put {w : World} {B h M : Nat} {v : Value} {K : List Ml} (r : Rb w B h v M K) {i : Nat} {m : Ml} (hi : K[i]? = some m) (c : Int) (R : World → Prop)
    (hput : ∀ w1, Below w.heap.size w w1 → Calls Try.prog 19 #[.pointer (some ⟨h, 0, none⟩), .agg (mlC m)] w1 fun e w' => e = .returned (.int .i64 c) ∧ R w') :
    Calls Try.prog 21 #[.pointer (some ⟨h, 0, none⟩), .int .i64 (i : Nat)] w fun e w' => e = .returned (.int .i64 c) ∧ R w' := by
  have HA := Lib.hid (refat_yes r hi)
  have HP := Lib.hid hput
  clear hi r hput
  go_enter Try.func21, Try.ntmps21
  go_wp2_with (first
    | (go_at_call 23; (with_reducible refine HA.out.mono ?_); rintro e w1 ⟨rfl, hb1⟩; have HBk := Lib.hid (Blk.new w1 mlE 33); have HB2 := Lib.hid (bel_setRow (hb1.alloc hb1.size (.cells mlE 33)) hb1.size (mlC m)))
    | (go_at_call 19; (with_reducible refine (HP.out _ HB2.out).mono ?_); rintro e w3 ⟨rfl, hR⟩)
    | (refine p_loadM rfl _ rfl w1.heap.size rfl m (HBk.out.setRow _) ?_)
    | (refine p_storeM rfl _ _ rfl w1.heap.size rfl m rfl _ rfl HBk.out ?_))
  go_ret
  exact ⟨rfl, hR⟩
theorem reftwice_yes {w : World} {B h M : Nat} {v : Value} {K : List Ml} (r : Rb w B h v M K) {i : Nat} {m : Ml} (hi : K[i]? = some m) (hf : K.length < M) (hM : M ≤ 1000) (hBw : B ≤ w.heap.size) (hs : m.bd.size ≤ 4096) :
    Calls Try.prog 21 #[.pointer (some ⟨h, 0, none⟩), .int .i64 (i : Nat)] w fun e w' => e = .returned (.int .i64 0) ∧ Rn w w' B h v M (K ++ [m]) :=
  reftwice_put r hi 0 _ fun _ hb => (refput_yes (r.bel hb) hf hM (Nat.le_trans hBw hb.size) m hs).mono fun _ _ hh => ⟨hh.1, hh.2.pre hb⟩
theorem reftwice_full {w : World} {B h M : Nat} {v : Value} {K : List Ml} (r : Rb w B h v M K) {i : Nat} {m : Ml} (hi : K[i]? = some m) (hf : M ≤ K.length) (hs : m.bd.size ≤ 4096) :
    Calls Try.prog 21 #[.pointer (some ⟨h, 0, none⟩), .int .i64 (i : Nat)] w fun e w' => e = .returned (.int .i64 12) ∧ Below w.heap.size w w' :=
  reftwice_put r hi 12 _ fun _ hb => (refput_full (r.bel hb) hf m hs).mono fun _ _ hh => ⟨hh.1, hb.trans (hh.2.mono hb.size)⟩

/-- the first k messages but for the one at a place -/
def skip (K : List Ml) (i : Int) : Nat → List Ml
  | 0 => []
  | k + 1 => if (k : Int) = i then skip K i k else skip K i k ++ (K[k]?).toList
theorem skip_hit {K : List Ml} {i : Int} {k : Nat} (h : (k : Int) = i) : skip K i (k + 1) = skip K i k := by simp [skip, h]
theorem skip_miss {K : List Ml} {i : Int} {k : Nat} {m : Ml} (h : (k : Int) ≠ i) (hx : K[k]? = some m) : skip K i (k + 1) = skip K i k ++ [m] := by simp [skip, h, hx]
theorem skip_le (K : List Ml) (i : Int) (k : Nat) : (skip K i k).length ≤ k := by
  induction k with
  | zero => simp [skip]
  | succ k ih =>
    unfold skip
    split
    · omega
    · cases K[k]? <;> simp <;> omega
theorem skip_none {K : List Ml} {i : Int} (hi : i < 0 ∨ (K.length : Int) ≤ i) : ∀ k, k ≤ K.length → skip K i k = K.take k := by
  intro k
  induction k with
  | zero => intro _; simp [skip]
  | succ k ih =>
    intro hk
    rw [skip_miss (by omega) (List.getElem?_eq_getElem (show k < K.length by omega)), ih (by omega), List.take_succ_eq_append_getElem (by omega)]
theorem skip_some {K : List Ml} {i : Nat} (hi : i < K.length) : ∀ k, k ≤ K.length → skip K i k = if i < k then (K.take k).eraseIdx i else K.take k := by
  intro k
  induction k with
  | zero => intro _; simp [skip]
  | succ k ih =>
    intro hk
    have hx : K[k]? = some K[k] := List.getElem?_eq_getElem (by omega)
    by_cases h : k = i
    · subst h
      rw [skip_hit rfl, ih (by omega), if_neg (by omega), if_pos (by omega), List.take_succ_eq_append_getElem (by omega), List.eraseIdx_append_of_length_le (by rw [List.length_take]; omega), List.length_take, Nat.min_eq_left (by omega)]
      simp
    · rw [skip_miss (by omega) hx, ih (by omega), List.take_succ_eq_append_getElem (by omega)]
      by_cases h2 : i < k
      · rw [if_pos h2, if_pos (by omega), List.eraseIdx_append_of_lt_length (by rw [List.length_take]; omega)]
      · rw [if_neg h2, if_neg (by omega)]
theorem skip_all {K : List Ml} {i : Nat} (hi : i < K.length) : skip K i K.length = K.eraseIdx i := by
  rw [skip_some hi _ (Nat.le_refl _), if_pos hi, List.take_length]
theorem skip_keep {K : List Ml} {i : Int} (hi : i < 0 ∨ (K.length : Int) ≤ i) : skip K i K.length = K := by
  rw [skip_none hi _ (Nat.le_refl _), List.take_length]

set_option maxHeartbeats 4000000 in
theorem reftake_any {w : World} {B h M : Nat} {v : Value} {K : List Ml} (r : Rb w B h v M K) (hBw : B ≤ w.heap.size) (i : Int) (m : Ml) (ec : Int)
    (hat : ∀ w1, Below w.heap.size w w1 → Calls Try.prog 23 #[.pointer (some ⟨h, 0, none⟩), .int .i64 i] w1 fun e w' => e = .returned (.tuple #[.agg (mlC m), .int .i64 ec]) ∧ Below w1.heap.size w1 w') :
    Calls Try.prog 20 #[.pointer (some ⟨h, 0, none⟩), .int .i64 i] w fun e w' => e = .returned (.tuple #[.agg (mlC m), .int .i64 ec]) ∧ Rn w w' B h v M (skip K i K.length) := by
  have hz : (zeroValue 33).run Try.prog w = .ok (.agg (mlC mlZ)) w := zeroM w
  have b0 := Blk.new w (mlC mlZ) 33
  have hB := (Below.refl w.heap.size w).alloc (Nat.le_refl _) (.cells (mlC mlZ) 33)
  have HA : Hid (Calls Try.prog 23 #[.pointer (some ⟨h, 0, none⟩), .int .i64 i] (w.alloc (.cells (mlC mlZ) 33)) fun e w1 => e = .returned (.tuple #[.agg (mlC m), .int .i64 ec]) ∧
      (Blk ((w1.alloc (.cells mlE 33)).setRow w1.heap.size (mlC m)) w.heap.size (mlC mlZ) 33 ∧ Blk ((w1.alloc (.cells mlE 33)).setRow w1.heap.size (mlC m)) w1.heap.size (mlC m) 33 ∧ Blk (w1.alloc (.cells mlE 33)) w1.heap.size mlE 33 ∧ Below w.heap.size w ((w1.alloc (.cells mlE 33)).setRow w1.heap.size (mlC m)) ∧ w.heap.size < w1.heap.size ∧ ((w1.alloc (.cells mlE 33)).setRow w1.heap.size (mlC m)).heap.size = w1.heap.size + 1)) := by
    refine (hat _ hB).mono ?_
    rintro e w1 ⟨rfl, hb⟩
    have b1 := b0.below hb b0.lt
    have b2 := Blk.new w1 mlE 33
    exact ⟨rfl, ⟨(b1.alloc _).setRow_other _ _ (by have := b1.lt; omega), b2.setRow _, b2, bel_setRow ((hB.trans (hb.mono (by simp))).alloc (by have := b1.lt; omega) _) (by have := b1.lt; omega) _, b1.lt, by simp [World.setRow]⟩⟩
  have HK := Lib.hid r
  have hlen := r.len
  obtain ⟨n, hn⟩ : ∃ n, n = K.length := ⟨_, rfl⟩
  have HN := Lib.hid hn
  rw [← hn] at hlen
  obtain ⟨va, vc, hv, _⟩ := r.shape
  rw [← hn] at hv
  have HV := Lib.hid hv
  clear r b0 hB hat hn hv
  go_enter Try.func20, Try.ntmps20
  go_wp2_with (first
    | (go_at_call 23; (with_reducible refine HA.out.mono ?_); rintro e w1 ⟨rfl, hH⟩; have HH := Lib.hid hH; clear hH)
    | (refine p_storeM rfl _ _ rfl w1.heap.size rfl m rfl _ rfl (Blk.new w1 mlE 33) ?_))
  obtain ⟨Z, Y, _, HB0, hsq, hq1⟩ := HH.out
  clear HH HA hz
  generalize ((w1.alloc (.cells mlE 33)).setRow w1.heap.size (mlC m)) = W0 at *
  generalize w1.heap.size = q at *
  have R0 := Lib.hid (HK.out.bel HB0)
  have Z0 := Lib.hid Z
  have Y0 := Lib.hid Y
  have B0 := Lib.hid HB0
  clear Z Y HB0
  go_loopw [8, 9] (fun u kv wr => ∃ p : Nat, p ≤ n ∧ kv = .int .i64 p ∧ wr.ownsRow W0.heap.size 33 3 u (skip K i p).length (rowM (skip K i p)) ∧ Below W0.heap.size W0 wr) (fun _ kv _ => n - (intOf kv).toNat)
  case atStart => exact ⟨0, by omega, rfl, World.ownsRow_nil _ _ _ _, Below.refl _ _⟩
  case round =>
    obtain ⟨p, hp, rfl, hO, hB⟩ := hrel
    have HO := Lib.hid hO
    have HB := Lib.hid hB
    clear hO hB
    obtain ⟨a2, c2, hv2, c0⟩ := (R0.out.bel HB.out).shape
    rw [← HN.out] at c0 hv2
    obtain ⟨rfl, rfl⟩ : va = a2 ∧ vc = c2 := by
      have := HV.out.symm.trans hv2
      simp only [Value.slice.injEq] at this
      exact ⟨this.1, this.2.2⟩
    clear hv2
    by_cases hlt : p < n
    · obtain ⟨x, hx⟩ : ∃ x, K[p]? = some x := ⟨_, List.getElem?_eq_getElem (by have := HN.out; omega)⟩
      obtain ⟨b, c', hv', d0, d1, d2, d3⟩ := (R0.out.bel HB.out).item hx
      rw [← HN.out] at hv'
      obtain rfl : va = some ⟨b, 0, none⟩ := by
        have := HV.out.symm.trans hv'
        simp only [Value.slice.injEq] at this
        exact this.1
      clear d0 hv'
      by_cases hk : (p : Int) = i
      · have HD := Lib.hid (skip_hit (K := K) hk)
        have hd : ((p : Int) != i) = false := by simp [hk]
        clear hk hx
        go_wp2
        exact ⟨⟨p + 1, by omega, by go_num, by rw [HD.out]; exact HO.out, HB.out⟩, by simp [intOf]; omega⟩
      · have HD := Lib.hid (skip_miss hk hx)
        have hd : ((p : Int) != i) = true := by simp [hk]
        have hsl := skip_le K i p
        obtain ⟨g, gc, w3, hap, o3, g3, l3⟩ := app_ml HO.out x HB.out.size (by omega)
        have HAP := Lib.hid hap
        have HO3 := Lib.hid o3
        have HB3 := Lib.hid (app_bel HB.out HO.out g3 HB.out.size (Nat.le_refl _))
        clear hk hx hap o3 g3 l3
        generalize (skip K i p).length = z at *
        go_wp2_with (at_builtin; refine Lib.wpList_append_run _ rfl _ _ 37 37 rfl _ _ rfl rfl _ _ HAP.out ?_)
        exact ⟨⟨p + 1, by omega, by go_num, by rw [HD.out]; exact HO3.out, HB3.out⟩, by simp [intOf]; omega⟩
    · obtain rfl : n = p := by omega
      have r0 := R0.out.bel HB.out
      have f0 := r0.blk.free 0
      obtain ⟨ua, uc, rfl⟩ := own_form HO.out
      have hlt2 := HK.out.lt
      have hB0 := B0.out.size
      have HR : Hid (Rn w ((wr.setCell ⟨h, 0, none⟩ (.slice ua (skip K i n).length uc)).setRow w.heap.size (mlC m)) B h v M (skip K i K.length)) := by
        have e := HK.out.store (w1 := wr) (v' := .slice ua (skip K i n).length uc) (K' := skip K i n) (fun k hk _ => (HB.out.block k (by omega)).trans (B0.out.block k hk)) (by have := HB.out.size; omega) (HB.out.os.trans B0.out.os) (HB.out.tape.trans B0.out.tape) (HB.out.output.trans B0.out.output) (own_base HO.out (by omega)) (by have := skip_le K i n; omega) (fun f hf => .inr (by have := (HO.out.lt f hf).1; omega))
        have e2 := e.setRow (s := w.heap.size) (Nat.le_refl _) (by omega) (fun e => by have := (HO.out.lt _ e).1; omega) (mlC m)
        rw [← HN.out]
        exact ⟨_, e2⟩
      have Y1 := Lib.hid ((Y0.out.below HB.out Y0.out.lt).other h 0 (.slice ua (skip K i n).length uc) (by omega))
      have Z1 := Lib.hid ((Z0.out.below HB.out Z0.out.lt).other h 0 (.slice ua (skip K i n).length uc) (by omega))
      generalize (skip K i n).length = z at *
      go_wp2_with (first
        | (refine p_loadM rfl _ rfl q rfl m Y1.out ?_)
        | (refine p_storeM rfl _ _ rfl w.heap.size rfl m rfl _ rfl Z1.out ?_))
      exact bodyPost_ret (results_ml2 Try.results20 _ _ _ m _ rfl rfl (Z1.out.setRow _)) rfl ⟨rfl, HR.out⟩
theorem reftake_no {w : World} {B h M : Nat} {v : Value} {K : List Ml} (r : Rb w B h v M K) (hBw : B ≤ w.heap.size) {i : Int} (hi : i < 0 ∨ (K.length : Int) ≤ i) :
    Calls Try.prog 20 #[.pointer (some ⟨h, 0, none⟩), .int .i64 i] w fun e w' => e = .returned (.tuple #[.agg (mlC mlZ), .int .i64 7]) ∧ Rn w w' B h v M K := by
  have := reftake_any r hBw i mlZ 7 (fun w1 hb => refat_no (r.bel hb) hi)
  rwa [skip_keep hi] at this
theorem reftake_yes {w : World} {B h M : Nat} {v : Value} {K : List Ml} (r : Rb w B h v M K) (hBw : B ≤ w.heap.size) {i : Nat} {m : Ml} (hi : K[i]? = some m) :
    Calls Try.prog 20 #[.pointer (some ⟨h, 0, none⟩), .int .i64 (i : Nat)] w fun e w' => e = .returned (.tuple #[.agg (mlC m), .int .i64 0]) ∧ Rn w w' B h v M (K.eraseIdx i) := by
  have := reftake_any r hBw i m 0 (fun w1 hb => refat_yes (r.bel hb) hi)
  rwa [skip_all (List.getElem?_eq_some_iff.1 hi).1] at this

/-! Lose and To -/
theorem left_hit {K : List Ml} {k : Nat} {m : Ml} {a : Int} (hx : K[k]? = some m) (h : m.to = a) : left (K.take (k + 1)) a = left (K.take k) a := by
  obtain ⟨hk, rfl⟩ := List.getElem?_eq_some_iff.1 hx
  rw [List.take_succ_eq_append_getElem hk, left, List.filter_append]
  simp [h, left]
theorem left_miss {K : List Ml} {k : Nat} {m : Ml} {a : Int} (hx : K[k]? = some m) (h : m.to ≠ a) : left (K.take (k + 1)) a = left (K.take k) a ++ [m] := by
  obtain ⟨hk, rfl⟩ := List.getElem?_eq_some_iff.1 hx
  rw [List.take_succ_eq_append_getElem hk, left, List.filter_append]
  simp [h, left]
theorem left_take_le (K : List Ml) (a : Int) (k : Nat) : (left (K.take k) a).length ≤ k := by
  have h1 := left_le (K.take k) a
  rw [List.length_take] at h1
  omega
set_option maxHeartbeats 4000000 in
theorem reflose_any {w : World} {B h M : Nat} {v : Value} {K : List Ml} (r : Rb w B h v M K) (hBw : B ≤ w.heap.size) (i : Int) :
    Calls Try.prog 22 #[.pointer (some ⟨h, 0, none⟩), .int .i64 i] w fun e w' => e = .returned (.int .i64 ((toL K i 0).length : Nat)) ∧ Rn w w' B h v M (left K i) := by
  have HK := Lib.hid r
  have hlen := r.len
  obtain ⟨n, hn⟩ : ∃ n, n = K.length := ⟨_, rfl⟩
  have HN := Lib.hid hn
  rw [← hn] at hlen
  obtain ⟨va, vc, hv, c0⟩ := r.shape
  rw [← hn] at hv c0
  have HV := Lib.hid hv
  clear r hn hv
  go_enter Try.func22, Try.ntmps22
  go_wp2
  clear c0
  go_loopw [6, 7] (fun u kv wr => ∃ p : Nat, p ≤ n ∧ kv = .int .i64 p ∧ wr.ownsRow w.heap.size 33 3 u (left (K.take p) i).length (rowM (left (K.take p) i)) ∧ Below w.heap.size w wr) (fun _ kv _ => n - (intOf kv).toNat)
  case atStart => exact ⟨0, by omega, rfl, World.ownsRow_nil _ _ _ _, Below.refl _ _⟩
  case round =>
    obtain ⟨p, hp, rfl, hO, hB⟩ := hrel
    have HO := Lib.hid hO
    have HB := Lib.hid hB
    clear hO hB
    obtain ⟨a2, c2, hv2, c0⟩ := (HK.out.bel HB.out).shape
    rw [← HN.out] at c0 hv2
    obtain ⟨rfl, rfl⟩ : va = a2 ∧ vc = c2 := by
      have := HV.out.symm.trans hv2
      simp only [Value.slice.injEq] at this
      exact ⟨this.1, this.2.2⟩
    clear hv2
    by_cases hlt : p < n
    · obtain ⟨x, hx⟩ : ∃ x, K[p]? = some x := ⟨_, List.getElem?_eq_getElem (by have := HN.out; omega)⟩
      obtain ⟨b, c', hv', d0, d1, d2, d3⟩ := (HK.out.bel HB.out).item hx
      rw [← HN.out] at hv'
      obtain rfl : va = some ⟨b, 0, none⟩ := by
        have := HV.out.symm.trans hv'
        simp only [Value.slice.injEq] at this
        exact this.1
      clear d0 hv'
      by_cases hk : x.to = i
      · have HD := Lib.hid (left_hit hx hk)
        have hd : (x.to != i) = false := by simp [hk]
        clear hk hx
        go_wp2
        exact ⟨⟨p + 1, by omega, by go_num, by rw [HD.out]; exact HO.out, HB.out⟩, by simp [intOf]; omega⟩
      · have HD := Lib.hid (left_miss hx hk)
        have hd : (x.to != i) = true := by simp [hk]
        have hsl := left_take_le K i p
        obtain ⟨g, gc, w3, hap, o3, g3, l3⟩ := app_ml HO.out x HB.out.size (by omega)
        have HAP := Lib.hid hap
        have HO3 := Lib.hid o3
        have HB3 := Lib.hid (app_bel HB.out HO.out g3 HB.out.size (Nat.le_refl _))
        clear hk hx hap o3 g3 l3
        generalize (left (K.take p) i).length = z at *
        go_wp2_with (at_builtin; refine Lib.wpList_append_run _ rfl _ _ 37 37 rfl _ _ rfl rfl _ _ HAP.out ?_)
        exact ⟨⟨p + 1, by omega, by go_num, by rw [HD.out]; exact HO3.out, HB3.out⟩, by simp [intOf]; omega⟩
    · obtain rfl : n = p := by omega
      have r0 := HK.out.bel HB.out
      have f0 := r0.blk.free 0
      obtain ⟨ua, uc, rfl⟩ := own_form HO.out
      have hall : K.take n = K := by rw [HN.out, List.take_length]
      rw [hall] at HO ⊢
      have hsum := toL_left K i 0
      rw [← HN.out] at hsum
      have HR : Hid (Rn w (wr.setCell ⟨h, 0, none⟩ (.slice ua (left K i).length uc)) B h v M (left K i)) :=
        ⟨_, HK.out.store (w1 := wr) (v' := .slice ua (left K i).length uc) (K' := left K i) (fun k hk _ => HB.out.block k hk) HB.out.size HB.out.os HB.out.tape HB.out.output (own_base HO.out (by omega)) (by omega) (fun f hf => .inr (HO.out.lt f hf).1)⟩
      clear hall HO
      generalize (left K i).length = z at *
      obtain ⟨y, hy⟩ : ∃ y, (toL K i 0).length = y := ⟨_, rfl⟩
      rw [hy] at hsum
      have HY := Lib.hid hy
      clear hy
      have hsub : IntKind.i64.wrap ((n : Int) - (z : Int)) = (y : Int) := by rw [IntWalk.i64_in _ (by omega)]; omega
      clear hsum
      go_wp2
      go_ret
      exact ⟨by rw [HY.out]; rfl, HR.out⟩
set_option maxHeartbeats 4000000 in
theorem refto_any {w : World} {B h M : Nat} {v : Value} {K : List Ml} (r : Rb w B h v M K) (i : Int) :
    Calls Try.prog 25 #[.pointer (some ⟨h, 0, none⟩), .int .i64 i] w fun e w' => ∃ u, e = .returned u ∧ Below w.heap.size w w' ∧ w'.ownsRow w.heap.size 3 1 u (toL K i 0).length (ints (toL K i 0)) := by
  have HK := Lib.hid r
  have hlen := r.len
  obtain ⟨n, hn⟩ : ∃ n, n = K.length := ⟨_, rfl⟩
  have HN := Lib.hid hn
  rw [← hn] at hlen
  obtain ⟨va, vc, hv, _⟩ := r.shape
  rw [← hn] at hv
  have HV := Lib.hid hv
  clear r hn hv
  go_enter Try.func25, Try.ntmps25
  go_wp2
  go_loopw [5, 6] (fun u kv wr => ∃ p : Nat, p ≤ n ∧ kv = .int .i64 p ∧ wr.ownsRow w.heap.size 3 1 u (toN K i p).length (ints (toN K i p)) ∧ Below w.heap.size w wr) (fun _ kv _ => n - (intOf kv).toNat)
  case atStart => exact ⟨0, by omega, rfl, World.ownsRow_nil _ _ _ _, Below.refl _ _⟩
  case round =>
    obtain ⟨p, hp, rfl, hO, hB⟩ := hrel
    have HO := Lib.hid hO
    have HB := Lib.hid hB
    clear hO hB
    obtain ⟨a2, c2, hv2, c0⟩ := (HK.out.bel HB.out).shape
    rw [← HN.out] at c0 hv2
    obtain ⟨rfl, rfl⟩ : va = a2 ∧ vc = c2 := by
      have := HV.out.symm.trans hv2
      simp only [Value.slice.injEq] at this
      exact ⟨this.1, this.2.2⟩
    clear hv2
    by_cases hlt : p < n
    · obtain ⟨x, hx⟩ : ∃ x, K[p]? = some x := ⟨_, List.getElem?_eq_getElem (by have := HN.out; omega)⟩
      obtain ⟨b, c', hv', d0, d1, d2, d3⟩ := (HK.out.bel HB.out).item hx
      rw [← HN.out] at hv'
      obtain rfl : va = some ⟨b, 0, none⟩ := by
        have := HV.out.symm.trans hv'
        simp only [Value.slice.injEq] at this
        exact this.1
      clear d0 hv'
      by_cases hk : x.to = i
      · have HD := Lib.hid (toN_hit hx hk)
        have hd : (x.to == i) = true := by simp [hk]
        have hsl := toN_le K i p
        obtain ⟨g, gc, w3, hap, o3, g3, l3⟩ := app_int HO.out p HB.out.size (by omega)
        have HAP := Lib.hid hap
        have HO3 := Lib.hid o3
        have HB3 := Lib.hid (app_bel HB.out HO.out g3 HB.out.size (Nat.le_refl _))
        clear hk hx hap o3 g3 l3
        generalize (toN K i p).length = z at *
        go_wp2_with (at_builtin; refine Lib.wpList_append_run _ rfl _ _ 47 47 rfl _ _ rfl rfl _ _ HAP.out ?_)
        exact ⟨⟨p + 1, by omega, by go_num, by rw [HD.out]; exact HO3.out, HB3.out⟩, by simp [intOf]; omega⟩
      · have HD := Lib.hid (toN_miss hx hk)
        have hd : (x.to == i) = false := by simp [hk]
        clear hk hx
        go_wp2
        exact ⟨⟨p + 1, by omega, by go_num, by rw [HD.out]; exact HO.out, HB.out⟩, by simp [intOf]; omega⟩
    · obtain rfl : n = p := by omega
      have hall : toN K i n = toL K i 0 := by rw [HN.out, toN_all]
      rw [hall] at HO
      go_wp2
      go_ret
      exact ⟨_, rfl, HB.out, HO.out⟩
end Go.Proofs.Ytbjjbcjapkmnfaa
