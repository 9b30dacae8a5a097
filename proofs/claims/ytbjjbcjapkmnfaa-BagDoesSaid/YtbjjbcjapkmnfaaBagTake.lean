/- A message is looked at, taken, and put twice. -/
import Derived.Test.YtbjjbcjapkmnfaaBagAdd
import Derived.Deep.Cut
namespace Go.Proofs.Ytbjjbcjapkmnfaa
open Go Go.RowKit

/-- a message is stored into a block of its own -/
theorem p_storeM {ops : Array Oper} {rest : List Oper} {o : Oper} {a : Act} {w : World} {Q : Exit → Act → World → Prop} (hgd : o.guard = none) (x y : Operand) (ho : o.op = .store 33 x y)
    (g : Nat) (hx : a.eval x = .pointer (some ⟨g, 0, none⟩)) (m : Ml) (hy : a.eval y = .agg (mlC m)) (Z : Array Value) (hZ : Z.size = 3) (hg : Blk w g Z 33)
    (h : wpList Try.prog ops Q rest (a.put o.dst undef) (w.setRow g (mlC m))) : wpList Try.prog ops Q (o :: rest) a w :=
  wpList_store_row hgd 33 x y ho g (mlC m) hx hy 33 Z hg sizeM (by rw [hZ]; rfl) (mlC_one m) h
/-- .. and loaded -/
theorem p_loadM {ops : Array Oper} {rest : List Oper} {o : Oper} {a : Act} {w : World} {Q : Exit → Act → World → Prop} (hgd : o.guard = none) (x : Operand) (ho : o.op = .load 33 x)
    (g : Nat) (hx : a.eval x = .pointer (some ⟨g, 0, none⟩)) (m : Ml) (hg : Blk w g (mlC m) 33)
    (h : wpList Try.prog ops Q rest (a.put o.dst (.agg (mlC m))) w) : wpList Try.prog ops Q (o :: rest) a w :=
  wpList_load_row hgd 33 x ho g hx 33 (mlC m) (0, 0) _ hg Try.underlying33 rfl sizeM h
theorem results_ml2 {fn : Func} {p t : Tmp} (h : fn.results = #[.cell p 33, .tmp t]) (tmps : Array Value) (w : World) (g : Nat) (m : Ml) (v : Value)
    (hp : tmps.getD p undef = .pointer (some ⟨g, 0, none⟩)) (hv : tmps.getD t undef = v) (hg : Blk w g (mlC m) 33) :
    (results fn tmps).run Try.prog w = .ok (.tuple #[.agg (mlC m), v]) w := by
  have hp' : tmps[p]?.getD undef = .pointer (some ⟨g, 0, none⟩) := by simpa using hp
  have hv' : tmps[t]?.getD undef = v := by simpa using hv
  simp [results, h, hp', hv', asAddr, run_loadVar_row w g 33 33 (mlC m) (0, 0) _ hg Try.underlying33 rfl sizeM]

/-- no such place: the number's code -/
def Fails (p : Option Addr) (i c : Int) (w : World) : Prop := ∀ w1, Below w.heap.size w w1 → Calls Try.prog 28 #[.pointer p, .int .i64 i] w1 fun e w' => e = .returned (.tuple #[.int .i64 0, .int .i64 c]) ∧ Below w1.heap.size w1 w'
theorem fails_nil (i : Int) (w : World) : Fails none i 6 w := fun w1 _ => number_nil i w1
theorem fails_no {w : World} {g mb M : Nat} {L : List (Option Ml)} (h : Bg w g mb M L) {i : Int} (hi : i < 0 ∨ ((msgs L).length : Int) ≤ i) : Fails (some ⟨g, 0, none⟩) i 7 w := fun _ hb => number_no (h.below hb) hi

set_option maxHeartbeats 1000000 in
theorem at_err (p : Option Addr) (i c : Int) (hc : c ≠ 0) (w : World) (hF : Fails p i c w) : Calls Try.prog 15 #[.pointer p, .int .i64 i] w fun e w' => e = .returned (.tuple #[.agg (mlC mlZ), .int .i64 c]) ∧ Below w.heap.size w w' := by
  have b0 := Blk.new w (mlC mlZ) 33
  have hB := (Below.refl w.heap.size w).alloc (Nat.le_refl _) (.cells (mlC mlZ) 33)
  have HN : Hid (Calls Try.prog 28 #[.pointer p, .int .i64 i] (w.alloc (.cells (mlC mlZ) 33)) fun e w' => e = .returned (.tuple #[.int .i64 0, .int .i64 c]) ∧ (Blk w' w.heap.size (mlC mlZ) 33 ∧ Below w.heap.size w w')) := by
    refine (hF _ hB).mono ?_
    rintro e w' ⟨rfl, hb⟩
    exact ⟨rfl, b0.below hb b0.lt, hB.trans (hb.mono (by simp))⟩
  have hz : (zeroValue 33).run Try.prog w = .ok (.agg (mlC mlZ)) w := zeroM w
  have hne : (c == 0) = false := by simpa using hc
  clear b0 hB hF
  go_enter Try.func15, Try.ntmps15
  go_wp2_with (first
    | (go_at_call 28; (with_reducible refine HN.out.mono ?_); rintro e w1 ⟨rfl, hb1, hb2⟩)
    | (refine p_storeM rfl _ _ rfl w.heap.size rfl mlZ rfl _ rfl hb1 ?_))
  exact bodyPost_ret (results_ml2 Try.results15 _ _ _ mlZ _ rfl rfl (hb1.setRow _)) rfl ⟨rfl, bel_setRow hb2 (Nat.le_refl _) _⟩

/-- the number of a place is found; what is known then -/
theorem found {w : World} {g mb M : Nat} {L : List (Option Ml)} (h : Bg w g mb M L) {j : Nat} {m : Ml} (hx : L[j]? = some (some m)) :
    Calls Try.prog 28 #[.pointer (some ⟨g, 0, none⟩), .int .i64 (cnt L j : Nat)] (w.alloc (.cells (mlC mlZ) 33)) fun e w' => e = .returned (.tuple #[.int .i64 (j : Nat), .int .i64 0]) ∧
      (Blk w' w.heap.size (mlC mlZ) 33 ∧ Below w.heap.size w w' ∧ Bg w' g mb M L ∧ w'.cell? ⟨g, 2, none⟩ = some (.map (some mb)) ∧ (Instr.lookup 52 (.map (some mb)) (.int .i64 (j : Int)) false).run Try.prog w' = .ok (.agg (mlC m)) w') := by
  have b0 := Blk.new w (mlC mlZ) 33
  have hB := (Below.refl w.heap.size w).alloc (Nat.le_refl _) (.cells (mlC mlZ) 33)
  refine (number_yes (h.below hB) hx).mono ?_
  rintro e w' ⟨rfl, hb⟩
  have hb2 := hB.trans (hb.mono (by simp))
  have hG := h.below hb2
  have hj : j < L.length := (List.getElem?_eq_some_iff.1 hx).1
  have hl := h.len
  exact ⟨rfl, b0.below hb b0.lt, hb2, hG, hG.c2, hG.own.look hx (by omega)⟩

set_option maxHeartbeats 1000000 in
theorem at_yes {w : World} {g mb M : Nat} {L : List (Option Ml)} (h : Bg w g mb M L) {j : Nat} {m : Ml} (hx : L[j]? = some (some m)) :
    Calls Try.prog 15 #[.pointer (some ⟨g, 0, none⟩), .int .i64 (cnt L j : Nat)] w fun e w' => e = .returned (.tuple #[.agg (mlC m), .int .i64 0]) ∧ Below w.heap.size w w' := by
  have HN := Lib.hid (found h hx)
  have hz : (zeroValue 33).run Try.prog w = .ok (.agg (mlC mlZ)) w := zeroM w
  clear h hx
  generalize cnt L j = i at *
  go_enter Try.func15, Try.ntmps15
  go_wp2_with (first
    | (go_at_call 28; (with_reducible refine HN.out.mono ?_); rintro e w1 ⟨rfl, hb1, hb2, hb3, hb4, hb5⟩)
    | (refine p_storeM rfl _ _ rfl w.heap.size rfl m rfl _ rfl hb1 ?_))
  exact bodyPost_ret (results_ml2 Try.results15 _ _ _ m _ rfl rfl (hb1.setRow _)) rfl ⟨rfl, bel_setRow hb2 (Nat.le_refl _) _⟩

set_option maxHeartbeats 1000000 in
theorem take_err (p : Option Addr) (i c : Int) (hc : c ≠ 0) (w : World) (hF : Fails p i c w) : Calls Try.prog 14 #[.pointer p, .int .i64 i] w fun e w' => e = .returned (.tuple #[.agg (mlC mlZ), .int .i64 c]) ∧ Below w.heap.size w w' := by
  have b0 := Blk.new w (mlC mlZ) 33
  have hB := (Below.refl w.heap.size w).alloc (Nat.le_refl _) (.cells (mlC mlZ) 33)
  have HN : Hid (Calls Try.prog 28 #[.pointer p, .int .i64 i] (w.alloc (.cells (mlC mlZ) 33)) fun e w' => e = .returned (.tuple #[.int .i64 0, .int .i64 c]) ∧ (Blk w' w.heap.size (mlC mlZ) 33 ∧ Below w.heap.size w w')) := by
    refine (hF _ hB).mono ?_
    rintro e w' ⟨rfl, hb⟩
    exact ⟨rfl, b0.below hb b0.lt, hB.trans (hb.mono (by simp))⟩
  have hz : (zeroValue 33).run Try.prog w = .ok (.agg (mlC mlZ)) w := zeroM w
  have hne : (c == 0) = false := by simpa using hc
  clear b0 hB hF
  go_enter Try.func14, Try.ntmps14
  go_wp2_with (first
    | (go_at_call 28; (with_reducible refine HN.out.mono ?_); rintro e w1 ⟨rfl, hb1, hb2⟩)
    | (refine p_storeM rfl _ _ rfl w.heap.size rfl mlZ rfl _ rfl hb1 ?_))
  exact bodyPost_ret (results_ml2 Try.results14 _ _ _ mlZ _ rfl rfl (hb1.setRow _)) rfl ⟨rfl, bel_setRow hb2 (Nat.le_refl _) _⟩

set_option maxHeartbeats 1000000 in
theorem twice_err (p : Option Addr) (i c : Int) (hc : c ≠ 0) (w : World) (hF : Fails p i c w) : Calls Try.prog 16 #[.pointer p, .int .i64 i] w fun e w' => e = .returned (.int .i64 c) ∧ Below w.heap.size w w' := by
  have HN := Lib.hid (hF w (Below.refl _ _))
  have hne : (c == 0) = false := by simpa using hc
  clear hF
  go_enter Try.func16, Try.ntmps16
  go_wp2_with (go_at_call 28; (with_reducible refine HN.out.mono ?_); rintro e w1 ⟨rfl, hb1⟩)
  go_ret
  exact ⟨rfl, hb1⟩
set_option maxHeartbeats 1000000 in
theorem twice_add {w : World} {g mb M : Nat} {L : List (Option Ml)} (h : Bg w g mb M L) {j : Nat} {m : Ml} (hx : L[j]? = some (some m)) (r : Int) (R : World → Prop)
    (hadd : ∀ w1, Below w.heap.size w w1 → Calls Try.prog 27 #[.pointer (some ⟨g, 0, none⟩), .agg #[.int .i64 m.fr, .int .i64 m.to, .string m.bd]] w1 fun e w' => e = .returned (.int .i64 r) ∧ R w') :
    Calls Try.prog 16 #[.pointer (some ⟨g, 0, none⟩), .int .i64 (cnt L j : Nat)] w fun e w' => e = .returned (.int .i64 r) ∧ R w' := by
  have HA := Lib.hid hadd
  have HN : Hid (Calls Try.prog 28 #[.pointer (some ⟨g, 0, none⟩), .int .i64 (cnt L j : Nat)] w fun e w' => e = .returned (.tuple #[.int .i64 (j : Nat), .int .i64 0]) ∧ (Below w.heap.size w w' ∧ w'.cell? ⟨g, 2, none⟩ = some (.map (some mb)) ∧ (Instr.lookup 52 (.map (some mb)) (.int .i64 (j : Int)) false).run Try.prog w' = .ok (.agg #[.int .i64 m.fr, .int .i64 m.to, .string m.bd]) w')) := by
    refine (number_yes h hx).mono ?_
    rintro e w' ⟨rfl, hb⟩
    have hG := h.below hb
    have hj : j < L.length := (List.getElem?_eq_some_iff.1 hx).1
    have hl := h.len
    exact ⟨rfl, hb, hG.c2, hG.own.look hx (by omega)⟩
  clear h hx hadd
  generalize cnt L j = i at *
  go_enter Try.func16, Try.ntmps16
  go_wp2_with (first
    | (go_at_call 28; (with_reducible refine HN.out.mono ?_); rintro e w1 ⟨rfl, hb1, hb2, hb3⟩)
    | (go_at_call 27; (with_reducible refine (HA.out _ hb1).mono ?_); rintro e w3 ⟨rfl, hR⟩))
  go_ret
  exact ⟨rfl, hR⟩
theorem twice_yes {w : World} {g mb M : Nat} {L : List (Option Ml)} (h : Bg w g mb M L) {j : Nat} {m : Ml} (hx : L[j]? = some (some m)) (hf : (msgs L).length < M) (hM : M ≤ 1000) (hl : L.length ≤ 2 * (msgs L).length) :
    Calls Try.prog 16 #[.pointer (some ⟨g, 0, none⟩), .int .i64 (cnt L j : Nat)] w fun e w' => e = .returned (.int .i64 0) ∧ Now w w' g mb M (msgs L ++ [m]) :=
  twice_add h hx 0 _ fun _ hb => (add_yes (h.below hb) hf hM hl m).mono fun _ _ hh => ⟨hh.1, hh.2.pre hb⟩
theorem twice_full {w : World} {g mb M : Nat} {L : List (Option Ml)} (h : Bg w g mb M L) {j : Nat} {m : Ml} (hx : L[j]? = some (some m)) (hf : M ≤ (msgs L).length) :
    Calls Try.prog 16 #[.pointer (some ⟨g, 0, none⟩), .int .i64 (cnt L j : Nat)] w fun e w' => e = .returned (.int .i64 12) ∧ Below w.heap.size w w' :=
  twice_add h hx 12 _ fun _ hb => (add_full (h.below hb) hf m).mono fun _ _ hh => ⟨hh.1, hb.trans (hh.2.mono hb.size)⟩

set_option maxHeartbeats 2000000 in
theorem take_yes {w : World} {g mb M : Nat} {L : List (Option Ml)} (h : Bg w g mb M L) {j : Nat} {m : Ml} (hx : L[j]? = some (some m)) :
    Calls Try.prog 14 #[.pointer (some ⟨g, 0, none⟩), .int .i64 (cnt L j : Nat)] w fun e w' => e = .returned (.tuple #[.agg (mlC m), .int .i64 0]) ∧ Now w w' g mb M ((msgs L).eraseIdx (cnt L j)) := by
  have HN := Lib.hid (found h hx)
  have hz : (zeroValue 33).run Try.prog w = .ok (.agg (mlC mlZ)) w := zeroM w
  have hjl : j < L.length := (List.getElem?_eq_some_iff.1 hx).1
  have hll := h.len
  have hgl := h.lt
  have hml := h.own.lt
  have HX := Lib.hid hx
  -- behind the look-up: the message in a block of its own, the number's entry struck, the numbers made anew
  have HD : Hid (∀ w1, Bg w1 g mb M L → Blk w1 w.heap.size (mlC mlZ) 33 → Below w.heap.size w w1 → ∃ w3,
      ((w1.alloc (.cells mlE 33)).setRow w1.heap.size (mlC m)).cell? ⟨g, 2, none⟩ = some (.map (some mb)) ∧
      (Builtin.delete_ #[52, 3] 0 #[.map (some mb), .int .i64 (j : Int)]).run Try.prog ((w1.alloc (.cells mlE 33)).setRow w1.heap.size (mlC m)) = .ok (.tuple #[]) w3 ∧
      Calls Try.prog 29 #[.pointer (some ⟨g, 0, none⟩)] w3 fun e w4 => e = .returned (.tuple #[]) ∧ (Blk w4 w1.heap.size (mlC m) 33 ∧ Blk w4 w.heap.size (mlC mlZ) 33 ∧ Now w (w4.setRow w.heap.size (mlC m)) g mb M ((msgs L).eraseIdx (cnt L j)))) := by
    intro w1 hG hz1 hb
    have hw := hz1.lt
    have hB2 : Below w1.heap.size w1 ((w1.alloc (.cells mlE 33)).setRow w1.heap.size (mlC m)) := bel_setRow ((Below.refl _ _).alloc (Nat.le_refl _) _) (Nat.le_refl _) _
    have hG2 := hG.below hB2
    have k1 : Blk ((w1.alloc (.cells mlE 33)).setRow w1.heap.size (mlC m)) w1.heap.size (mlC m) 33 := (Blk.new w1 mlE 33).setRow _
    have k2 := hz1.below hB2 hz1.lt
    obtain ⟨w3, hdel, o3, g3⟩ := hG2.own.drop hx (by omega) 0
    have hb3 : Bg w3 g mb M (L.set j none) := ⟨by rw [List.length_set]; exact hG2.blk.grow g3 hG2.ne, o3, by rw [List.length_set]; exact hll⟩
    refine ⟨w3, hG2.c2, hdel, ?_⟩
    refine (tidy_any hb3).mono ?_
    rintro e w4 ⟨rfl, hN⟩
    rw [msgs_set hx] at hN
    obtain ⟨mb', L', n1, n2, n3, n4, n5⟩ := hN
    have l1 := hG.lt
    have l2 := hG.own.lt
    have k3 := (k1.grow g3 (by omega)).bt n4 (by omega) (by omega)
    have k4 := (k2.grow g3 (by omega)).bt n4 (by omega) (by omega)
    have s3 : w1.heap.size ≤ w3.heap.size := Nat.le_trans hB2.size g3.size
    refine ⟨rfl, k3, k4, mb', L', ?_, n2, n3, ?_, ?_⟩
    · exact n1.kept (row := some w.heap.size) ⟨rfl, rfl, rfl, by simp [World.setRow], fun k _ hk => Go.setRow_other _ _ k _ (fun e => hk (by rw [e]))⟩ (fun e => by injection e; omega) (fun e => by injection e; rcases n5 with rfl | n5 <;> omega)
    · have e := (((Bt.of hb g mb).trans (Bt.of hB2 g mb)).trans (Bt.grown g3)).trans n4
      exact ⟨e.os, e.tape, e.output, by simpa [World.setRow] using e.size, fun k hk h1 h2 => (Go.setRow_other _ _ k _ (by omega)).trans (e.block k hk h1 h2)⟩
    · rcases n5 with n5 | n5
      · exact .inl n5
      · exact .inr (by omega)
  clear h hx
  generalize cnt L j = i at *
  go_enter Try.func14, Try.ntmps14
  go_upto_region 4 with (go_at_call 28; (with_reducible refine HN.out.mono ?_); rintro e w1 ⟨rfl, hb1, hb2, hb3, hb4, hb5⟩)
  obtain ⟨w3, c1, hdel, hT⟩ := HD.out w1 hb3 hb1 hb2
  have HT := Lib.hid hT
  have HB := Lib.hid (Blk.new w1 mlE 33)
  clear hT hb3
  go_wp2_with (first
    | (go_at_call 29; (with_reducible refine HT.out.mono ?_); rintro e w4 ⟨rfl, k3, k4, hN⟩; have HNow := Lib.hid hN; clear hN)
    | (refine p_loadM rfl _ rfl w1.heap.size rfl m k3 ?_)
    | (refine p_storeM rfl _ _ rfl w1.heap.size rfl m rfl _ rfl HB.out ?_)
    | (refine p_storeM rfl _ _ rfl w.heap.size rfl m rfl _ rfl k4 ?_))
  exact bodyPost_ret (results_ml2 Try.results14 _ _ _ m _ rfl rfl (k4.setRow _)) rfl ⟨rfl, HNow.out⟩
end Go.Proofs.Ytbjjbcjapkmnfaa
