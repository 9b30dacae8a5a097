/- The sum of a text: the document's answer. -/
import Derived.Test.YtmlejcfnnjnggaaDoorShaSum
import Derived.Deep.RegionHeld3
namespace Go.Proofs.YtmlejcfnnjnggaaDoor
set_option maxRecDepth 100000
open Go.RowKit

theorem keep_alloc {w : World} {o : Obj} {g i : Nat} {v : Value} (h : w.cell? ⟨g, i, none⟩ = some v) : (w.alloc o).cell? ⟨g, i, none⟩ = some v :=
  (World.cell?_of_block (Below.heap_alloc w o g (block_lt_of_cell h))).trans h
theorem keep_below {w w' : World} {g i : Nat} {v : Value} (hb : Below w.heap.size w w') (h : w.cell? ⟨g, i, none⟩ = some v) : w'.cell? ⟨g, i, none⟩ = some v :=
  (hb.cell (p := ⟨g, i, none⟩) (block_lt_of_cell h)).trans h
theorem keep_drew {w : World} {g i : Nat} {v : Value} (h : w.cell? ⟨g, i, none⟩ = some v) : w.drew.cell? ⟨g, i, none⟩ = some v := h
theorem keep_set {w : World} {g i g' j : Nat} {v x : Value} (hne : g ≠ g') (h : w.cell? ⟨g, i, none⟩ = some v) : (w.setCell ⟨g', j, none⟩ x).cell? ⟨g, i, none⟩ = some v :=
  (World.cell?_of_block (heap_setCell_other w ⟨g', j, none⟩ g x hne)).trans h
theorem MemU.alloc {w wr : World} {g : Nat} {h : S5} (k : MemU w wr g h) (o : Obj) : MemU w (wr.alloc o) g h := ⟨k.below.alloc k.below.size _, k.z.alloc _, k.h.alloc _, k.hg⟩
theorem MemU.other {w wr : World} {g : Nat} {h : S5} (k : MemU w wr g h) (q i : Nat) (v : Value) (hq : g < q) : MemU w (wr.setCell ⟨q, i, none⟩ v) g h :=
  ⟨k.below.setCell (p := ⟨q, i, none⟩) (by have := k.hg; simp; omega) _, k.z.other _ _ _ (by have := k.hg; omega), k.h.other _ _ _ (by omega), k.hg⟩
/-- the cells of a state that was made ahead of a call -/
structure New5 (w : World) (g : Nat) : Prop where
  c0 : w.cell? ⟨g, 0, none⟩ = some (.int .u32 0)
  c1 : w.cell? ⟨g, 1, none⟩ = some (.int .u32 0)
  c2 : w.cell? ⟨g, 2, none⟩ = some (.int .u32 0)
  c3 : w.cell? ⟨g, 3, none⟩ = some (.int .u32 0)
  c4 : w.cell? ⟨g, 4, none⟩ = some (.int .u32 0)
  f0 : w.frozen? ⟨g, 0, none⟩ = false
  f1 : w.frozen? ⟨g, 1, none⟩ = false
  f2 : w.frozen? ⟨g, 2, none⟩ = false
  f3 : w.frozen? ⟨g, 3, none⟩ = false
  f4 : w.frozen? ⟨g, 4, none⟩ = false
theorem new5 {w w' : World} (hb : Below (w.alloc (.cells #[.int .u32 0, .int .u32 0, .int .u32 0, .int .u32 0, .int .u32 0] 71)).drew.heap.size (w.alloc (.cells #[.int .u32 0, .int .u32 0, .int .u32 0, .int .u32 0, .int .u32 0] 71)).drew w') : New5 w' w.heap.size := by
  have nb : Blk w' w.heap.size #[.int .u32 0, .int .u32 0, .int .u32 0, .int .u32 0, .int .u32 0] 71 := Blk.below (Blk.new w _ _).drew hb (by simp)
  exact ⟨nb.cell 0, nb.cell 1, nb.cell 2, nb.cell 3, nb.cell 4, nb.free 0, nb.free 1, nb.free 2, nb.free 3, nb.free 4⟩
set_option maxRecDepth 100000 in
set_option maxHeartbeats 3000000 in
theorem refSum_short (s : ByteArray) (w : World) (h : s.size ≤ 4096) : Calls Tryd.prog 51 #[.string s] w fun e w' => e = .returned (.tuple #[idv (sumN s), .int .i64 0]) ∧ Below w.heap.size w w' := by
  have hp := padB_size s
  have hge := padLen_ge s.size
  have hle := padLen_le s.size
  have hmd := padLen_mod s.size
  have HSN : Hid (sumN s = placeN (stN (padB s) (padLen s.size / 64))) := rfl
  go_enter Tryd.func51, Tryd.ntmps51
  go_upto_region 2 with (go_at_call 61; refine (refPad_short s _ h).mono ?_; rintro e w1 ⟨rfl, hb⟩)
  have Z1 : Blk w1 w.heap.size (row (tab 20 fun _ => 0)) 32 := Blk.below (Blk.new w _ _) hb (by simp)
  have B1 : Below w.heap.size w w1 := ((Below.refl _ _).alloc (Nat.le_refl _) _).trans (hb.mono (by simp))
  clear hb
  generalize padB s = p at *
  go_upto_region 5 with (first | (go_at_call 62; refine (refStart_any _).mono ?_; rintro e w2 ⟨rfl, hb⟩) | (refine wpList_store_newrow rfl 71 _ _ rfl (row32 startS.list) rfl rfl infoSt (row32_one _) rfl ?_))
  have K0 : MemU w (w2.alloc (.cells (row32 startS.list) 71)) w2.heap.size startS :=
    ⟨(B1.trans (hb.mono B1.size)).alloc (Nat.le_trans B1.size hb.size) _, (Z1.below hb Z1.lt).alloc _, Blk.new _ _ _, Nat.lt_of_lt_of_le Z1.lt hb.size⟩
  have HK := Lib.hid K0
  clear K0 hb Z1 B1 w1
  generalize w2.alloc _ = W at *
  generalize w2.heap.size = g at *
  go_wp2
  go_loopw [7] (fun i wr => ∃ k : Nat, k ≤ padLen s.size / 64 ∧ i = .int .i64 ((64 * k : Nat) : Int) ∧ MemU w wr g (stN p k)) (fun i _ => padLen s.size - (intOf i).toNat)
  case atStart => exact ⟨0, by omega, rfl, HK.out⟩
  case round =>
    clear HK
    obtain ⟨k, hk, rfl, K⟩ := hrel
    have HK := Lib.hid K
    clear K
    by_cases hlt : k < padLen s.size / 64
    · go_wp2
      have hok := stN_ok p k
      have HT : Hid (stN p (k + 1) = stepS (stN p k) (blkB p k)) := rfl
      have hbs : (blkB p k).size = 64 := blkB_size p k (by omega)
      have HB : Hid (blkB p k = p.extract (64 * k) (64 * k + 64)) := rfl
      have c0 : wr.cell? ⟨g, 0, none⟩ = some (.int .u32 ((stN p k).a : Nat)) := HK.out.h.cell 0
      have c1 : wr.cell? ⟨g, 1, none⟩ = some (.int .u32 ((stN p k).b : Nat)) := HK.out.h.cell 1
      have c2 : wr.cell? ⟨g, 2, none⟩ = some (.int .u32 ((stN p k).c : Nat)) := HK.out.h.cell 2
      have c3 : wr.cell? ⟨g, 3, none⟩ = some (.int .u32 ((stN p k).d : Nat)) := HK.out.h.cell 3
      have c4 : wr.cell? ⟨g, 4, none⟩ = some (.int .u32 ((stN p k).e : Nat)) := HK.out.h.cell 4
      have lg := HK.out.h.lt
      have hne : g ≠ wr.heap.size := by omega
      have HC : Hid (∀ W, Calls Tryd.prog 63 #[.agg #[.int .u32 ((stN p k).a : Nat), .int .u32 ((stN p k).b : Nat), .int .u32 ((stN p k).c : Nat), .int .u32 ((stN p k).d : Nat), .int .u32 ((stN p k).e : Nat)], .string (p.extract (64 * k) (64 * k + 64))] W fun e w' => e = .returned (.tuple #[stv (stepS (stN p k) (blkB p k)), .int .i64 0]) ∧ Below W.heap.size W w') := fun W => refStep_yes (stN p k) hok (blkB p k) W hbs
      clear hok hbs
      generalize stN p k = r at *
      rw [box_st] at HC
      generalize hR : stepS r (blkB p k) = R at *
      clear hR
      have HCa := Lib.hid ((HC.out (wr.alloc (.cells #[.int .u32 0, .int .u32 0, .int .u32 0, .int .u32 0, .int .u32 0] 71)).drew).mono fun e w' ⟨h1, h2⟩ => (⟨h1, h2, new5 h2⟩ : _ ∧ _ ∧ New5 w' wr.heap.size))
      have HCb := Lib.hid (HC.out wr.drew)
      clear HC
      have g1 : IntKind.i64.wrap (64 * (k : Int) + 64) = 64 * (k : Int) + 64 := IntWalk.i64_in _ (by omega)
      have hcut := run_cut (P := Tryd.prog) Tryd.underlying9 p (64 * (k : Int)) (64 * (k : Int) + 64) (64 * k) (64 * k + 64) (by omega) (by omega) (by omega) (by omega)
      go_region_held3 (fun w' => w'.cell? ⟨g, 0, none⟩ = some (.int .u32 (r.a : Nat)) ∧ w'.cell? ⟨g, 1, none⟩ = some (.int .u32 (r.b : Nat)) ∧ w'.cell? ⟨g, 2, none⟩ = some (.int .u32 (r.c : Nat)) ∧ w'.cell? ⟨g, 3, none⟩ = some (.int .u32 (r.d : Nat)) ∧ w'.cell? ⟨g, 4, none⟩ = some (.int .u32 (r.e : Nat)))
        (((try dsimp only); (repeat' apply And.intro) <;> (repeat (first | with_reducible exact c0 | with_reducible exact c1 | with_reducible exact c2 | with_reducible exact c3 | with_reducible exact c4 | with_reducible refine keep_drew ?_ | with_reducible refine keep_alloc ?_ | with_reducible refine keep_set hne ?_ | with_reducible refine keep_below hb3 ?_))))
        (first | (go_at_call 63; (with_reducible refine HCa.out.mono ?_); rintro e w3 ⟨rfl, hb3, n0, n1, n2, n3, n4, m0, m1, m2, m3, m4⟩) | (go_at_call 63; (with_reducible refine HCb.out.mono ?_); rintro e w3 ⟨rfl, hb3⟩))
      · have K1 := (HK.out.drew.grown hb3).alloc (.cells (row32 R.list) 71)
        have Q1 := Blk.new w3 (row32 R.list) 71
        rw [show row32 R.list = #[.int .u32 (R.a : Nat), .int .u32 (R.b : Nat), .int .u32 (R.c : Nat), .int .u32 (R.d : Nat), .int .u32 (R.e : Nat)] from rfl] at K1
        have HQ1 := Lib.hid Q1
        rw [show row32 R.list = #[.int .u32 (R.a : Nat), .int .u32 (R.b : Nat), .int .u32 (R.c : Nat), .int .u32 (R.d : Nat), .int .u32 (R.e : Nat)] from rfl] at HQ1
        clear Q1 hb3 hcut c0 c1 c2 c3 c4 g1 HCa HCb HK
        generalize w3.alloc _ = W4 at *
        rw [show #[.int .u32 (R.a : Nat), .int .u32 (R.b : Nat), .int .u32 (R.c : Nat), .int .u32 (R.d : Nat), .int .u32 (R.e : Nat)] = row32 R.list from rfl] at HQ1
        have HK1 := Lib.hid K1
        clear K1
        go_wp2_with (first | (refine wpList_load_row rfl 71 _ rfl _ rfl 71 _ (0, 0) _ HQ1.out Tryd.underlying71 rfl (infoRow _) ?_) | (refine wpList_store_row rfl 71 _ _ rfl g (row32 R.list) rfl rfl 71 _ HK1.out.h (infoRow _) (sizeRow _ _) (row32_one _) ?_))
        refine ⟨⟨k + 1, by omega, ?_, ?_⟩, ?_⟩
        · refine congrArg (Value.int .i64) ?_; omega
        · rw [HT.out]; exact HK1.out.row R
        · simp [intOf]; omega
      · have nb : Blk w3 wr.heap.size #[.int .u32 0, .int .u32 0, .int .u32 0, .int .u32 0, .int .u32 0] 71 := Blk.below (Blk.new wr _ _).drew hb3 (by simp)
        have K1 := ((((((HK.out.alloc _).drew.grown hb3).other wr.heap.size 0 (.int .u32 (R.a : Nat)) lg).other wr.heap.size 1 (.int .u32 (R.b : Nat)) lg).other wr.heap.size 2 (.int .u32 (R.c : Nat)) lg).other wr.heap.size 3 (.int .u32 (R.d : Nat)) lg).other wr.heap.size 4 (.int .u32 (R.e : Nat)) lg
        have HQ1 : Hid (Blk _ wr.heap.size (row32 R.list) 71) := ((((nb.put 0 (.int .u32 (R.a : Nat))).put 1 (.int .u32 (R.b : Nat))).put 2 (.int .u32 (R.c : Nat))).put 3 (.int .u32 (R.d : Nat))).put 4 (.int .u32 (R.e : Nat))
        clear nb hb3 n0 n1 n2 n3 n4 m0 m1 m2 m3 m4 hcut c0 c1 c2 c3 c4 g1 HCa HCb HK
        generalize World.setCell _ _ _ = W4 at *
        have HK1 := Lib.hid K1
        clear K1
        go_wp2_with (first | (refine wpList_load_row rfl 71 _ rfl _ rfl 71 _ (0, 0) _ HQ1.out Tryd.underlying71 rfl (infoRow _) ?_) | (refine wpList_store_row rfl 71 _ _ rfl g (row32 R.list) rfl rfl 71 _ HK1.out.h (infoRow _) (sizeRow _ _) (row32_one _) ?_))
        refine ⟨⟨k + 1, by omega, ?_, ?_⟩, ?_⟩
        · refine congrArg (Value.int .i64) ?_; omega
        · rw [HT.out]; exact HK1.out.row R
        · simp [intOf]; omega
    · obtain rfl : k = padLen s.size / 64 := by omega
      have HP : Hid (∀ w, Calls Tryd.prog 64 #[.agg (row32 (stN p (padLen s.size / 64)).list)] w fun e w' => e = .returned (.agg (row (dig 20 (sumN s)))) ∧ Below w.heap.size w w') := by
        unfold Hid; rw [HSN.out]; exact bytes_any _ (stN_ok p _)
      clear HSN
      generalize stN p (padLen s.size / 64) = r at *
      go_wp2_with (first | (refine wpList_load_row rfl 71 _ rfl g rfl 71 _ (0, 0) _ HK.out.h Tryd.underlying71 rfl (infoRow _) ?_) | (go_at_call 64; refine (HP.out _).mono ?_; rintro e w3 ⟨rfl, hb3⟩; have HK3 := Lib.hid (HK.out.grown hb3); clear hb3) | (refine wpList_store_row rfl 32 _ _ rfl w.heap.size (row (dig 20 (sumN s))) rfl rfl 32 _ HK3.out.z (infoDig _) (sizeDig _ _) (row8_one _) ?_))
      refine bodyPost_ret (results_id2 Tryd.results51 _ _ w.heap.size (sumN s) (.int .i64 0) rfl rfl (HK3.out.z.setRow _)) rfl ?_
      exact ⟨rfl, bel_setRow HK3.out.below (Nat.le_refl _) _⟩
end Go.Proofs.YtmlejcfnnjnggaaDoor
