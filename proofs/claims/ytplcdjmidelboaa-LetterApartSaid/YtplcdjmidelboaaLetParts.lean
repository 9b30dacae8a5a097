/- Which parts a kind has, and which are filled: of the program, and of the document. -/
import Derived.Test.YtplcdjmidelboaaLetMem
import Derived.Test.YtplcdjmidelboaaQRow
import Derived.BigGuard
import Derived.BigQuiet
namespace Go.Proofs.Ytplcdjmidelboaa
set_option maxRecDepth 100000
open Go Go.RowKit Go.Sort

/-! one cell in a quiet walk -/
theorem q_cell {W : World} {o : Oper} {a : Act} {K : Act → Prop} (ty : TypeId) (x : Operand) (ho : o.op = .load ty x) (g i : Nat) (hx : a.eval x = .pointer (some ⟨g, i, none⟩)) (v : Value)
    (hrun : ∀ w : World, w.cell? ⟨g, i, none⟩ = some v → (loadVar ty ⟨g, i, none⟩).run Try.prog w = .ok v w) (hg : W.cell? ⟨g, i, none⟩ = some v) (hlt : g < W.heap.size) (hk : K (a.put o.dst v)) : o.quiet Try.prog a (fun w' => ∃ p : Regrown, w' = grow (redrawn W p.d) p.os) K := by
  refine ⟨v, ?_, hk⟩
  rintro w' ⟨p, rfl⟩
  have hg' : (grow (redrawn W p.d) p.os).cell? ⟨g, i, none⟩ = some v := (World.cell?_of_block (a := ⟨g, i, none⟩) ((below_regrown W p.d p.os).block g hlt)).trans hg
  unfold Oper.quietAt execOp
  simp only [ho, hx, Instr.loadAt, Instr.sureAddr, Sem.run_bind, Sem.run_pure, Result.andThen_ok, hrun _ hg']
  exact ⟨rfl, rfl⟩
theorem ldN (w : World) (g i : Nat) (v : Value) (h : w.cell? ⟨g, i, none⟩ = some v) : (loadVar 3 ⟨g, i, none⟩).run Try.prog w = .ok v w := by simp [go_sem, h]
theorem ldU (w : World) (g i : Nat) (v : Value) (h : w.cell? ⟨g, i, none⟩ = some v) : (loadVar 26 ⟨g, i, none⟩).run Try.prog w = .ok v w := by simp [go_sem, h]
theorem ldB (w : World) (g i : Nat) (v : Value) (h : w.cell? ⟨g, i, none⟩ = some v) : (loadVar 4 ⟨g, i, none⟩).run Try.prog w = .ok v w := by simp [go_sem, h]
theorem ldS (w : World) (g i : Nat) (v : Value) (h : w.cell? ⟨g, i, none⟩ = some v) : (loadVar 27 ⟨g, i, none⟩).run Try.prog w = .ok v w := by simp [go_sem, h]
theorem ldP (w : World) (g i : Nat) (v : Value) (h : w.cell? ⟨g, i, none⟩ = some v) : (loadVar 28 ⟨g, i, none⟩).run Try.prog w = .ok v w := by simp [go_sem, h]

def maskK (k : Int) : Nat := if k = 1 then 7 else if k = 2 then 25 else if k = 3 ∨ k = 6 ∨ k = 7 then 1 else if k = 4 then 49 else if k = 8 then 48 else 0
def isK (k : Int) : Bool := decide (1 ≤ k ∧ k ≤ 8)
theorem kinds (k : Int) : k = 1 ∨ k = 2 ∨ k = 3 ∨ k = 4 ∨ k = 5 ∨ k = 6 ∨ k = 7 ∨ k = 8 ∨ isK k = false := by unfold isK; simp only [decide_eq_false_iff_not]; omega
theorem partsOf_any (k : Int) (w : World) : Calls Try.prog 17 #[.int .u64 k] w fun e w' => e = .returned (.tuple #[.int .u64 (maskK k : Int), .bool (isK k)]) ∧ w = w' := by
  rcases kinds k with rfl | rfl | rfl | rfl | rfl | rfl | rfl | rfl | hk
  · go_enter Try.func17, Try.ntmps17
    go_wp2
    go_ret2
    exact ⟨rfl, rfl⟩
  · go_enter Try.func17, Try.ntmps17
    go_wp2
    go_ret2
    exact ⟨rfl, rfl⟩
  · go_enter Try.func17, Try.ntmps17
    go_wp2
    go_ret2
    exact ⟨rfl, rfl⟩
  · go_enter Try.func17, Try.ntmps17
    go_wp2
    go_ret2
    exact ⟨rfl, rfl⟩
  · go_enter Try.func17, Try.ntmps17
    go_wp2
    go_ret2
    exact ⟨rfl, rfl⟩
  · go_enter Try.func17, Try.ntmps17
    go_wp2
    go_ret2
    exact ⟨rfl, rfl⟩
  · go_enter Try.func17, Try.ntmps17
    go_wp2
    go_ret2
    exact ⟨rfl, rfl⟩
  · go_enter Try.func17, Try.ntmps17
    go_wp2
    go_ret2
    exact ⟨rfl, rfl⟩
  have h1 : (k == 1) = false := by unfold isK at hk; simp only [decide_eq_false_iff_not] at hk; simp; omega
  have h2 : (k == 2) = false := by unfold isK at hk; simp only [decide_eq_false_iff_not] at hk; simp; omega
  have h3 : (k == 3) = false := by unfold isK at hk; simp only [decide_eq_false_iff_not] at hk; simp; omega
  have h4 : (k == 4) = false := by unfold isK at hk; simp only [decide_eq_false_iff_not] at hk; simp; omega
  have h5 : (k == 5) = false := by unfold isK at hk; simp only [decide_eq_false_iff_not] at hk; simp; omega
  have h6 : (k == 6) = false := by unfold isK at hk; simp only [decide_eq_false_iff_not] at hk; simp; omega
  have h7 : (k == 7) = false := by unfold isK at hk; simp only [decide_eq_false_iff_not] at hk; simp; omega
  have h8 : (k == 8) = false := by unfold isK at hk; simp only [decide_eq_false_iff_not] at hk; simp; omega
  have hm : maskK k = 0 := by
    simp at h1 h2 h3 h4 h6 h7 h8
    unfold maskK
    simp [h1, h2, h3, h4, h6, h7, h8]
  rw [hm, hk]
  clear hk hm
  go_enter Try.func17, Try.ntmps17
  go_wp2
  go_ret2
  exact ⟨rfl, rfl⟩
theorem have_gives (m b : Nat) (w : World) : Calls Try.prog 20 #[.int .u64 (m : Int), .int .u64 (b : Int)] w fun e w' => e = .returned (.bool (bits .and .u64 (m : Int) (b : Int) != 0)) ∧ w = w' := by
  go_enter Try.func20, Try.ntmps20
  go_wp2
  go_ret
  exact ⟨rfl, rfl⟩
theorem have_req (k : Int) : (bits .and .u64 (maskK k : Int) 1 != 0) = reqK k := by
  rcases kinds k with rfl | rfl | rfl | rfl | rfl | rfl | rfl | rfl | hk
  · decide +kernel
  · decide +kernel
  · decide +kernel
  · decide +kernel
  · decide +kernel
  · decide +kernel
  · decide +kernel
  · decide +kernel
  unfold isK at hk
  simp only [decide_eq_false_iff_not] at hk
  rw [show maskK k = 0 by unfold maskK; rw [if_neg (by omega), if_neg (by omega), if_neg (by omega), if_neg (by omega), if_neg (by omega)], show reqK k = false by unfold reqK; simp only [decide_eq_false_iff_not]; omega]
  decide +kernel
theorem have_id (k : Int) : (bits .and .u64 (maskK k : Int) 2 != 0) = idK k := by
  rcases kinds k with rfl | rfl | rfl | rfl | rfl | rfl | rfl | rfl | hk
  · decide +kernel
  · decide +kernel
  · decide +kernel
  · decide +kernel
  · decide +kernel
  · decide +kernel
  · decide +kernel
  · decide +kernel
  unfold isK at hk
  simp only [decide_eq_false_iff_not] at hk
  rw [show maskK k = 0 by unfold maskK; rw [if_neg (by omega), if_neg (by omega), if_neg (by omega), if_neg (by omega), if_neg (by omega)], show idK k = false by unfold idK; simp only [decide_eq_false_iff_not]; omega]
  decide +kernel
theorem have_avoid (k : Int) : (bits .and .u64 (maskK k : Int) 4 != 0) = idK k := by
  rcases kinds k with rfl | rfl | rfl | rfl | rfl | rfl | rfl | rfl | hk
  · decide +kernel
  · decide +kernel
  · decide +kernel
  · decide +kernel
  · decide +kernel
  · decide +kernel
  · decide +kernel
  · decide +kernel
  unfold isK at hk
  simp only [decide_eq_false_iff_not] at hk
  rw [show maskK k = 0 by unfold maskK; rw [if_neg (by omega), if_neg (by omega), if_neg (by omega), if_neg (by omega), if_neg (by omega)], show idK k = false by unfold idK; simp only [decide_eq_false_iff_not]; omega]
  decide +kernel
theorem have_done (k : Int) : (bits .and .u64 (maskK k : Int) 8 != 0) = doneK k := by
  rcases kinds k with rfl | rfl | rfl | rfl | rfl | rfl | rfl | rfl | hk
  · decide +kernel
  · decide +kernel
  · decide +kernel
  · decide +kernel
  · decide +kernel
  · decide +kernel
  · decide +kernel
  · decide +kernel
  unfold isK at hk
  simp only [decide_eq_false_iff_not] at hk
  rw [show maskK k = 0 by unfold maskK; rw [if_neg (by omega), if_neg (by omega), if_neg (by omega), if_neg (by omega), if_neg (by omega)], show doneK k = false by unfold doneK; simp only [decide_eq_false_iff_not]; omega]
  decide +kernel
theorem have_peer (k : Int) : (bits .and .u64 (maskK k : Int) 16 != 0) = peerK k := by
  rcases kinds k with rfl | rfl | rfl | rfl | rfl | rfl | rfl | rfl | hk
  · decide +kernel
  · decide +kernel
  · decide +kernel
  · decide +kernel
  · decide +kernel
  · decide +kernel
  · decide +kernel
  · decide +kernel
  unfold isK at hk
  simp only [decide_eq_false_iff_not] at hk
  rw [show maskK k = 0 by unfold maskK; rw [if_neg (by omega), if_neg (by omega), if_neg (by omega), if_neg (by omega), if_neg (by omega)], show peerK k = false by unfold peerK; simp only [decide_eq_false_iff_not]; omega]
  decide +kernel
theorem have_peers (k : Int) : (bits .and .u64 (maskK k : Int) 32 != 0) = peersK k := by
  rcases kinds k with rfl | rfl | rfl | rfl | rfl | rfl | rfl | rfl | hk
  · decide +kernel
  · decide +kernel
  · decide +kernel
  · decide +kernel
  · decide +kernel
  · decide +kernel
  · decide +kernel
  · decide +kernel
  unfold isK at hk
  simp only [decide_eq_false_iff_not] at hk
  rw [show maskK k = 0 by unfold maskK; rw [if_neg (by omega), if_neg (by omega), if_neg (by omega), if_neg (by omega), if_neg (by omega)], show peersK k = false by unfold peersK; simp only [decide_eq_false_iff_not]; omega]
  decide +kernel
theorem hasReq_any (k : Int) (w : World) : Calls Try.prog 20 #[.int .u64 (maskK k : Int), .int .u64 1] w fun e w' => e = .returned (.bool (reqK k)) ∧ w = w' := by rw [← have_req]; exact have_gives _ 1 w
theorem hasId_any (k : Int) (w : World) : Calls Try.prog 20 #[.int .u64 (maskK k : Int), .int .u64 2] w fun e w' => e = .returned (.bool (idK k)) ∧ w = w' := by rw [← have_id]; exact have_gives _ 2 w
theorem hasAvoid_any (k : Int) (w : World) : Calls Try.prog 20 #[.int .u64 (maskK k : Int), .int .u64 4] w fun e w' => e = .returned (.bool (idK k)) ∧ w = w' := by rw [← have_avoid]; exact have_gives _ 4 w
theorem hasDone_any (k : Int) (w : World) : Calls Try.prog 20 #[.int .u64 (maskK k : Int), .int .u64 8] w fun e w' => e = .returned (.bool (doneK k)) ∧ w = w' := by rw [← have_done]; exact have_gives _ 8 w
theorem hasPeer_any (k : Int) (w : World) : Calls Try.prog 20 #[.int .u64 (maskK k : Int), .int .u64 16] w fun e w' => e = .returned (.bool (peerK k)) ∧ w = w' := by rw [← have_peer]; exact have_gives _ 16 w
theorem hasPeers_any (k : Int) (w : World) : Calls Try.prog 20 #[.int .u64 (maskK k : Int), .int .u64 32] w fun e w' => e = .returned (.bool (peersK k)) ∧ w = w' := by rw [← have_peers]; exact have_gives _ 32 w
theorem needs_any (k : Int) (w : World) : Calls Try.prog 33 #[.int .i64 k] w fun e w' => e = .returned (.bool (k == 2)) ∧ w = w' := by
  go_enter Try.func33, Try.ntmps33
  go_wp2
  go_ret
  exact ⟨rfl, rfl⟩
theorem adB_and (a : Int) : adB a = (decide (0 ≤ a) && decide (a ≤ 999)) := by unfold adB; rw [Bool.decide_and]
theorem isAddr_any (a : Int) (w : World) : Calls Try.prog 36 #[.int .i64 a] w fun e w' => e = .returned (.bool (adB a)) ∧ w = w' := by
  rw [adB_and]
  by_cases h0 : 0 ≤ a
  · have h1 : decide (0 ≤ a) = true := decide_eq_true h0
    go_enter Try.func36, Try.ntmps36
    go_wp2
    go_ret
    exact ⟨by rw [h1]; rfl, rfl⟩
  · have h1 : decide (0 ≤ a) = false := decide_eq_false h0
    go_enter Try.func36, Try.ntmps36
    go_wp2
    go_ret
    exact ⟨rfl, rfl⟩
theorem refaddr_any (a : Int) (w : World) : Calls Try.prog 38 #[.int .i64 a] w fun e w' => e = .returned (.bool (adB a)) ∧ w = w' := by
  rw [adB_and]
  by_cases h0 : 0 ≤ a
  · have h1 : decide (0 ≤ a) = true := decide_eq_true h0
    go_enter Try.func38, Try.ntmps38
    go_wp2
    go_ret
    exact ⟨by rw [h1]; rfl, rfl⟩
  · have h1 : decide (0 ≤ a) = false := decide_eq_false h0
    go_enter Try.func38, Try.ntmps38
    go_wp2
    go_ret
    exact ⟨rfl, rfl⟩
theorem isPeer_any (x : Pe) (w : World) : Calls Try.prog 34 #[.agg (peA x)] w fun e w' => e = .returned (.bool (adB x.1)) ∧ Below w.heap.size w w' := by
  have B0 := (Below.refl w.heap.size w).alloc (Nat.le_refl _) (.cells (peA x) 25)
  have c0 := (PB.new w x).A
  have HB := Lib.hid B0
  have HI := isAddr_any x.1
  clear B0
  go_enter Try.func34, Try.ntmps34
  go_upto_region 1 with (fail)
  generalize w.alloc _ = W at *
  go_wp2_with (go_at_call 36; (with_reducible refine (HI _).mono ?_); rintro e w1 ⟨rfl, rfl⟩)
  go_ret
  exact ⟨rfl, HB.out⟩
theorem none_any (w : World) : Calls Try.prog 25 #[] w fun e w' => e = .returned (.agg (peA noP)) ∧ Below w.heap.size w w' := by
  have B0 := (Below.refl w.heap.size w).alloc (Nat.le_refl _) (.cells (peA (-1, 0)) 25)
  have X0 := Blk.new w (peA (-1, 0)) 25
  go_enter Try.func25, Try.ntmps25
  go_wp2_with (first | (refine p_buildNone rfl rfl ?_) | (refine p_storeP rfl rfl _ _ rfl (-1, 0) rfl rfl ?_))
  exact bodyPost_ret (results_cell_row Try.results25 _ _ w.heap.size 25 (peA (-1, 0)) (0, 0) _ rfl X0 Try.underlying25 rfl (by rw [peA_size]; exact sizeP)) rfl ⟨rfl, B0⟩
theorem refnone_any (w : World) : Calls Try.prog 31 #[] w fun e w' => e = .returned (.agg (peA noP)) ∧ Below w.heap.size w w' := by
  have B0 := (Below.refl w.heap.size w).alloc (Nat.le_refl _) (.cells (peA (-1, 0)) 25)
  have X0 := Blk.new w (peA (-1, 0)) 25
  go_enter Try.func31, Try.ntmps31
  go_wp2_with (first | (refine p_buildNone rfl rfl ?_) | (refine p_storeP rfl rfl _ _ rfl (-1, 0) rfl rfl ?_))
  exact bodyPost_ret (results_cell_row Try.results31 _ _ w.heap.size 25 (peA (-1, 0)) (0, 0) _ rfl X0 Try.underlying25 rfl (by rw [peA_size]; exact sizeP)) rfl ⟨rfl, B0⟩

/-! what is filled -/
def wth (b : Nat) (c : Bool) (m : Int) : Int := if c then bits .or .u64 m (b : Int) else m
theorem with_any (m : Int) (b : Nat) (c : Bool) (w : World) : Calls Try.prog 54 #[.int .u64 m, .int .u64 (b : Int), .bool c] w fun e w' => e = .returned (.int .u64 (wth b c m)) ∧ w = w' := by
  cases c
  · go_enter Try.func54, Try.ntmps54
    go_wp2
    go_ret
    exact ⟨rfl, rfl⟩
  · go_enter Try.func54, Try.ntmps54
    go_wp2
    go_ret
    exact ⟨rfl, rfl⟩
theorem with_gives (m : Int) (b : Nat) (c : Bool) : Gives Try.prog 54 #[.int .u64 m, .int .u64 (b : Int), .bool c] (.int .u64 (wth b c m)) := fun w => calls_below (with_any m b c w)
def filV (c1 c2 c3 c4 c5 c6 : Bool) : Int := wth 32 c6 (wth 16 c5 (wth 8 c4 (wth 4 c3 (wth 2 c2 (wth 1 c1 0)))))
/-- something stands where the kind has no part -/
def missB (k : Int) (c1 c2 c3 c4 c5 c6 : Bool) : Bool := c1 && !reqK k || c2 && !idK k || c3 && !idK k || c4 && !doneK k || c5 && !peerK k || c6 && !peersK k
theorem miss_of : ∀ c1 c2 c3 c4 c5 c6 : Bool, (bits .andNot .u64 (filV c1 c2 c3 c4 c5 c6) 7 != 0) = missB 1 c1 c2 c3 c4 c5 c6 ∧ (bits .andNot .u64 (filV c1 c2 c3 c4 c5 c6) 25 != 0) = missB 2 c1 c2 c3 c4 c5 c6
    ∧ (bits .andNot .u64 (filV c1 c2 c3 c4 c5 c6) 1 != 0) = missB 3 c1 c2 c3 c4 c5 c6 ∧ (bits .andNot .u64 (filV c1 c2 c3 c4 c5 c6) 49 != 0) = missB 4 c1 c2 c3 c4 c5 c6
    ∧ (bits .andNot .u64 (filV c1 c2 c3 c4 c5 c6) 0 != 0) = missB 5 c1 c2 c3 c4 c5 c6 ∧ (bits .andNot .u64 (filV c1 c2 c3 c4 c5 c6) 48 != 0) = missB 8 c1 c2 c3 c4 c5 c6 := by decide +kernel
theorem miss_any (k : Int) (hk : isK k = true) (c1 c2 c3 c4 c5 c6 : Bool) : (bits .andNot .u64 (filV c1 c2 c3 c4 c5 c6) (maskK k : Int) != 0) = missB k c1 c2 c3 c4 c5 c6 := by
  obtain ⟨h1, h2, h3, h4, h5, h8⟩ := miss_of c1 c2 c3 c4 c5 c6
  rcases kinds k with rfl | rfl | rfl | rfl | rfl | rfl | rfl | rfl | hk'
  · exact h1
  · exact h2
  · exact h3
  · exact h4
  · exact h5
  · exact h3
  · exact h3
  · exact h8
  · rw [hk] at hk'; cases hk'
end Go.Proofs.Ytplcdjmidelboaa
