/- LabelBack: for any two labels the call returns true: a label that is written is read as it was, its place is the sum of its text, and no two labels are written alike. No condition. -/
import Derived.Test.YtbihggfnhcpieaaLabNamed
import Derived.Test.YtbihggfnhcpieaaLabOpen
import Derived.Test.YtbihggfnhcpieaaOwn
namespace Go.Proofs.Ytbihggfnhcpieaa.LabBackLaw
open Go.ChangeShapes Go.WideShapes Go.ChangeAt Go.RowKit Go.Sort
open Go.ChangeMaps (open_string shut_string)
set_option linter.unusedVariables false

theorem o_eqlZI {o : Oper} {a : Act} {w : World} {K : Act → World → Prop} {Q : Exit → Act → World → Prop} (x y : Operand) (ho : o.op = .binOp .eql 36 x y 36)
    (hx : a.eval x = idv 0) (hy : a.eval y = .agg #[.int .u8 0, .int .u8 0, .int .u8 0, .int .u8 0, .int .u8 0, .int .u8 0, .int .u8 0, .int .u8 0, .int .u8 0, .int .u8 0, .int .u8 0, .int .u8 0, .int .u8 0, .int .u8 0, .int .u8 0, .int .u8 0, .int .u8 0, .int .u8 0, .int .u8 0, .int .u8 0]) (h : K (a.put o.dst (.bool true)) w) : o.wp Try.prog a w K Q := o_eql x y ho 0 0 hx (hy.trans (by rw [zeros]; rfl)) (eqB_self 0) h

set_option maxRecDepth 100000 in
set_option maxHeartbeats 4000000 in
theorem bad (n : Int) (b : Nat) (m : Int) (c : Nat) (T : ByteArray) (e : Int) (w : World)
    (h1 : Gives Try.prog 19 #[.agg (labc n b)] (.tuple #[.string ⟨#[]⟩, .int .i64 1]))
    (h2 : Gives Try.prog 19 #[.agg (labc m c)] (.tuple #[.string T, .int .i64 e]))
    (h3 : Gives Try.prog 21 #[.agg (labc n b)] (.tuple #[.agg (row (dig 20 0)), .int .i64 1]))
    (h4 : Gives Try.prog 24 #[.agg (labc n b)] (.bool false))
    (hn : Gives Try.prog 23 #[] (.bool true)) : Calls Try.prog 8 #[labv n b, labv m c] w fun e w' => e = .returned (.bool true) ∧ Below w.heap.size w w' := by
  rw [labv_eq, labv_eq]
  go_enter Try.func8, Try.ntmps8
  go_upto_region 1 with (fail)
  have L0 := (Blk.new w (labc n b) 24).alloc (.cells (labc m c) 24)
  have L1 := Blk.new (w.alloc (.cells (labc n b) 24)) (labc m c) 24
  have B0 := (((Below.refl w.heap.size w).alloc (Nat.le_refl _) (.cells (labc n b) 24)).alloc (by simp) (.cells (labc m c) 24))
  simp only [World.size_alloc] at L0 L1 B0
  generalize World.alloc _ _ = W0 at *
  go_upto_region 2 with (first | (refine p_loadL rfl _ rfl _ rfl _ _ (by first | with_reducible exact L0 | with_reducible exact L1) ?_) | (go_at_call 19; (with_reducible refine (h1.calls _).mono ?_); rintro e w1 ⟨rfl, hb⟩))
  replace L0 := L0.below hb L0.lt
  replace L1 := L1.below hb L1.lt
  replace B0 := B0.trans (hb.mono B0.size)
  clear hb
  go_upto_region 3 with (first | (refine p_loadL rfl _ rfl _ rfl _ _ (by first | with_reducible exact L0 | with_reducible exact L1) ?_) | (go_at_call 19; (with_reducible refine (h2.calls _).mono ?_); rintro e w2 ⟨rfl, hb⟩))
  replace L0 := L0.below hb L0.lt
  replace L1 := L1.below hb L1.lt
  replace B0 := B0.trans (hb.mono B0.size)
  clear hb
  go_upto_region 4 with (first | (refine p_loadL rfl _ rfl _ rfl _ _ (by first | with_reducible exact L0 | with_reducible exact L1) ?_) | (go_at_call 21; (with_reducible refine (h3.calls _).mono ?_); rintro e w3 ⟨rfl, hb⟩) | (refine wpList_store_newrow rfl 36 _ _ rfl (row (dig 20 0)) rfl rfl (infoDig _) (row8_one _) (by rw [row_size, dig_length]; rfl) ?_))
  replace L0 := (L0.below hb L0.lt).alloc (.cells (row (dig 20 0)) 36)
  replace L1 := (L1.below hb L1.lt).alloc (.cells (row (dig 20 0)) 36)
  replace B0 := (B0.trans (hb.mono B0.size)).alloc (Nat.le_trans B0.size hb.size) (.cells (row (dig 20 0)) 36)
  have A1 := Blk.new w3 (row (dig 20 0)) 36
  clear hb
  generalize w3.heap.size = g3 at *
  generalize w3.alloc _ = W3 at *
  go_wp2_with (first | (go_at_call 23; (with_reducible refine (hn.calls _).mono ?_); rintro e w4 ⟨rfl, hb⟩; replace L0 := L0.below hb L0.lt; replace L1 := L1.below hb L1.lt; replace A1 := A1.below hb A1.lt; replace B0 := B0.trans (hb.mono B0.size); clear hb) | (go_at_call 24; (with_reducible refine (h4.calls _).mono ?_); rintro e w5 ⟨rfl, hb⟩; replace L0 := L0.below hb L0.lt; replace L1 := L1.below hb L1.lt; replace A1 := A1.below hb A1.lt; replace B0 := B0.trans (hb.mono B0.size); clear hb) | (go_guarded; refine o_loadL _ rfl _ rfl _ _ (by first | with_reducible exact L0 | with_reducible exact L1) ?_; simp only [Act.put, List.setIfInBounds_toArray, List.set_cons_succ, List.set_cons_zero]) | (go_guarded; refine o_loadI _ rfl _ rfl _ (by first | with_reducible exact A1) ?_; simp only [Act.put, List.setIfInBounds_toArray, List.set_cons_succ, List.set_cons_zero]) | (go_guarded; refine o_eqlZI _ _ rfl rfl rfl ?_; simp only [Act.put, List.setIfInBounds_toArray, List.set_cons_succ, List.set_cons_zero]))
  go_ret
  exact ⟨rfl, B0⟩

set_option maxRecDepth 100000 in
set_option maxHeartbeats 4000000 in
theorem goodA (n : Int) (b : Nat) (m : Int) (c : Nat) (S T : ByteArray) (N : Nat) (w : World) (hz : ((S.size : Int) == n + 1) = true) (hsz : S.size ≤ 65) (hnn : 0 ≤ n ∧ n ≤ 64) 
    (h1 : Gives Try.prog 19 #[.agg (labc n b)] (.tuple #[.string S, .int .i64 0]))
    (h2 : Gives Try.prog 19 #[.agg (labc m c)] (.tuple #[.string T, .int .i64 1]))
    (h3 : Gives Try.prog 21 #[.agg (labc n b)] (.tuple #[.agg (row (dig 20 N)), .int .i64 0]))
    (h4 : Gives Try.prog 28 #[.string S] (.tuple #[.agg (labc n b), .int .i64 0]))
    (h5 : Gives Try.prog 34 #[.string (⟨#[112, 104, 116]⟩ ++ S)] (.tuple #[.agg (row (dig 20 N)), .int .i64 0]))
    (hn : Gives Try.prog 23 #[] (.bool true)) : Calls Try.prog 8 #[labv n b, labv m c] w fun e w' => e = .returned (.bool true) ∧ Below w.heap.size w w' := by
  have g1 : 0 ≤ n := hnn.1
  have g2 : n ≤ 64 := hnn.2
  clear hnn
  rw [labv_eq, labv_eq]
  go_enter Try.func8, Try.ntmps8
  go_upto_region 1 with (fail)
  have L0 := (Blk.new w (labc n b) 24).alloc (.cells (labc m c) 24)
  have L1 := Blk.new (w.alloc (.cells (labc n b) 24)) (labc m c) 24
  have B0 := (((Below.refl w.heap.size w).alloc (Nat.le_refl _) (.cells (labc n b) 24)).alloc (by simp) (.cells (labc m c) 24))
  simp only [World.size_alloc] at L0 L1 B0
  generalize World.alloc _ _ = W0 at *
  go_upto_region 2 with (first | (refine p_loadL rfl _ rfl _ rfl _ _ (by first | with_reducible exact L0 | with_reducible exact L1) ?_) | (go_at_call 19; (with_reducible refine (h1.calls _).mono ?_); rintro e w1 ⟨rfl, hb⟩))
  replace L0 := L0.below hb L0.lt
  replace L1 := L1.below hb L1.lt
  replace B0 := B0.trans (hb.mono B0.size)
  clear hb
  go_upto_region 3 with (first | (refine p_loadL rfl _ rfl _ rfl _ _ (by first | with_reducible exact L0 | with_reducible exact L1) ?_) | (go_at_call 19; (with_reducible refine (h2.calls _).mono ?_); rintro e w2 ⟨rfl, hb⟩))
  replace L0 := L0.below hb L0.lt
  replace L1 := L1.below hb L1.lt
  replace B0 := B0.trans (hb.mono B0.size)
  clear hb
  go_upto_region 4 with (first | (refine p_loadL rfl _ rfl _ rfl _ _ (by first | with_reducible exact L0 | with_reducible exact L1) ?_) | (go_at_call 21; (with_reducible refine (h3.calls _).mono ?_); rintro e w3 ⟨rfl, hb⟩) | (refine wpList_store_newrow rfl 36 _ _ rfl (row (dig 20 N)) rfl rfl (infoDig _) (row8_one _) (by rw [row_size, dig_length]; rfl) ?_))
  replace L0 := (L0.below hb L0.lt).alloc (.cells (row (dig 20 N)) 36)
  replace L1 := (L1.below hb L1.lt).alloc (.cells (row (dig 20 N)) 36)
  replace B0 := (B0.trans (hb.mono B0.size)).alloc (Nat.le_trans B0.size hb.size) (.cells (row (dig 20 N)) 36)
  have A1 := Blk.new w3 (row (dig 20 N)) 36
  clear hb
  generalize w3.heap.size = g3 at *
  generalize w3.alloc _ = W3 at *
  go_upto_region 7 with (first | (refine p_loadL rfl _ rfl _ rfl _ _ (by first | with_reducible exact L0 | with_reducible exact L1) ?_) | (refine p_loadI rfl _ rfl _ rfl _ (by first | with_reducible exact A1) ?_) | (go_at_call 28; (with_reducible refine (h4.calls _).mono ?_); rintro e w4 ⟨rfl, hb⟩) | (refine wpList_store_newrow rfl 24 _ _ rfl (labc n b) rfl rfl infoLab (lab_all _ _) rfl ?_))
  replace L0 := (L0.below hb L0.lt).alloc (.cells (labc n b) 24)
  replace L1 := (L1.below hb L1.lt).alloc (.cells (labc n b) 24)
  replace A1 := (A1.below hb A1.lt).alloc (.cells (labc n b) 24)
  replace B0 := (B0.trans (hb.mono B0.size)).alloc (Nat.le_trans B0.size hb.size) (.cells (labc n b) 24)
  have A2 := Blk.new w4 (labc n b) 24
  clear hb
  generalize w4.heap.size = g4 at *
  generalize w4.alloc _ = W4 at *
  go_upto_region 8 with (first | (refine p_loadL rfl _ rfl _ rfl _ _ (by first | with_reducible exact L0 | with_reducible exact L1 | with_reducible exact A2) ?_) | (refine p_loadI rfl _ rfl _ rfl _ (by first | with_reducible exact A1) ?_) | (go_at_call 34; (with_reducible refine (h5.calls _).mono ?_); rintro e w5 ⟨rfl, hb⟩) | (refine wpList_store_newrow rfl 36 _ _ rfl (row (dig 20 N)) rfl rfl (infoDig _) (row8_one _) (by rw [row_size, dig_length]; rfl) ?_))
  replace L0 := (L0.below hb L0.lt).alloc (.cells (row (dig 20 N)) 36)
  replace L1 := (L1.below hb L1.lt).alloc (.cells (row (dig 20 N)) 36)
  replace A1 := (A1.below hb A1.lt).alloc (.cells (row (dig 20 N)) 36)
  replace A2 := (A2.below hb A2.lt).alloc (.cells (row (dig 20 N)) 36)
  replace B0 := (B0.trans (hb.mono B0.size)).alloc (Nat.le_trans B0.size hb.size) (.cells (row (dig 20 N)) 36)
  have A3 := Blk.new w5 (row (dig 20 N)) 36
  clear hb
  generalize w5.heap.size = g5 at *
  generalize w5.alloc _ = W5 at *
  go_wp2_with (first | (go_at_call 23; (with_reducible refine (hn.calls _).mono ?_); rintro e w6 ⟨rfl, hb⟩; replace L0 := L0.below hb L0.lt; replace L1 := L1.below hb L1.lt; replace A1 := A1.below hb A1.lt; replace A2 := A2.below hb A2.lt; replace A3 := A3.below hb A3.lt; replace B0 := B0.trans (hb.mono B0.size); clear hb; have d0 := lab0 L0) | (go_guarded; refine o_loadL _ rfl _ rfl _ _ (by first | with_reducible exact L0 | with_reducible exact L1 | with_reducible exact A2) ?_; simp only [Act.put, List.setIfInBounds_toArray, List.set_cons_succ, List.set_cons_zero]) | (go_guarded; refine o_loadI _ rfl _ rfl _ (by first | with_reducible exact A1 | with_reducible exact A3) ?_; simp only [Act.put, List.setIfInBounds_toArray, List.set_cons_succ, List.set_cons_zero]) | (go_guarded; refine o_eqlL _ _ rfl _ _ _ _ rfl rfl (eqL_self _ _) ?_; simp only [Act.put, List.setIfInBounds_toArray, List.set_cons_succ, List.set_cons_zero]) | (go_guarded; refine o_eql _ _ rfl _ _ rfl rfl (eqB_self _) ?_; simp only [Act.put, List.setIfInBounds_toArray, List.set_cons_succ, List.set_cons_zero]))
  go_ret
  exact ⟨rfl, B0⟩

set_option maxRecDepth 100000 in
set_option maxHeartbeats 4000000 in
theorem goodB (n : Int) (b : Nat) (m : Int) (c : Nat) (S T : ByteArray) (N : Nat) (w : World) (hz : ((S.size : Int) == n + 1) = true) (hsz : S.size ≤ 65) (hnn : 0 ≤ n ∧ n ≤ 64) (r : Bool) (he : eqL n b m c = r) (hst : (S.toList == T.toList) = r)
    (h1 : Gives Try.prog 19 #[.agg (labc n b)] (.tuple #[.string S, .int .i64 0]))
    (h2 : Gives Try.prog 19 #[.agg (labc m c)] (.tuple #[.string T, .int .i64 0]))
    (h3 : Gives Try.prog 21 #[.agg (labc n b)] (.tuple #[.agg (row (dig 20 N)), .int .i64 0]))
    (h4 : Gives Try.prog 28 #[.string S] (.tuple #[.agg (labc n b), .int .i64 0]))
    (h5 : Gives Try.prog 34 #[.string (⟨#[112, 104, 116]⟩ ++ S)] (.tuple #[.agg (row (dig 20 N)), .int .i64 0]))
    (hn : Gives Try.prog 23 #[] (.bool true)) : Calls Try.prog 8 #[labv n b, labv m c] w fun e w' => e = .returned (.bool true) ∧ Below w.heap.size w w' := by
  have g1 : 0 ≤ n := hnn.1
  have g2 : n ≤ 64 := hnn.2
  clear hnn
  have HE := Lib.hid he
  clear he
  rw [labv_eq, labv_eq]
  go_enter Try.func8, Try.ntmps8
  go_upto_region 1 with (fail)
  have L0 := (Blk.new w (labc n b) 24).alloc (.cells (labc m c) 24)
  have L1 := Blk.new (w.alloc (.cells (labc n b) 24)) (labc m c) 24
  have B0 := (((Below.refl w.heap.size w).alloc (Nat.le_refl _) (.cells (labc n b) 24)).alloc (by simp) (.cells (labc m c) 24))
  simp only [World.size_alloc] at L0 L1 B0
  generalize World.alloc _ _ = W0 at *
  go_upto_region 2 with (first | (refine p_loadL rfl _ rfl _ rfl _ _ (by first | with_reducible exact L0 | with_reducible exact L1) ?_) | (go_at_call 19; (with_reducible refine (h1.calls _).mono ?_); rintro e w1 ⟨rfl, hb⟩))
  replace L0 := L0.below hb L0.lt
  replace L1 := L1.below hb L1.lt
  replace B0 := B0.trans (hb.mono B0.size)
  clear hb
  go_upto_region 3 with (first | (refine p_loadL rfl _ rfl _ rfl _ _ (by first | with_reducible exact L0 | with_reducible exact L1) ?_) | (go_at_call 19; (with_reducible refine (h2.calls _).mono ?_); rintro e w2 ⟨rfl, hb⟩))
  replace L0 := L0.below hb L0.lt
  replace L1 := L1.below hb L1.lt
  replace B0 := B0.trans (hb.mono B0.size)
  clear hb
  go_upto_region 4 with (first | (refine p_loadL rfl _ rfl _ rfl _ _ (by first | with_reducible exact L0 | with_reducible exact L1) ?_) | (go_at_call 21; (with_reducible refine (h3.calls _).mono ?_); rintro e w3 ⟨rfl, hb⟩) | (refine wpList_store_newrow rfl 36 _ _ rfl (row (dig 20 N)) rfl rfl (infoDig _) (row8_one _) (by rw [row_size, dig_length]; rfl) ?_))
  replace L0 := (L0.below hb L0.lt).alloc (.cells (row (dig 20 N)) 36)
  replace L1 := (L1.below hb L1.lt).alloc (.cells (row (dig 20 N)) 36)
  replace B0 := (B0.trans (hb.mono B0.size)).alloc (Nat.le_trans B0.size hb.size) (.cells (row (dig 20 N)) 36)
  have A1 := Blk.new w3 (row (dig 20 N)) 36
  clear hb
  generalize w3.heap.size = g3 at *
  generalize w3.alloc _ = W3 at *
  go_upto_region 7 with (first | (refine p_loadL rfl _ rfl _ rfl _ _ (by first | with_reducible exact L0 | with_reducible exact L1) ?_) | (refine p_loadI rfl _ rfl _ rfl _ (by first | with_reducible exact A1) ?_) | (go_at_call 28; (with_reducible refine (h4.calls _).mono ?_); rintro e w4 ⟨rfl, hb⟩) | (refine wpList_store_newrow rfl 24 _ _ rfl (labc n b) rfl rfl infoLab (lab_all _ _) rfl ?_))
  replace L0 := (L0.below hb L0.lt).alloc (.cells (labc n b) 24)
  replace L1 := (L1.below hb L1.lt).alloc (.cells (labc n b) 24)
  replace A1 := (A1.below hb A1.lt).alloc (.cells (labc n b) 24)
  replace B0 := (B0.trans (hb.mono B0.size)).alloc (Nat.le_trans B0.size hb.size) (.cells (labc n b) 24)
  have A2 := Blk.new w4 (labc n b) 24
  clear hb
  generalize w4.heap.size = g4 at *
  generalize w4.alloc _ = W4 at *
  go_upto_region 8 with (first | (refine p_loadL rfl _ rfl _ rfl _ _ (by first | with_reducible exact L0 | with_reducible exact L1 | with_reducible exact A2) ?_) | (refine p_loadI rfl _ rfl _ rfl _ (by first | with_reducible exact A1) ?_) | (go_at_call 34; (with_reducible refine (h5.calls _).mono ?_); rintro e w5 ⟨rfl, hb⟩) | (refine wpList_store_newrow rfl 36 _ _ rfl (row (dig 20 N)) rfl rfl (infoDig _) (row8_one _) (by rw [row_size, dig_length]; rfl) ?_))
  replace L0 := (L0.below hb L0.lt).alloc (.cells (row (dig 20 N)) 36)
  replace L1 := (L1.below hb L1.lt).alloc (.cells (row (dig 20 N)) 36)
  replace A1 := (A1.below hb A1.lt).alloc (.cells (row (dig 20 N)) 36)
  replace A2 := (A2.below hb A2.lt).alloc (.cells (row (dig 20 N)) 36)
  replace B0 := (B0.trans (hb.mono B0.size)).alloc (Nat.le_trans B0.size hb.size) (.cells (row (dig 20 N)) 36)
  have A3 := Blk.new w5 (row (dig 20 N)) 36
  clear hb
  generalize w5.heap.size = g5 at *
  generalize w5.alloc _ = W5 at *
  go_wp2_with (first | (go_at_call 23; (with_reducible refine (hn.calls _).mono ?_); rintro e w6 ⟨rfl, hb⟩; replace L0 := L0.below hb L0.lt; replace L1 := L1.below hb L1.lt; replace A1 := A1.below hb A1.lt; replace A2 := A2.below hb A2.lt; replace A3 := A3.below hb A3.lt; replace B0 := B0.trans (hb.mono B0.size); clear hb; have d0 := lab0 L0) | (go_guarded; refine o_loadL _ rfl _ rfl _ _ (by first | with_reducible exact L0 | with_reducible exact L1 | with_reducible exact A2) ?_; simp only [Act.put, List.setIfInBounds_toArray, List.set_cons_succ, List.set_cons_zero]) | (go_guarded; refine o_loadI _ rfl _ rfl _ (by first | with_reducible exact A1 | with_reducible exact A3) ?_; simp only [Act.put, List.setIfInBounds_toArray, List.set_cons_succ, List.set_cons_zero]) | (go_guarded; refine o_eqlL _ _ rfl _ _ _ _ rfl rfl (eqL_self _ _) ?_; simp only [Act.put, List.setIfInBounds_toArray, List.set_cons_succ, List.set_cons_zero]) | (go_guarded; refine o_eql _ _ rfl _ _ rfl rfl (eqB_self _) ?_; simp only [Act.put, List.setIfInBounds_toArray, List.set_cons_succ, List.set_cons_zero]) | (go_guarded; refine o_eqlL _ _ rfl _ _ _ _ rfl rfl (HE.out) ?_; simp only [Act.put, List.setIfInBounds_toArray, List.set_cons_succ, List.set_cons_zero]))
  go_ret
  exact ⟨rfl, B0⟩

theorem byteAt_txt (l : List Nat) (i : Nat) (h : i < l.length) (hb : ∀ x ∈ l, x < 256) : byteAt (txt l) i = l[i] := by
  have h1 := bytesN_tab (txt l)
  rw [bytesN_txt l hb] at h1
  have h2 : l[i]? = some (byteAt (txt l) i) := by
    conv => lhs; rw [h1]
    exact tab_get _ _ _ (by rw [txt_size]; exact h)
  rw [List.getElem?_eq_getElem h] at h2
  injection h2 with h3
  exact h3.symm
theorem textN_lt (n b : Nat) : ∀ x ∈ textN n b, x < 256 := by
  intro x hx
  rcases List.mem_cons.1 hx with rfl | h
  · omega
  · exact (Bin.bits n b).lt x h
theorem good_text (n b : Nat) (hn : n ≤ 64) : goodT (txt (textN n b)) = true := by
  have hz : (txt (textN n b)).size = n + 1 := by rw [txt_size, textN_length]
  refine goodT_iff.2 ⟨⟨by omega, by omega⟩, ?_, ?_⟩
  · rw [byteAt_txt _ 0 (by rw [textN_length]; omega) (textN_lt n b)]; rfl
  · intro j hj
    rw [hz] at hj
    rw [byteAt_txt _ (j + 1) (by rw [textN_length]; omega) (textN_lt n b)]
    have h : (textN n b)[j + 1]'(by rw [textN_length]; omega) = (bitsN n b)[j]'(by rw [bitsN_length]; omega) := rfl
    rw [h]
    have := Bin.bits n b _ (List.getElem_mem (l := bitsN n b) (n := j) (by rw [bitsN_length]; omega))
    unfold bitOk
    rw [decide_eq_true_iff]; exact this
theorem parse_text (n b : Nat) (hn : n ≤ 64) (hb : b < 18446744073709551616) (hi : lowB n b = true) : Gives Try.prog 28 #[.string (txt (textN n b))] (.tuple #[.agg (labc n b), .int .i64 0]) := by
  have hz : (txt (textN n b)).size = n + 1 := by rw [txt_size, textN_length]
  have h := parse_any (txt (textN n b)) (by rw [hz]; omega)
  have hg := good_text n b hn
  have hv := valS_full _ hg n (by rw [hz]; omega)
  rw [bytesN_txt _ (textN_lt n b)] at hv
  have hd : (textN n b).drop 1 = bitsN n b := rfl
  rw [hd, List.take_of_length_le (by rw [bitsN_length]; omega), full_bits n b hn hb, cutN_self n b (lowB_iff.1 hi)] at hv
  unfold parsedT at h
  rw [if_pos hg, hz, Nat.add_sub_cancel, ← hv] at h
  exact h
theorem texts_same (n b m c : Nat) (hn : n ≤ 64) (hm : m ≤ 64) (hb : b < 18446744073709551616) (hc : c < 18446744073709551616) (hi : lowB n b = true) (hj : lowB m c = true) : ((txt (textN n b)).toList == (txt (textN m c)).toList) = eqL n b m c := by
  rw [toList_beq, Bool.eq_iff_iff, decide_eq_true_iff, eqL_iff]
  constructor
  · intro h
    have h2 := txt_inj (textN_lt n b) (textN_lt m c) h
    have h3 := congrArg List.length h2
    rw [textN_length, textN_length] at h3
    obtain rfl : n = m := by omega
    refine ⟨rfl, ?_⟩
    have h4 : bitsN n b = bitsN n c := by injection h2
    have h5 := congrArg full h4
    rwa [full_bits n b hn hb, full_bits n c hn hc, cutN_self n b (lowB_iff.1 hi), cutN_self n c (lowB_iff.1 hj)] at h5
  · rintro ⟨h1, rfl⟩
    obtain rfl : n = m := by omega
    rfl

theorem walk (n : Int) (b : Nat) (o : (-9223372036854775808 ≤ n ∧ n ≤ 9223372036854775807) ∧ b < 18446744073709551616) (m : Int) (c : Nat) (o' : (-9223372036854775808 ≤ m ∧ m ≤ 9223372036854775807) ∧ c < 18446744073709551616) (w : World) : Calls Try.prog 8 #[labv n b, labv m c] w fun e w' => e = .returned (.bool true) ∧ Below w.heap.size w w' := by
  obtain ⟨⟨h1, h2⟩, hb⟩ := o
  obtain ⟨⟨h3, h4⟩, hc⟩ := o'
  rcases lab_cases n b with hi | ⟨n, rfl, hn, hi⟩
  · obtain ⟨T, e, _, _, t1, _⟩ := both_text m c h3 h4 hc
    exact bad n b m c T e w (fun w => text_no n b w h1 h2 hb hi) t1 (fun w => place_err n b ⟨#[]⟩ 1 w (fun w => text_no n b w h1 h2 hb hi) (by decide)) (fun w => hi ▸ isL_any n b w h1 h2 hb) named_all
  · have hz : (txt (textN n b)).size = n + 1 := by rw [txt_size, textN_length]
    have p1 : Gives Try.prog 19 #[.agg (labc n b)] (.tuple #[.string (txt (textN n b)), .int .i64 0]) := fun w => text_yes n b w hn hb hi
    have p3 : Gives Try.prog 21 #[.agg (labc n b)] (.tuple #[.agg (row (dig 20 (sumN (pht ++ txt (textN n b))))), .int .i64 0]) := fun w => place_ok n b _ w p1 (by omega)
    have p5 : Gives Try.prog 34 #[.string (⟨#[112, 104, 116]⟩ ++ txt (textN n b))] (.tuple #[.agg (row (dig 20 (sumN (pht ++ txt (textN n b))))), .int .i64 0]) := fun w => sum_short (pht ++ txt (textN n b)) w (by rw [ByteArray.size_append, hz]; show 3 + (n + 1) ≤ 4096; omega)
    have p4 := parse_text n b hn hb hi
    have hzb : (((txt (textN n b)).size : Int) == (n : Int) + 1) = true := by rw [hz, beq_iff_eq]; omega
    rcases lab_cases m c with hj | ⟨m, rfl, hm, hj⟩
    · exact goodA n b m c _ ⟨#[]⟩ _ w hzb (by omega) (by omega) p1 (fun w => text_no m c w h3 h4 hc hj) p3 p4 p5 named_all
    · exact goodB n b m c _ (txt (textN m c)) _ w hzb (by omega) (by omega) _ rfl (texts_same n b m c hn hm hb hc hi hj) p1 (fun w => text_yes m c w hm hc hj) p3 p4 p5 named_all

set_option maxRecDepth 100000 in
theorem lifted (os : Os) (started : os.Started) (H : Type) (enc : TypeId × Value → H) :
    ReturnsInHanded {} Try.checked os 8 .any (Rows.labelBackSpec.pre6 enc Try.prog Try.f8 Rows.labelBackRow.domain false) (Rows.labelBackSpec.post enc Try.prog Try.f8 false true false false) := by
  refine returnsInHanded_of_change (C := Try.checked) own started (by kernel_rfl) Try.func8
    (ChangeSpec.witness6 (enc := enc) (C := Try.checked) false ⟨#[], #[.agg #[.int .i64 0, .int .u64 0], .agg #[.int .i64 0, .int .u64 0]], []⟩ 8 (by kernel_rfl) (by kernel_rfl) (by kernel_rfl) (by kernel_rfl)) ?_
  intro W base args ds gs before hval0 hW hcnd _
  have hval : ∀ (j : Nat) t v, Try.f8.params[j]? = some t → args[j]? = some v → Value.okWide Try.prog W .any base t v := hval0
  have hW' := hW
  obtain ⟨p, q, hA0, hV, rfl, hfz, hnd⟩ := hW
  have hA : DataW.TrodAll enc Try.prog W 0 (fun _ => true) true Try.f8.params.toList args.toList ds p := hA0
  rw [Try.params8] at hA hval
  obtain ⟨v0, vs0, d0, ds0, p0, q0, hargs, rfl, rfl, h0, r0⟩ := trodAll_cons hA
  obtain ⟨v1, vs1, d1, ds1, p1, q1, rfl, rfl, rfl, h1, r1⟩ := trodAll_cons r0
  obtain ⟨rfl, rfl, rfl⟩ := trodAll_nil r1
  obtain rfl : args = #[v0, v1] := by cases args; simp_all
  obtain ⟨rfl, rfl⟩ := trodVars_none hV
  have k0 := h0
  have lt0 : ∀ x ∈ p0, x.block < W.heap.size := by obtain ⟨m, hm⟩ := k0; exact DataW.trod_lt m _ _ _ hm
  obtain ⟨n0, b0, ok0, rfl⟩ := open_label (hval 0 24 v0 rfl rfl) h0
  have k1 := h1
  have lt1 : ∀ x ∈ p1, x.block < W.heap.size := by obtain ⟨m, hm⟩ := k1; exact DataW.trod_lt m _ _ _ hm
  obtain ⟨n1, b1, ok1, rfl⟩ := open_label (hval 1 24 v1 rfl rfl) h1
  clear hA0 hval0
  refine (walk n0 b0 ok0 n1 b1 ok1 W ).mono fun e W' ⟨he, bel⟩ => ?_
  subst he
  exact ⟨_, rfl, _, _, _, [], _, [], hW', trodAll_mk1 (shut_bool Try.underlying4 _), (trodAll_cons_mk (Below.trod laidOut (by kernel_rfl) (of_decide_eq_true (by kernel_rfl)) k0 bel lt0) (trodAll_cons_mk (Below.trod laidOut (by kernel_rfl) (of_decide_eq_true (by kernel_rfl)) k1 bel lt1) trodAll_mk0)), rfl, bel.frame _, fun h => by cases h⟩

theorem proved : Rows.LabelBackSaid :=
  OpenClaim.holds_of_wide 8 Try.f8 rfl rfl rfl rfl rfl rfl rfl ⟨rfl, rfl, rfl, rfl, rfl⟩ rfl rfl rfl rfl rfl (by kernel_rfl) Try.func8 (by kernel_rfl)
    (of_decide_eq_true (by kernel_rfl)) (by unfold Func.isWrapper; first | (rw [if_pos (by decide +kernel)]; kernel_rfl) | (rw [if_neg (by decide +kernel)]; exact ⟨rfl, rfl⟩))
    (fun os started H enc _ => lifted os started H enc)
end Go.Proofs.Ytbihggfnhcpieaa.LabBackLaw
