/- WireCut: for all numbers, texts, labels and numbers of bytes the call returns true: bytes that are read are not read cut short: then they end ahead. No condition. -/
import Derived.Test.YtgfcdkihahfnkaaWirWired
import Derived.Test.YtgfcdkihahfnkaaWirOpen
namespace Go.Proofs.Ytgfcdkihahfnkaa.CutLaw
open Go.ChangeShapes Go.WideShapes Go.ChangeAt Go.RowKit Go.Sort
open Go.ChangeMaps (open_string shut_string)
set_option linter.unusedVariables false

/-- the smaller one of two numbers -/
theorem wpList_min {P : Program} {w : World} {ops : Array Oper} {rest : List Oper} {o : Oper} {a : Act} {Q : Exit → Act → World → Prop} (hgd : o.guard = none) (x y : Operand) (t1 t2 : TypeId)
    (ho : o.op = .call { callee := .builtin .min, args := #[x, y], argTypes := #[t1, t2] }) (X Y : Int) (hx : a.eval x = .int .i64 X) (hy : a.eval y = .int .i64 Y) (k : Nat) (hk : (if Y < X then Y else X) = (k : Int))
    (h : wpList P ops Q rest (a.put o.dst (.int .i64 (k : Int))) w) : wpList P ops Q (o :: rest) a w := by
  refine wpList_plain hgd fun K hK => ?_
  have hr := run_min_int2 (P := P) w #[t1, t2] o.type .i64 .i64 X Y
  rw [hk] at hr
  unfold Oper.wp
  simp [execOp, ho, resolve, invoke, builtin, hx, hy, hr, Result.andThen]
  exact hK _ _ h

set_option maxRecDepth 100000 in
set_option maxHeartbeats 4000000 in
theorem core_neg (v : Nat) (s A B C : ByteArray) (n : Int) (c : Nat) (at_ : Int) (e : Nat) (w : World) (hs : s.size ≤ 500) (hat : at_ < 0)
    (h1 : Gives Try.prog 14 #[.string ⟨#[]⟩, .int .u64 (v : Int)] (.string A))
    (h2 : Gives Try.prog 8 #[.string ⟨#[]⟩, .string s] (.tuple #[.string B, .int .i64 0]))
    (h3 : Gives Try.prog 9 #[.string ⟨#[]⟩, .agg (labc n c)] (.tuple #[.string C, .int .i64 (e : Int)]))
    (h5 : Gives Try.prog 13 #[] (.bool true)) :
    Calls Try.prog 7 #[.int .u64 (v : Int), .string s, .agg (labc n c), .int .i64 at_] w fun e w' => e = .returned (.bool true) ∧ Below w.heap.size w w' := by
  go_enter Try.func7, Try.ntmps7
  go_upto_region 1 with (fail)
  have L0 := Blk.new w (labc n c) 26
  have B0 := ((Below.refl w.heap.size w).alloc (Nat.le_refl _) (.cells (labc n c) 26))
  generalize w.alloc _ = W at *
  go_upto_region 4 with ((go_at_call 14; (with_reducible refine (h1.calls _).mono ?_); rintro e w1 ⟨rfl, hb1⟩))
  replace L0 := L0.below hb1 L0.lt
  replace B0 := B0.trans (hb1.mono B0.size)
  go_upto_region 5 with ((go_at_call 8; (with_reducible refine (h2.calls _).mono ?_); rintro e w2 ⟨rfl, hb2⟩))
  replace L0 := L0.below hb2 L0.lt
  replace B0 := B0.trans (hb2.mono B0.size)
  go_upto_region 6 with (first | (refine p_loadL rfl _ rfl _ rfl _ _ (by first | with_reducible exact L0) ?_) | (go_at_call 9; (with_reducible refine (h3.calls _).mono ?_); rintro e w3 ⟨rfl, hb3⟩))
  replace B0 := B0.trans (hb3.mono B0.size)
  clear hb1 hb2 hb3 L0
  go_wp2_with ((go_at_call 13; (with_reducible refine (h5.calls _).mono ?_); rintro e w5 ⟨rfl, hb5⟩))
  go_ret
  exact ⟨rfl, B0.trans (hb5.mono B0.size)⟩

set_option maxRecDepth 100000 in
set_option maxHeartbeats 4000000 in
theorem core_yes (v : Nat) (s A B C A' B' C' : ByteArray) (n : Int) (c at_ ka kb kc : Nat) (w : World) (hs : s.size ≤ 500) (hat : at_ ≤ 9223372036854775807) (zA : A.size ≤ 1000) (zA1 : 1 ≤ A.size) (zB : B.size ≤ 1000) (zB1 : 1 ≤ B.size) (zC : C.size ≤ 1000) (zC1 : 1 ≤ C.size)
    (h1 : Gives Try.prog 14 #[.string ⟨#[]⟩, .int .u64 (v : Int)] (.string A))
    (h2 : Gives Try.prog 8 #[.string ⟨#[]⟩, .string s] (.tuple #[.string B, .int .i64 0]))
    (h3 : Gives Try.prog 9 #[.string ⟨#[]⟩, .agg (labc n c)] (.tuple #[.string C, .int .i64 0]))
    (h5 : Gives Try.prog 13 #[] (.bool true))
    (hkA : (if (A.size : Int) - 1 < (at_ : Int) then (A.size : Int) - 1 else (at_ : Int)) = (ka : Int)) (hkB : (if (B.size : Int) - 1 < (at_ : Int) then (B.size : Int) - 1 else (at_ : Int)) = (kb : Int)) (hkC : (if (C.size : Int) - 1 < (at_ : Int) then (C.size : Int) - 1 else (at_ : Int)) = (kc : Int))
    (cA : ∀ w, (Instr.slice 9 (.string A) none (some (.int .i64 (ka : Int))) none).run Try.prog w = .ok (.string A') w)
    (cB : ∀ w, (Instr.slice 9 (.string B) none (some (.int .i64 (kb : Int))) none).run Try.prog w = .ok (.string B') w)
    (cC : ∀ w, (Instr.slice 9 (.string C) none (some (.int .i64 (kc : Int))) none).run Try.prog w = .ok (.string C') w)
    (HNumber : ∀ w g h c', Rd w g h c' A' 0 → Does 19 w g h c' A' 0 (.int .u64 0) 0 4)
    (HText : ∀ w g h c', Rd w g h c' B' 0 → Does 21 w g h c' B' 0 (.string ⟨#[]⟩) 0 4)
    (HLabel : ∀ w g h c', Rd w g h c' C' 0 → Does 25 w g h c' C' 0 (.agg (labc 0 0)) 0 4) :
    Calls Try.prog 7 #[.int .u64 (v : Int), .string s, .agg (labc n c), .int .i64 (at_ : Int)] w fun e w' => e = .returned (.bool true) ∧ Below w.heap.size w w' := by
  have HNA := Lib.hid (fun w => new_any A' w)
  have HNB := Lib.hid (fun w => new_any B' w)
  have HNC := Lib.hid (fun w => new_any C' w)
  have HZN := Lib.hid mN_nil
  have HZL := Lib.hid mL_nil
  have HZE := Lib.hid left_nil
  have dA : ((A.size : Int) == 0) = false := by rw [beq_eq_false_iff_ne]; omega
  have dB : ((B.size : Int) == 0) = false := by rw [beq_eq_false_iff_ne]; omega
  have dC : ((C.size : Int) == 0) = false := by rw [beq_eq_false_iff_ne]; omega
  have hkA := Lib.hid hkA
  have hkB := Lib.hid hkB
  have hkC := Lib.hid hkC
  go_enter Try.func7, Try.ntmps7
  go_upto_region 1 with (fail)
  have L0 := Blk.new w (labc n c) 26
  have B0 := ((Below.refl w.heap.size w).alloc (Nat.le_refl _) (.cells (labc n c) 26))
  generalize w.alloc _ = W at *
  go_upto_region 4 with ((go_at_call 14; (with_reducible refine (h1.calls _).mono ?_); rintro e w1 ⟨rfl, hb1⟩))
  replace L0 := L0.below hb1 L0.lt
  replace B0 := B0.trans (hb1.mono B0.size)
  go_upto_region 5 with ((go_at_call 8; (with_reducible refine (h2.calls _).mono ?_); rintro e w2 ⟨rfl, hb2⟩))
  replace L0 := L0.below hb2 L0.lt
  replace B0 := B0.trans (hb2.mono B0.size)
  go_upto_region 6 with (first | (refine p_loadL rfl _ rfl _ rfl _ _ (by first | with_reducible exact L0) ?_) | (go_at_call 9; (with_reducible refine (h3.calls _).mono ?_); rintro e w3 ⟨rfl, hb3⟩))
  replace B0 := B0.trans (hb3.mono B0.size)
  clear hb1 hb2 hb3 L0
  go_upto_region 10 with (fail)
  go_upto_region 11 with (first | (refine wpList_min rfl _ _ _ _ rfl _ _ rfl rfl ka (by exact hkA.out) ?_) | (go_at_call 18; (with_reducible refine (HNA.out _).mono ?_); rintro e n11 ⟨cap, rfl, R11, hb11⟩; have HD11 := HNumber _ _ _ _ R11; unfold Does at HD11; have hlt11 := R11.lt) | (go_at_call 19; (with_reducible refine HD11.mono ?_); rintro e m11 ⟨rfl, _, hk11⟩))
  have hB11 := B0.size
  replace B0 := hk11.below (B0.trans (hb11.mono B0.size)) (Nat.le_trans B0.size hb11.size) (by omega) (by omega)
  clear hb11 hk11 R11 hlt11 HNA hB11
  go_upto_region 13 with (first | (refine wpList_min rfl _ _ _ _ rfl _ _ rfl rfl kb (by exact hkB.out) ?_) | (go_at_call 18; (with_reducible refine (HNB.out _).mono ?_); rintro e n12 ⟨cap, rfl, R12, hb12⟩; have HD12 := HText _ _ _ _ R12; unfold Does at HD12; have hlt12 := R12.lt) | (go_at_call 21; (with_reducible refine HD12.mono ?_); rintro e m12 ⟨rfl, _, hk12⟩))
  have hB12 := B0.size
  replace B0 := hk12.below (B0.trans (hb12.mono B0.size)) (Nat.le_trans B0.size hb12.size) (by omega) (by omega)
  clear hb12 hk12 R12 hlt12 HNB hB12
  go_upto_region 16 with (first | (refine wpList_min rfl _ _ _ _ rfl _ _ rfl rfl kc (by exact hkC.out) ?_) | (go_at_call 18; (with_reducible refine (HNC.out _).mono ?_); rintro e n14 ⟨cap, rfl, R14, hb14⟩; have HD14 := HLabel _ _ _ _ R14; unfold Does at HD14; have hlt14 := R14.lt) | (go_at_call 25; (with_reducible refine HD14.mono ?_); rintro e m14 ⟨rfl, _, hk14⟩) | (refine wpList_store_newrow rfl 26 _ _ rfl (labc 0 0) rfl rfl infoLab (lab_all _ _) rfl ?_))
  have hB14 := B0.size
  replace B0 := hk14.below (B0.trans (hb14.mono B0.size)) (Nat.le_trans B0.size hb14.size) (by omega) (by omega)
  clear hb14 hk14 R14 hlt14 HNC hB14
  replace B0 := B0.alloc B0.size (.cells (labc 0 0) 26)
  have hq14 := B0.size
  generalize m14.alloc _ = W14 at *
  go_upto_region 18 with (go_at_call 19; (with_reducible refine (HZN.out _).mono ?_); rintro e w17 ⟨rfl, hb17⟩)
  replace B0 := B0.trans (hb17.mono B0.size)
  clear hb17
  go_upto_region 19 with (first | (go_at_call 25; (with_reducible refine (HZL.out _).mono ?_); rintro e w18 ⟨rfl, hb18⟩) | (refine wpList_store_newrow rfl 26 _ _ rfl (labc 0 0) rfl rfl infoLab (lab_all _ _) rfl ?_))
  replace B0 := (B0.trans (hb18.mono B0.size)).alloc (Nat.le_trans B0.size hb18.size) (.cells (labc 0 0) 26)
  clear hb18
  generalize w18.alloc _ = W18 at *
  go_wp2_with (first | (go_at_call 13; (with_reducible refine (h5.calls _).mono ?_); rintro e w19 ⟨rfl, hb19⟩) | (go_at_call 27; (with_reducible refine (HZE.out _).mono ?_); rintro e w20 ⟨rfl, hb20⟩))
  go_ret
  exact ⟨rfl, B0.trans ((hb19.trans (hb20.mono hb19.size)).mono B0.size)⟩

set_option maxRecDepth 100000 in
set_option maxHeartbeats 4000000 in
theorem core_no (v : Nat) (s A B C A' B' C' : ByteArray) (n : Int) (c at_ ka kb kc : Nat) (w : World) (hs : s.size ≤ 500) (hat : at_ ≤ 9223372036854775807) (zA : A.size ≤ 1000) (zA1 : 1 ≤ A.size) (zB : B.size ≤ 1000) (zB1 : 1 ≤ B.size) (zC : C.size ≤ 1000) (zC1 : 1 ≤ C.size)
    (h1 : Gives Try.prog 14 #[.string ⟨#[]⟩, .int .u64 (v : Int)] (.string A))
    (h2 : Gives Try.prog 8 #[.string ⟨#[]⟩, .string s] (.tuple #[.string B, .int .i64 0]))
    (h3 : Gives Try.prog 9 #[.string ⟨#[]⟩, .agg (labc n c)] (.tuple #[.string ⟨#[]⟩, .int .i64 1]))
    (h5 : Gives Try.prog 13 #[] (.bool true))
    (hkA : (if (A.size : Int) - 1 < (at_ : Int) then (A.size : Int) - 1 else (at_ : Int)) = (ka : Int)) (hkB : (if (B.size : Int) - 1 < (at_ : Int) then (B.size : Int) - 1 else (at_ : Int)) = (kb : Int)) (hkC : (if (C.size : Int) - 1 < (at_ : Int) then (C.size : Int) - 1 else (at_ : Int)) = (kc : Int))
    (cA : ∀ w, (Instr.slice 9 (.string A) none (some (.int .i64 (ka : Int))) none).run Try.prog w = .ok (.string A') w)
    (cB : ∀ w, (Instr.slice 9 (.string B) none (some (.int .i64 (kb : Int))) none).run Try.prog w = .ok (.string B') w)
    (cC : ∀ w, (Instr.slice 9 (.string C) none (some (.int .i64 (kc : Int))) none).run Try.prog w = .ok (.string C') w)
    (HNumber : ∀ w g h c', Rd w g h c' A' 0 → Does 19 w g h c' A' 0 (.int .u64 0) 0 4)
    (HText : ∀ w g h c', Rd w g h c' B' 0 → Does 21 w g h c' B' 0 (.string ⟨#[]⟩) 0 4)
    (HLabel : ∀ w g h c', Rd w g h c' C' 0 → Does 25 w g h c' C' 0 (.agg (labc 0 0)) 0 4) :
    Calls Try.prog 7 #[.int .u64 (v : Int), .string s, .agg (labc n c), .int .i64 (at_ : Int)] w fun e w' => e = .returned (.bool true) ∧ Below w.heap.size w w' := by
  have HNA := Lib.hid (fun w => new_any A' w)
  have HNB := Lib.hid (fun w => new_any B' w)
  have HNC := Lib.hid (fun w => new_any C' w)
  have HZN := Lib.hid mN_nil
  have HZL := Lib.hid mL_nil
  have HZE := Lib.hid left_nil
  have dA : ((A.size : Int) == 0) = false := by rw [beq_eq_false_iff_ne]; omega
  have dB : ((B.size : Int) == 0) = false := by rw [beq_eq_false_iff_ne]; omega
  have dC : ((C.size : Int) == 0) = false := by rw [beq_eq_false_iff_ne]; omega
  have hkA := Lib.hid hkA
  have hkB := Lib.hid hkB
  have hkC := Lib.hid hkC
  go_enter Try.func7, Try.ntmps7
  go_upto_region 1 with (fail)
  have L0 := Blk.new w (labc n c) 26
  have B0 := ((Below.refl w.heap.size w).alloc (Nat.le_refl _) (.cells (labc n c) 26))
  generalize w.alloc _ = W at *
  go_upto_region 4 with ((go_at_call 14; (with_reducible refine (h1.calls _).mono ?_); rintro e w1 ⟨rfl, hb1⟩))
  replace L0 := L0.below hb1 L0.lt
  replace B0 := B0.trans (hb1.mono B0.size)
  go_upto_region 5 with ((go_at_call 8; (with_reducible refine (h2.calls _).mono ?_); rintro e w2 ⟨rfl, hb2⟩))
  replace L0 := L0.below hb2 L0.lt
  replace B0 := B0.trans (hb2.mono B0.size)
  go_upto_region 6 with (first | (refine p_loadL rfl _ rfl _ rfl _ _ (by first | with_reducible exact L0) ?_) | (go_at_call 9; (with_reducible refine (h3.calls _).mono ?_); rintro e w3 ⟨rfl, hb3⟩))
  replace B0 := B0.trans (hb3.mono B0.size)
  clear hb1 hb2 hb3 L0
  go_upto_region 10 with (fail)
  go_upto_region 11 with (first | (refine wpList_min rfl _ _ _ _ rfl _ _ rfl rfl ka (by exact hkA.out) ?_) | (go_at_call 18; (with_reducible refine (HNA.out _).mono ?_); rintro e n11 ⟨cap, rfl, R11, hb11⟩; have HD11 := HNumber _ _ _ _ R11; unfold Does at HD11; have hlt11 := R11.lt) | (go_at_call 19; (with_reducible refine HD11.mono ?_); rintro e m11 ⟨rfl, _, hk11⟩))
  have hB11 := B0.size
  replace B0 := hk11.below (B0.trans (hb11.mono B0.size)) (Nat.le_trans B0.size hb11.size) (by omega) (by omega)
  clear hb11 hk11 R11 hlt11 HNA hB11
  go_upto_region 13 with (first | (refine wpList_min rfl _ _ _ _ rfl _ _ rfl rfl kb (by exact hkB.out) ?_) | (go_at_call 18; (with_reducible refine (HNB.out _).mono ?_); rintro e n12 ⟨cap, rfl, R12, hb12⟩; have HD12 := HText _ _ _ _ R12; unfold Does at HD12; have hlt12 := R12.lt) | (go_at_call 21; (with_reducible refine HD12.mono ?_); rintro e m12 ⟨rfl, _, hk12⟩))
  have hB12 := B0.size
  replace B0 := hk12.below (B0.trans (hb12.mono B0.size)) (Nat.le_trans B0.size hb12.size) (by omega) (by omega)
  clear hb12 hk12 R12 hlt12 HNB hB12
  go_upto_region 18 with (go_at_call 19; (with_reducible refine (HZN.out _).mono ?_); rintro e w17 ⟨rfl, hb17⟩)
  replace B0 := B0.trans (hb17.mono B0.size)
  clear hb17
  go_upto_region 19 with (first | (go_at_call 25; (with_reducible refine (HZL.out _).mono ?_); rintro e w18 ⟨rfl, hb18⟩) | (refine wpList_store_newrow rfl 26 _ _ rfl (labc 0 0) rfl rfl infoLab (lab_all _ _) rfl ?_))
  replace B0 := (B0.trans (hb18.mono B0.size)).alloc (Nat.le_trans B0.size hb18.size) (.cells (labc 0 0) 26)
  clear hb18
  generalize w18.alloc _ = W18 at *
  go_wp2_with (first | (go_at_call 13; (with_reducible refine (h5.calls _).mono ?_); rintro e w19 ⟨rfl, hb19⟩) | (go_at_call 27; (with_reducible refine (HZE.out _).mono ?_); rintro e w20 ⟨rfl, hb20⟩))
  go_ret
  exact ⟨rfl, B0.trans ((hb19.trans (hb20.mono hb19.size)).mono B0.size)⟩

theorem let_go (v : Nat) (s : ByteArray) (n : Int) (c : Nat) (at_ : Int) (w : World) (hs : s.size ≤ 9223372036854775807) (h : 500 < s.size) :
    Calls Try.prog 7 #[.int .u64 (v : Int), .string s, .agg (labc n c), .int .i64 at_] w fun e w' => e = .returned (.bool true) ∧ Below w.heap.size w w' := by
  go_enter Try.func7, Try.ntmps7
  go_upto_region 1 with (fail)
  have B0 := ((Below.refl w.heap.size w).alloc (Nat.le_refl _) (.cells (labc n c) 26))
  generalize w.alloc _ = W at *
  go_wp2
  go_ret
  exact ⟨rfl, B0⟩
theorem cut_k (L : List Nat) (at_ : Nat) (h : 1 ≤ L.length) : ∃ k : Nat, k < L.length ∧ (if ((txt L).size : Int) - 1 < (at_ : Int) then ((txt L).size : Int) - 1 else (at_ : Int)) = (k : Int) := by
  rw [txt_size]
  by_cases hc : L.length - 1 < at_
  · exact ⟨L.length - 1, by omega, by rw [if_pos (by omega)]; omega⟩
  · exact ⟨at_, by omega, by rw [if_neg (by omega)]⟩
theorem rest_txt (L : List Nat) (h : ∀ b ∈ L, b < 256) : rest (txt L) 0 = L := by rw [rest, List.drop_zero, bytesN_txt L h]
theorem nil_app (x : ByteArray) : (⟨#[]⟩ : ByteArray) ++ x = x := ByteArray.empty_append
theorem walk (v : Nat) (hv : v < 18446744073709551616) (s : ByteArray) (n : Int) (c : Nat) (hl : (-9223372036854775808 ≤ n ∧ n ≤ 9223372036854775807) ∧ c < 18446744073709551616) (at_ : Int) (ha : -9223372036854775808 ≤ at_ ∧ at_ ≤ 9223372036854775807) (w : World) (ws : s.size ≤ 9223372036854775807) :
    Calls Try.prog 7 #[.int .u64 (v : Int), .string s, labv n c, .int .i64 at_] w fun e w' => e = .returned (.bool true) ∧ Below w.heap.size w w' := by
  by_cases hgo : 500 < s.size
  · exact let_go v s n c at_ w ws hgo
  · have hs : s.size ≤ 500 := by omega
    have h81 := nb_le8 hv
    have h82 := nb_le8 (v := s.size) (by omega)
    have hn2 := txtN_length (bytesN s)
    rw [bytesN_length] at hn2
    have hbt : ∀ b ∈ txtN (bytesN s), b < 256 := by
      intro b hb
      rcases List.mem_append.1 hb with hb | hb
      · exact numN_lt (by rw [bytesN_length]; omega) b hb
      · exact bytesN_lt s b hb
    have h1 : Gives Try.prog 14 #[.string ⟨#[]⟩, .int .u64 (v : Int)] (.string (txt (numN v))) := fun w => by
      have := putNumber_any ⟨#[]⟩ v w (by decide) hv
      rwa [nil_app] at this
    have h2 : Gives Try.prog 8 #[.string ⟨#[]⟩, .string s] (.tuple #[.string (txt (txtN (bytesN s))), .int .i64 0]) := fun w => by
      have := putText_short ⟨#[]⟩ s w (by decide) (by omega)
      rwa [nil_app] at this
    by_cases hneg : at_ < 0
    · cases hi : isB n c
      · exact core_neg v s _ _ _ n c at_ 1 w hs hneg h1 h2 (fun w => putLabel_no ⟨#[]⟩ n c w hl.1.1 hl.1.2 hl.2 hi) wired_all
      · have hn := isB_len hi
        obtain ⟨m, rfl⟩ := Int.eq_ofNat_of_zero_le hn.1
        exact core_neg v s _ _ _ m c at_ 0 w hs hneg h1 h2 (fun w => putLabel_yes ⟨#[]⟩ m c w (by decide) (by omega) hl.2 (isB_low hi)) wired_all
    · obtain ⟨k, rfl⟩ := Int.eq_ofNat_of_zero_le (show 0 ≤ at_ by omega)
      obtain ⟨ka, la, ea⟩ := cut_k (numN v) k (by rw [numN_length]; omega)
      obtain ⟨kb, lb, eb⟩ := cut_k (txtN (bytesN s)) k (by rw [hn2]; omega)
      rw [numN_length] at la
      have HNum : ∀ w g h c', Rd w g h c' (txt ((numN v).take ka)) 0 → Does 19 w g h c' (txt ((numN v).take ka)) 0 (.int .u64 0) 0 4 := by
        intro w g h c' R0
        have := mN_any R0 (by rw [txt_size, List.length_take, numN_length]; omega)
        rwa [rest_txt _ (fun b hb => numN_lt hv b (List.mem_of_mem_take hb)), rNum_cut hv ka la] at this
      have HTxt : ∀ w g h c', Rd w g h c' (txt ((txtN (bytesN s)).take kb)) 0 → Does 21 w g h c' (txt ((txtN (bytesN s)).take kb)) 0 (.string ⟨#[]⟩) 0 4 := by
        intro w g h c' R0
        have := mT_any R0 (by rw [txt_size, List.length_take, hn2]; omega)
        rwa [rest_txt _ (fun b hb => hbt b (List.mem_of_mem_take hb)), rTxt_cut (by rw [bytesN_length]; omega) kb lb] at this
      cases hi : isB n c
      · refine core_no v s (txt (numN v)) (txt (txtN (bytesN s))) (txt [0]) _ _ (txt []) n c k ka kb 0 w hs (by omega) (by rw [txt_size, numN_length]; omega) (by rw [txt_size, numN_length]; omega) (by rw [txt_size, hn2]; omega) (by rw [txt_size, hn2]; omega) (by decide) (by decide)
          h1 h2 (fun w => putLabel_no ⟨#[]⟩ n c w hl.1.1 hl.1.2 hl.2 hi) wired_all ea eb (by rw [txt_size]; simp) (cut_upto _ _ (by rw [numN_length]; omega)) (cut_upto _ _ (by omega)) (cut_upto _ _ (by simp)) HNum HTxt ?_
        intro w g h c' R0
        have := mL_any R0 (by decide)
        rwa [rest_txt [] (by simp), rLab] at this
      · have hn := isB_len hi
        obtain ⟨m, rfl⟩ := Int.eq_ofNat_of_zero_le hn.1
        have hm64 : m ≤ 64 := by omega
        have hn4 := labN_length (b := c) hm64
        have h84 := e8_le hm64
        obtain ⟨kc, lc, ec⟩ := cut_k (labN m c) k (by omega)
        have hbl : ∀ b ∈ labN m c, b < 256 := by
          intro b hb
          rcases List.mem_cons.1 hb with rfl | hb
          · omega
          · exact dig_lt 8 c b (List.mem_of_mem_take hb)
        refine core_yes v s (txt (numN v)) (txt (txtN (bytesN s))) (txt (labN m c)) _ _ _ m c k ka kb kc w hs (by omega) (by rw [txt_size, numN_length]; omega) (by rw [txt_size, numN_length]; omega) (by rw [txt_size, hn2]; omega) (by rw [txt_size, hn2]; omega) (by rw [txt_size]; omega) (by rw [txt_size]; omega)
          h1 h2 (fun w => by have := putLabel_yes ⟨#[]⟩ m c w (by decide) hm64 hl.2 (isB_low hi); rwa [nil_app] at this) wired_all ea eb ec (cut_upto _ _ (by rw [numN_length]; omega)) (cut_upto _ _ (by omega)) (cut_upto _ _ (by omega)) HNum HTxt ?_
        intro w g h c' R0
        have := mL_any R0 (by rw [txt_size, List.length_take]; omega)
        rwa [rest_txt _ (fun b hb => hbl b (List.mem_of_mem_take hb)), rLab_cut hm64 kc (by omega)] at this

set_option maxRecDepth 100000 in
theorem lifted (os : Os) (started : os.Started) (H : Type) (enc : TypeId × Value → H) :
    ReturnsInHanded {} Try.checked os 7 .any (Rows.wireCutSpec.pre6 enc Try.prog Try.f7 Rows.wireCutRow.domain false) (Rows.wireCutSpec.post enc Try.prog Try.f7 false true false false) := by
  refine returnsInHanded_of_change (C := Try.checked) own started (by kernel_rfl) Try.func7
    (ChangeSpec.witness6 (enc := enc) (C := Try.checked) false ⟨#[], #[.int .u64 0, .string ⟨#[]⟩, .agg #[.int .i64 0, .int .u64 0], .int .i64 0], []⟩ 8 (by kernel_rfl) (by kernel_rfl) (by kernel_rfl) (by kernel_rfl)) ?_
  intro W base args ds gs before hval0 hW hcnd _
  have hval : ∀ (j : Nat) t v, Try.f7.params[j]? = some t → args[j]? = some v → Value.okWide Try.prog W .any base t v := hval0
  have hW' := hW
  obtain ⟨p, q, hA0, hV, rfl, hfz, hnd⟩ := hW
  have hA : DataW.TrodAll enc Try.prog W 0 (fun _ => true) true Try.f7.params.toList args.toList ds p := hA0
  rw [Try.params7] at hA hval
  obtain ⟨v0, vs0, d0, ds0, p0, q0, hargs, rfl, rfl, h0, r0⟩ := trodAll_cons hA
  obtain ⟨v1, vs1, d1, ds1, p1, q1, rfl, rfl, rfl, h1, r1⟩ := trodAll_cons r0
  obtain ⟨v2, vs2, d2, ds2, p2, q2, rfl, rfl, rfl, h2, r2⟩ := trodAll_cons r1
  obtain ⟨v3, vs3, d3, ds3, p3, q3, rfl, rfl, rfl, h3, r3⟩ := trodAll_cons r2
  obtain ⟨rfl, rfl, rfl⟩ := trodAll_nil r3
  obtain rfl : args = #[v0, v1, v2, v3] := by cases args; simp_all
  obtain ⟨rfl, rfl⟩ := trodVars_none hV
  have k0 := h0
  have lt0 : ∀ x ∈ p0, x.block < W.heap.size := by obtain ⟨m, hm⟩ := k0; exact DataW.trod_lt m _ _ _ hm
  obtain ⟨n0, ok0, rfl⟩ := open_u64 (hval 0 22 v0 rfl rfl) h0
  have k1 := h1
  have lt1 : ∀ x ∈ p1, x.block < W.heap.size := by obtain ⟨m, hm⟩ := k1; exact DataW.trod_lt m _ _ _ hm
  obtain ⟨n1, rfl, _, _, ws1⟩ := open_string Try.underlying9 (hval 1 9 v1 rfl rfl) h1
  have k2 := h2
  have lt2 : ∀ x ∈ p2, x.block < W.heap.size := by obtain ⟨m, hm⟩ := k2; exact DataW.trod_lt m _ _ _ hm
  obtain ⟨n2, b2, ok2, rfl⟩ := open_label (hval 2 26 v2 rfl rfl) h2
  have k3 := h3
  have lt3 : ∀ x ∈ p3, x.block < W.heap.size := by obtain ⟨m, hm⟩ := k3; exact DataW.trod_lt m _ _ _ hm
  obtain ⟨n3, ok3, rfl⟩ := open_i64 (hval 3 3 v3 rfl rfl) h3
  clear hA0 hval0
  refine (walk n0 ok0 n1 n2 b2 ok2 n3 ok3 W ws1).mono fun e W' ⟨he, bel⟩ => ?_
  subst he
  exact ⟨_, rfl, _, _, _, [], _, [], hW', trodAll_mk1 (shut_bool Try.underlying4 _), (trodAll_cons_mk (Below.trod laidOut (by kernel_rfl) (of_decide_eq_true (by kernel_rfl)) k0 bel lt0) (trodAll_cons_mk (Below.trod laidOut (by kernel_rfl) (of_decide_eq_true (by kernel_rfl)) k1 bel lt1) (trodAll_cons_mk (Below.trod laidOut (by kernel_rfl) (of_decide_eq_true (by kernel_rfl)) k2 bel lt2) (trodAll_cons_mk (Below.trod laidOut (by kernel_rfl) (of_decide_eq_true (by kernel_rfl)) k3 bel lt3) trodAll_mk0)))), rfl, bel.frame _, fun h => by cases h⟩

theorem proved : Rows.WireCutSaid :=
  OpenClaim.holds_of_wide 7 Try.f7 rfl rfl rfl rfl rfl rfl rfl ⟨rfl, rfl, rfl, rfl, rfl⟩ rfl rfl rfl rfl rfl (by kernel_rfl) Try.func7 (by kernel_rfl)
    (of_decide_eq_true (by kernel_rfl)) (by unfold Func.isWrapper; first | (rw [if_pos (by decide +kernel)]; kernel_rfl) | (rw [if_neg (by decide +kernel)]; exact ⟨rfl, rfl⟩))
    (fun os started H enc _ => lifted os started H enc)

end Go.Proofs.Ytgfcdkihahfnkaa.CutLaw
