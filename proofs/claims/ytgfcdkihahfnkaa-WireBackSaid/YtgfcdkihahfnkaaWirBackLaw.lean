/- WireBack: for all numbers, texts, places and labels the call returns true: what is put is read as it was, in order, and nothing else is left of it. No condition. -/
import Derived.Test.YtgfcdkihahfnkaaWirWired
import Derived.Test.YtgfcdkihahfnkaaWirOpen
namespace Go.Proofs.Ytgfcdkihahfnkaa.BackLaw
open Go.ChangeShapes Go.WideShapes Go.ChangeAt Go.RowKit Go.Sort
open Go.ChangeMaps (open_string shut_string)
set_option linter.unusedVariables false

theorem rest_on {s : ByteArray} {p : Nat} {A R : List Nat} (h : rest s p = A ++ R) {n : Nat} (hn : A.length = n) : rest s (p + n) = R := by
  rw [← rest_rest, h, ← hn, List.drop_left]
theorem bytesN_append (a b : ByteArray) : bytesN (a ++ b) = bytesN a ++ bytesN b := by
  unfold bytesN
  rw [ByteArray.data_append, Array.toList_append, List.map_append]

set_option maxRecDepth 100000 in
set_option maxHeartbeats 4000000 in
theorem core_no (v p : Nat) (s more T0 T1 T2 : ByteArray) (n : Int) (c : Nat) (w : World) (hs : s.size ≤ 500) (hm : more.size ≤ 500)
    (h1 : Gives Try.prog 14 #[.string ⟨#[]⟩, .int .u64 (v : Int)] (.string T0))
    (h2 : Gives Try.prog 8 #[.string T0, .string s] (.tuple #[.string T1, .int .i64 0]))
    (h3 : Gives Try.prog 16 #[.string T1, .agg (row (dig 20 p))] (.string T2))
    (h4 : Gives Try.prog 9 #[.string T2, .agg (labc n c)] (.tuple #[.string ⟨#[]⟩, .int .i64 1]))
    (h5 : Gives Try.prog 13 #[] (.bool true))
    (h6 : Gives Try.prog 28 #[.agg (labc n c)] (.bool false)) :
    Calls Try.prog 5 #[.int .u64 (v : Int), .string s, .agg (row (dig 20 p)), .agg (labc n c), .string more] w fun e w' => e = .returned (.bool true) ∧ Below w.heap.size w w' := by
  go_enter Try.func5, Try.ntmps5
  go_upto_region 1 with (fail)
  have I0 := (Blk.new w (row (dig 20 p)) 24).alloc (.cells (labc n c) 26)
  have L0 := Blk.new (w.alloc (.cells (row (dig 20 p)) 24)) (labc n c) 26
  have B0 := ((Below.refl w.heap.size w).alloc (Nat.le_refl _) (.cells (row (dig 20 p)) 24)).alloc (by simp) (.cells (labc n c) 26)
  rw [World.size_alloc] at L0
  generalize (w.alloc _).alloc _ = W at *
  go_upto_region 4 with (first | (go_at_call 14; (with_reducible refine (h1.calls _).mono ?_); rintro e w1 ⟨rfl, hb1⟩) | (go_at_call 8; (with_reducible refine (h2.calls _).mono ?_); rintro e w2 ⟨rfl, hb2⟩))
  replace I0 := (I0.below hb1 I0.lt).below hb2 (Blk.lt (I0.below hb1 I0.lt))
  replace L0 := (L0.below hb1 L0.lt).below hb2 (Blk.lt (L0.below hb1 L0.lt))
  replace B0 := B0.trans ((hb1.trans (hb2.mono hb1.size)).mono B0.size)
  clear hb1 hb2
  refine wp_region_quiet_below (by kernel_rfl) (by kernel_rfl) ?_
  repeat (first
    | go_big_quiet_skip
    | (go_big_quiet_want
       first
       | (first | refine q_row 24 _ rfl w.heap.size rfl (row (dig 20 p)) 24 _ I0 Try.underlying24 rfl (info_id _ (dig_length 20 p)) ?_ | refine q_loadL _ rfl _ rfl _ _ (by first | with_reducible exact L0) ?_
          simp only [Act.put, List.setIfInBounds_toArray, List.set_cons_succ, List.set_cons_zero]
          go_big_quiet_on)
       | (go_big_quiet_op
          first | go_big_quiet_on | go_big_quiet_call (first | with_reducible exact h3.grown _ _ | with_reducible exact h4.grown _ _))))
  refine wpQuiet_nil ?_
  intro _ hw'
  obtain ⟨⟨dq, osq⟩, hw''⟩ := hw'
  subst hw''
  replace I0 := I0.below (below_regrown _ dq osq) I0.lt
  replace L0 := L0.below (below_regrown _ dq osq) L0.lt
  replace B0 := B0.trans ((below_regrown _ dq osq).mono B0.size)
  generalize grow _ _ = W4 at *
  go_wp2_with (first | (go_at_call 13; (with_reducible refine (h5.calls _).mono ?_); rintro e w5 ⟨rfl, hb5⟩; have L1 := L0.below hb5 L0.lt) | (go_guarded; refine o_loadL _ rfl _ rfl _ _ (by first | with_reducible exact L1) ?_; simp only [Act.put, List.setIfInBounds_toArray, List.set_cons_succ, List.set_cons_zero]) | (go_at_call 28; (with_reducible refine (h6.calls _).mono ?_); rintro e w6 ⟨rfl, hb6⟩))
  go_ret
  exact ⟨rfl, B0.trans ((hb5.trans (hb6.mono hb5.size)).mono B0.size)⟩

set_option maxRecDepth 100000 in
set_option maxHeartbeats 4000000 in
theorem core_yes (v p : Nat) (s more T0 T1 T2 T3 : ByteArray) (n : Int) (c n1 n2 n3 n4 : Nat) (w : World) (hs : s.size ≤ 500) (hm : more.size ≤ 500) (hT : T3.size ≤ 1000)
    (h1 : Gives Try.prog 14 #[.string ⟨#[]⟩, .int .u64 (v : Int)] (.string T0))
    (h2 : Gives Try.prog 8 #[.string T0, .string s] (.tuple #[.string T1, .int .i64 0]))
    (h3 : Gives Try.prog 16 #[.string T1, .agg (row (dig 20 p))] (.string T2))
    (h4 : Gives Try.prog 9 #[.string T2, .agg (labc n c)] (.tuple #[.string T3, .int .i64 0]))
    (h5 : Gives Try.prog 13 #[] (.bool true))
    (HNumber : ∀ w g h c', Rd w g h c' (T3 ++ more) (0) → Does 19 w g h c' (T3 ++ more) (0) (.int .u64 (v : Int)) n1 0)
    (HText : ∀ w g h c', Rd w g h c' (T3 ++ more) (0 + n1) → Does 21 w g h c' (T3 ++ more) (0 + n1) (.string s) n2 0)
    (HPlace : ∀ w g h c', Rd w g h c' (T3 ++ more) (0 + n1 + n2) → Does 23 w g h c' (T3 ++ more) (0 + n1 + n2) (.agg (row (dig 20 p))) n3 0)
    (HLabel : ∀ w g h c', Rd w g h c' (T3 ++ more) (0 + n1 + n2 + n3) → Does 25 w g h c' (T3 ++ more) (0 + n1 + n2 + n3) (.agg (labc n c)) n4 0)
    (HE : (T3 ++ more).size - (0 + n1 + n2 + n3 + n4) = more.size) :
    Calls Try.prog 5 #[.int .u64 (v : Int), .string s, .agg (row (dig 20 p)), .agg (labc n c), .string more] w fun e w' => e = .returned (.bool true) ∧ Below w.heap.size w w' := by
  have e1 := beq_self s
  have hz : (T3 ++ more).size ≤ 1000000 := by rw [ByteArray.size_append]; omega
  go_enter Try.func5, Try.ntmps5
  go_upto_region 1 with (fail)
  have I0 := (Blk.new w (row (dig 20 p)) 24).alloc (.cells (labc n c) 26)
  have L0 := Blk.new (w.alloc (.cells (row (dig 20 p)) 24)) (labc n c) 26
  have B0 := ((Below.refl w.heap.size w).alloc (Nat.le_refl _) (.cells (row (dig 20 p)) 24)).alloc (by simp) (.cells (labc n c) 26)
  rw [World.size_alloc] at L0
  generalize (w.alloc _).alloc _ = W at *
  go_upto_region 4 with (first | (go_at_call 14; (with_reducible refine (h1.calls _).mono ?_); rintro e w1 ⟨rfl, hb1⟩) | (go_at_call 8; (with_reducible refine (h2.calls _).mono ?_); rintro e w2 ⟨rfl, hb2⟩))
  replace I0 := (I0.below hb1 I0.lt).below hb2 (Blk.lt (I0.below hb1 I0.lt))
  replace L0 := (L0.below hb1 L0.lt).below hb2 (Blk.lt (L0.below hb1 L0.lt))
  replace B0 := B0.trans ((hb1.trans (hb2.mono hb1.size)).mono B0.size)
  clear hb1 hb2
  refine wp_region_quiet_below (by kernel_rfl) (by kernel_rfl) ?_
  repeat (first
    | go_big_quiet_skip
    | (go_big_quiet_want
       first
       | (first | refine q_row 24 _ rfl w.heap.size rfl (row (dig 20 p)) 24 _ I0 Try.underlying24 rfl (info_id _ (dig_length 20 p)) ?_ | refine q_loadL _ rfl _ rfl _ _ (by first | with_reducible exact L0) ?_
          simp only [Act.put, List.setIfInBounds_toArray, List.set_cons_succ, List.set_cons_zero]
          go_big_quiet_on)
       | (go_big_quiet_op
          first | go_big_quiet_on | go_big_quiet_call (first | with_reducible exact h3.grown _ _ | with_reducible exact h4.grown _ _))))
  refine wpQuiet_nil ?_
  intro _ hw'
  obtain ⟨⟨dq, osq⟩, hw''⟩ := hw'
  subst hw''
  replace I0 := I0.below (below_regrown _ dq osq) I0.lt
  replace L0 := L0.below (below_regrown _ dq osq) L0.lt
  replace B0 := B0.trans ((below_regrown _ dq osq).mono B0.size)
  generalize grow _ _ = W4 at *
  have HN := Lib.hid (fun w => new_any (T3 ++ more) w)
  go_upto_region 8 with (go_at_call 18; (with_reducible refine (HN.out _).mono ?_); rintro e w5 ⟨cap, rfl, R0, hb5⟩)
  have hli := I0.lt
  have hll := L0.lt
  have hB0 := B0.size
  replace I0 := I0.below hb5 I0.lt
  replace L0 := L0.below hb5 L0.lt
  replace B0 := B0.trans (hb5.mono B0.size)
  clear hb5 HN
  generalize W4.heap.size = b at *
  generalize T3 ++ more = X at *
  go_upto_region 10 with (fail)
  have HD := HNumber _ _ _ _ R0
  unfold Does at HD
  replace HD := Lib.hid HD
  have hlt := R0.lt
  have hBs := B0.size
  clear R0
  go_upto_region 11 with (first | (go_at_call 19; (with_reducible refine HD.out.mono ?_); rintro e w6 ⟨rfl, hr6, hk6⟩))
  replace I0 := I0.keep hk6 (by omega) (by omega)
  replace L0 := L0.keep hk6 (by omega) (by omega)
  replace B0 := hk6.below B0 B0.size (by omega) (by omega)
  have R0 := hr6
  have hw6 := hk6.size
  clear hk6 hr6 HD
  have HD := HText _ _ _ _ R0
  unfold Does at HD
  replace HD := Lib.hid HD
  have hlt := R0.lt
  have hBs := B0.size
  clear R0
  go_upto_region 12 with (first | (go_at_call 21; (with_reducible refine HD.out.mono ?_); rintro e w7 ⟨rfl, hr7, hk7⟩))
  replace I0 := I0.keep hk7 (by omega) (by omega)
  replace L0 := L0.keep hk7 (by omega) (by omega)
  replace B0 := hk7.below B0 B0.size (by omega) (by omega)
  have R0 := hr7
  have hw7 := hk7.size
  clear hk7 hr7 HD
  have HD := HPlace _ _ _ _ R0
  unfold Does at HD
  replace HD := Lib.hid HD
  have hlt := R0.lt
  have hBs := B0.size
  clear R0
  go_upto_region 13 with (first | (go_at_call 23; (with_reducible refine HD.out.mono ?_); rintro e w8 ⟨rfl, hr8, hk8⟩) | (refine wpList_store_newrow rfl 24 _ _ rfl (row (dig 20 p)) rfl rfl (info_id _ (dig_length 20 p)) (row8_one _) (by rw [row_size, dig_length]; rfl) ?_))
  replace I0 := I0.keep hk8 (by omega) (by omega)
  replace L0 := L0.keep hk8 (by omega) (by omega)
  replace B0 := hk8.below B0 B0.size (by omega) (by omega)
  have R0 := hr8
  have hw8 := hk8.size
  clear hk8 hr8 HD
  have I1 := Blk.new w8 (row (dig 20 p)) 24
  replace I0 := I0.alloc (.cells (row (dig 20 p)) 24)
  replace L0 := L0.alloc (.cells (row (dig 20 p)) 24)
  replace R0 := R0.below ((Below.refl _ _).alloc (Nat.le_refl _) (.cells (row (dig 20 p)) 24))
  replace B0 := B0.alloc B0.size (.cells (row (dig 20 p)) 24)
  have hq8 : b + 2 ≤ w8.heap.size := by omega
  generalize w8.heap.size = q8 at *
  generalize w8.alloc _ = W8 at *
  have HD := HLabel _ _ _ _ R0
  unfold Does at HD
  replace HD := Lib.hid HD
  have hlt := R0.lt
  have hBs := B0.size
  clear R0
  go_upto_region 14 with (first | (go_at_call 25; (with_reducible refine HD.out.mono ?_); rintro e w9 ⟨rfl, hr9, hk9⟩) | (refine wpList_store_newrow rfl 26 _ _ rfl (labc n c) rfl rfl infoLab (lab_all _ _) rfl ?_))
  replace I0 := I0.keep hk9 (by omega) (by omega)
  replace L0 := L0.keep hk9 (by omega) (by omega)
  replace I1 := I1.keep hk9 (by omega) (by omega)
  replace B0 := hk9.below B0 B0.size (by omega) (by omega)
  have R0 := hr9
  have hw9 := hk9.size
  clear hk9 hr9 HD
  have L1 := Blk.new w9 (labc n c) 26
  replace I0 := I0.alloc (.cells (labc n c) 26)
  replace L0 := L0.alloc (.cells (labc n c) 26)
  replace I1 := I1.alloc (.cells (labc n c) 26)
  replace R0 := R0.below ((Below.refl _ _).alloc (Nat.le_refl _) (.cells (labc n c) 26))
  replace B0 := B0.alloc B0.size (.cells (labc n c) 26)
  have hq9 : b + 2 ≤ w9.heap.size := by omega
  generalize w9.heap.size = q9 at *
  generalize w9.alloc _ = W9 at *
  have HF : Hid (∀ w10, Below W9.heap.size W9 w10 → At w10 w.heap.size p ∧ At w10 q8 p ∧ Blk w10 (w.heap.size + 1) (labc n c) 26 ∧ Blk w10 q9 (labc n c) 26 ∧ Calls Try.prog 27 #[.pointer (some ⟨b + 1, 0, none⟩)] w10 fun e w11 => e = .returned (.int .i64 (more.size : Int)) ∧ Below w10.heap.size w10 w11) := fun w10 hb => ⟨I0.below hb I0.lt, I1.below hb I1.lt, L0.below hb L0.lt, L1.below hb L1.lt, by have := left_any (R0.below hb) hz; rwa [HE] at this⟩
  clear I0 I1 L0 L1 R0
  go_wp2_with (first | (go_at_call 13; (with_reducible refine (h5.calls _).mono ?_); rintro e w10 ⟨rfl, hb10⟩; have HG := Lib.hid (HF.out _ hb10)) | (go_guarded; refine o_load _ rfl _ rfl p (by first | with_reducible exact HG.out.1 | with_reducible exact HG.out.2.1) ?_; simp only [Act.put, List.setIfInBounds_toArray, List.set_cons_succ, List.set_cons_zero]) | (go_guarded; refine o_eql _ _ rfl _ _ rfl rfl (eqB_self _) ?_; simp only [Act.put, List.setIfInBounds_toArray, List.set_cons_succ, List.set_cons_zero]) | (go_guarded; refine o_loadL _ rfl _ rfl _ _ (by first | with_reducible exact HG.out.2.2.1 | with_reducible exact HG.out.2.2.2.1) ?_; simp only [Act.put, List.setIfInBounds_toArray, List.set_cons_succ, List.set_cons_zero]) | (go_guarded; refine o_eqlL _ _ rfl _ _ _ _ rfl rfl (eqL_self _ _) ?_; simp only [Act.put, List.setIfInBounds_toArray, List.set_cons_succ, List.set_cons_zero]) | (go_at_call 27; (with_reducible refine HG.out.2.2.2.2.mono ?_); rintro e w11 ⟨rfl, hb11⟩))
  go_ret
  exact ⟨rfl, B0.trans ((hb10.trans (hb11.mono hb10.size)).mono B0.size)⟩

theorem let_go (v p : Nat) (s more : ByteArray) (n : Int) (c : Nat) (w : World) (hs : s.size ≤ 9223372036854775807) (hm : more.size ≤ 9223372036854775807) (h : 500 < s.size ∨ 500 < more.size) :
    Calls Try.prog 5 #[.int .u64 (v : Int), .string s, .agg (row (dig 20 p)), .agg (labc n c), .string more] w fun e w' => e = .returned (.bool true) ∧ Below w.heap.size w w' := by
  rcases (by omega : 500 < s.size ∨ (s.size ≤ 500 ∧ 500 < more.size)) with h | ⟨h1, h2⟩
  all_goals
    go_enter Try.func5, Try.ntmps5
    go_upto_region 1 with (fail)
    have B0 := ((Below.refl w.heap.size w).alloc (Nat.le_refl _) (.cells (row (dig 20 p)) 24)).alloc (by simp) (.cells (labc n c) 26)
    generalize (w.alloc _).alloc _ = W at *
    go_wp2
    go_ret
    exact ⟨rfl, B0⟩
theorem walk (v : Nat) (hv : v < 18446744073709551616) (s : ByteArray) (p : Nat) (hp : p < M) (n : Int) (c : Nat) (hl : (-9223372036854775808 ≤ n ∧ n ≤ 9223372036854775807) ∧ c < 18446744073709551616) (more : ByteArray) (w : World) (ws : s.size ≤ 9223372036854775807) (wm : more.size ≤ 9223372036854775807) :
    Calls Try.prog 5 #[.int .u64 (v : Int), .string s, idv p, labv n c, .string more] w fun e w' => e = .returned (.bool true) ∧ Below w.heap.size w w' := by
  by_cases hgo : 500 < s.size ∨ 500 < more.size
  · exact let_go v p s more n c w ws wm hgo
  · have hs : s.size ≤ 500 := by omega
    have hm : more.size ≤ 500 := by omega
    have hn1 := numN_length v
    have h81 := nb_le8 hv
    have hn2 := txtN_length (bytesN s)
    rw [bytesN_length] at hn2
    have h82 := nb_le8 (v := s.size) (by omega)
    have z0 : (⟨#[]⟩ ++ txt (numN v)).size ≤ 9 := by rw [ByteArray.size_append, txt_size]; show 0 + _ ≤ 9; omega
    have z1 : (⟨#[]⟩ ++ txt (numN v) ++ txt (txtN (bytesN s))).size ≤ 518 := by rw [ByteArray.size_append, txt_size]; omega
    have z2 : (⟨#[]⟩ ++ txt (numN v) ++ txt (txtN (bytesN s)) ++ txt (dig 20 p)).size ≤ 538 := by rw [ByteArray.size_append, txt_size, dig_length]; omega
    have h1 : Gives Try.prog 14 #[.string ⟨#[]⟩, .int .u64 (v : Int)] (.string (⟨#[]⟩ ++ txt (numN v))) := fun w => putNumber_any ⟨#[]⟩ v w (by decide) hv
    have h2 : Gives Try.prog 8 #[.string (⟨#[]⟩ ++ txt (numN v)), .string s] (.tuple #[.string (⟨#[]⟩ ++ txt (numN v) ++ txt (txtN (bytesN s))), .int .i64 0]) := fun w => putText_short _ s w (by omega) (by omega)
    have h3 : Gives Try.prog 16 #[.string (⟨#[]⟩ ++ txt (numN v) ++ txt (txtN (bytesN s))), .agg (row (dig 20 p))] (.string (⟨#[]⟩ ++ txt (numN v) ++ txt (txtN (bytesN s)) ++ txt (dig 20 p))) := fun w => putPlace_any _ p w (by omega)
    cases hi : isB n c
    · exact core_no v p s more _ _ _ n c w hs hm h1 h2 h3 (fun w => putLabel_no _ n c w hl.1.1 hl.1.2 hl.2 hi) wired_all (fun w => hi ▸ isL_any n c w hl.1.1 hl.1.2 hl.2)
    · have hn := isB_len hi
      obtain ⟨m, rfl⟩ := Int.eq_ofNat_of_zero_le hn.1
      have hlow := isB_low hi
      have hm64 : m ≤ 64 := by omega
      have hn4 := labN_length (b := c) hm64
      have h84 := e8_le hm64
      have hT : (⟨#[]⟩ ++ txt (numN v) ++ txt (txtN (bytesN s)) ++ txt (dig 20 p) ++ txt (labN m c)).size ≤ 1000 := by rw [ByteArray.size_append, txt_size]; omega
      have hbl : ∀ b ∈ labN m c, b < 256 := by
        intro b hb
        rcases List.mem_cons.1 hb with rfl | hb
        · omega
        · exact dig_lt 8 c b (List.mem_of_mem_take hb)
      have hbt : ∀ b ∈ txtN (bytesN s), b < 256 := by
        intro b hb
        rcases List.mem_append.1 hb with hb | hb
        · exact numN_lt (by rw [bytesN_length]; omega) b hb
        · exact bytesN_lt s b hb
      have hX : bytesN (⟨#[]⟩ ++ txt (numN v) ++ txt (txtN (bytesN s)) ++ txt (dig 20 p) ++ txt (labN m c) ++ more) = numN v ++ (txtN (bytesN s) ++ (dig 20 p ++ (labN m c ++ bytesN more))) := by
        simp only [bytesN_append]
        rw [bytesN_txt _ (numN_lt hv), bytesN_txt _ hbt, bytesN_txt _ (dig_lt 20 p), bytesN_txt _ hbl, show bytesN ⟨#[]⟩ = [] from rfl]
        simp only [List.nil_append, List.append_assoc]
      have hz := congrArg List.length hX
      rw [bytesN_length] at hz
      simp only [List.length_append, bytesN_length, dig_length, hn1, hn2, hn4] at hz
      have r0 : rest (⟨#[]⟩ ++ txt (numN v) ++ txt (txtN (bytesN s)) ++ txt (dig 20 p) ++ txt (labN m c) ++ more) 0 = numN v ++ (txtN (bytesN s) ++ (dig 20 p ++ (labN m c ++ bytesN more))) := by rw [rest, List.drop_zero, hX]
      have r1 := rest_on r0 hn1
      have r2 := rest_on r1 hn2
      have r3 := rest_on r2 (dig_length 20 p)
      have hz2 : (⟨#[]⟩ ++ txt (numN v) ++ txt (txtN (bytesN s)) ++ txt (dig 20 p) ++ txt (labN m c) ++ more).size ≤ 1000000 := by rw [ByteArray.size_append]; omega
      have h4 : Gives Try.prog 9 #[.string (⟨#[]⟩ ++ txt (numN v) ++ txt (txtN (bytesN s)) ++ txt (dig 20 p)), .agg (labc m c)] (.tuple #[.string (⟨#[]⟩ ++ txt (numN v) ++ txt (txtN (bytesN s)) ++ txt (dig 20 p) ++ txt (labN m c)), .int .i64 0]) := fun w => putLabel_yes _ m c w (by omega) hm64 hl.2 hlow
      refine core_yes v p s more _ _ _ _ m c (1 + nb v) (1 + nb s.size + s.size) 20 (1 + e8 m) w hs hm hT h1 h2 h3 h4 wired_all ?_ ?_ ?_ ?_ (by omega)
      · intro w g h c' R0
        have := mN_any R0 hz2
        rwa [r0, rNum_put hv] at this
      · intro w g h c' R0
        have := mT_any R0 hz2
        rw [r1, rTxt_put (by rw [bytesN_length]; omega)] at this
        simp only [hn2, txt_bytes] at this
        exact this
      · intro w g h c' R0
        have := mP_any R0 hz2
        rw [r2, rPl_put hp] at this
        exact this
      · intro w g h c' R0
        have := mL_any R0 hz2
        rw [r3, rLab_put hm64 hl.2 hlow] at this
        exact this

set_option maxRecDepth 100000 in
theorem lifted (os : Os) (started : os.Started) (H : Type) (enc : TypeId × Value → H) :
    ReturnsInHanded {} Try.checked os 5 .any (Rows.wireBackSpec.pre6 enc Try.prog Try.f5 Rows.wireBackRow.domain false) (Rows.wireBackSpec.post enc Try.prog Try.f5 false true false false) := by
  refine returnsInHanded_of_change (C := Try.checked) own started (by kernel_rfl) Try.func5
    (ChangeSpec.witness6 (enc := enc) (C := Try.checked) false ⟨#[], #[.int .u64 0, .string ⟨#[]⟩, .agg #[.int .u8 0, .int .u8 0, .int .u8 0, .int .u8 0, .int .u8 0, .int .u8 0, .int .u8 0, .int .u8 0, .int .u8 0, .int .u8 0, .int .u8 0, .int .u8 0, .int .u8 0, .int .u8 0, .int .u8 0, .int .u8 0, .int .u8 0, .int .u8 0, .int .u8 0, .int .u8 0], .agg #[.int .i64 0, .int .u64 0], .string ⟨#[]⟩], []⟩ 8 (by kernel_rfl) (by kernel_rfl) (by kernel_rfl) (by kernel_rfl)) ?_
  intro W base args ds gs before hval0 hW hcnd _
  have hval : ∀ (j : Nat) t v, Try.f5.params[j]? = some t → args[j]? = some v → Value.okWide Try.prog W .any base t v := hval0
  have hW' := hW
  obtain ⟨p, q, hA0, hV, rfl, hfz, hnd⟩ := hW
  have hA : DataW.TrodAll enc Try.prog W 0 (fun _ => true) true Try.f5.params.toList args.toList ds p := hA0
  rw [Try.params5] at hA hval
  obtain ⟨v0, vs0, d0, ds0, p0, q0, hargs, rfl, rfl, h0, r0⟩ := trodAll_cons hA
  obtain ⟨v1, vs1, d1, ds1, p1, q1, rfl, rfl, rfl, h1, r1⟩ := trodAll_cons r0
  obtain ⟨v2, vs2, d2, ds2, p2, q2, rfl, rfl, rfl, h2, r2⟩ := trodAll_cons r1
  obtain ⟨v3, vs3, d3, ds3, p3, q3, rfl, rfl, rfl, h3, r3⟩ := trodAll_cons r2
  obtain ⟨v4, vs4, d4, ds4, p4, q4, rfl, rfl, rfl, h4, r4⟩ := trodAll_cons r3
  obtain ⟨rfl, rfl, rfl⟩ := trodAll_nil r4
  obtain rfl : args = #[v0, v1, v2, v3, v4] := by cases args; simp_all
  obtain ⟨rfl, rfl⟩ := trodVars_none hV
  have k0 := h0
  have lt0 : ∀ x ∈ p0, x.block < W.heap.size := by obtain ⟨m, hm⟩ := k0; exact DataW.trod_lt m _ _ _ hm
  obtain ⟨n0, ok0, rfl⟩ := open_u64 (hval 0 22 v0 rfl rfl) h0
  have k1 := h1
  have lt1 : ∀ x ∈ p1, x.block < W.heap.size := by obtain ⟨m, hm⟩ := k1; exact DataW.trod_lt m _ _ _ hm
  obtain ⟨n1, rfl, _, _, ws1⟩ := open_string Try.underlying9 (hval 1 9 v1 rfl rfl) h1
  have k2 := h2
  have lt2 : ∀ x ∈ p2, x.block < W.heap.size := by obtain ⟨m, hm⟩ := k2; exact DataW.trod_lt m _ _ _ hm
  obtain ⟨n2, ok2, rfl⟩ := open_id (hval 2 24 v2 rfl rfl) h2
  have k3 := h3
  have lt3 : ∀ x ∈ p3, x.block < W.heap.size := by obtain ⟨m, hm⟩ := k3; exact DataW.trod_lt m _ _ _ hm
  obtain ⟨n3, b3, ok3, rfl⟩ := open_label (hval 3 26 v3 rfl rfl) h3
  have k4 := h4
  have lt4 : ∀ x ∈ p4, x.block < W.heap.size := by obtain ⟨m, hm⟩ := k4; exact DataW.trod_lt m _ _ _ hm
  obtain ⟨n4, rfl, _, _, ws4⟩ := open_string Try.underlying9 (hval 4 9 v4 rfl rfl) h4
  clear hA0 hval0
  refine (walk n0 ok0 n1 n2 ok2 n3 b3 ok3 n4 W ws1 ws4).mono fun e W' ⟨he, bel⟩ => ?_
  subst he
  exact ⟨_, rfl, _, _, _, [], _, [], hW', trodAll_mk1 (shut_bool Try.underlying4 _), (trodAll_cons_mk (Below.trod laidOut (by kernel_rfl) (of_decide_eq_true (by kernel_rfl)) k0 bel lt0) (trodAll_cons_mk (Below.trod laidOut (by kernel_rfl) (of_decide_eq_true (by kernel_rfl)) k1 bel lt1) (trodAll_cons_mk (Below.trod laidOut (by kernel_rfl) (of_decide_eq_true (by kernel_rfl)) k2 bel lt2) (trodAll_cons_mk (Below.trod laidOut (by kernel_rfl) (of_decide_eq_true (by kernel_rfl)) k3 bel lt3) (trodAll_cons_mk (Below.trod laidOut (by kernel_rfl) (of_decide_eq_true (by kernel_rfl)) k4 bel lt4) trodAll_mk0))))), rfl, bel.frame _, fun h => by cases h⟩

theorem proved : Rows.WireBackSaid :=
  OpenClaim.holds_of_wide 5 Try.f5 rfl rfl rfl rfl rfl rfl rfl ⟨rfl, rfl, rfl, rfl, rfl⟩ rfl rfl rfl rfl rfl (by kernel_rfl) Try.func5 (by kernel_rfl)
    (of_decide_eq_true (by kernel_rfl)) (by unfold Func.isWrapper; first | (rw [if_pos (by decide +kernel)]; kernel_rfl) | (rw [if_neg (by decide +kernel)]; exact ⟨rfl, rfl⟩))
    (fun os started H enc _ => lifted os started H enc)

end Go.Proofs.Ytgfcdkihahfnkaa.BackLaw
