/- WireOnly: for all bytes the call returns true: what is read, put again, is the bytes that were read; with an error nothing is read. No condition. -/
import Derived.Test.YtgfcdkihahfnkaaWirWired
import Derived.Test.YtgfcdkihahfnkaaWirOpen
import Derived.Deep.Cut
namespace Go.Proofs.Ytgfcdkihahfnkaa.OnlyLaw
open Go.ChangeShapes Go.WideShapes Go.ChangeAt Go.RowKit Go.Sort
open Go.ChangeMaps (open_string shut_string)
set_option linter.unusedVariables false

theorem is_any (L : List Nat) (k : Nat) (h : k ≤ L.length) (hz : L.length ≤ 1000000) (w : World) : Calls Try.prog 29 #[.string (txt L), .string (txt (L.take k)), .int .i64 ((L.length - k : Nat) : Int)] w fun e w' => e = .returned (.bool true) ∧ w = w' := by
  have z1 : (txt L).size = L.length := txt_size L
  have z2 : (txt (L.take k)).size = k := by rw [txt_size, List.length_take]; omega
  have hc := cut_upto L k h
  have e1 := beq_self (txt (L.take k))
  have hd : ((L.length : Int) == (k : Int) + ((L.length - k : Nat) : Int)) = true := by rw [beq_iff_eq]; omega
  generalize txt (L.take k) = x at *
  generalize txt L = y at *
  go_enter Try.func29, Try.ntmps29
  go_wp2
  go_ret
  exact ⟨rfl, rfl⟩

set_option maxRecDepth 100000 in
set_option maxHeartbeats 4000000 in
theorem core (L : List Nat) (hz : L.length ≤ 6000) (v e1 n1 : Nat) (T : ByteArray) (e2 n2 : Nat) (p e3 n3 : Nat) (a c e4 n4 : Nat) (N U Y M : ByteArray) (w : World)
    (HNumber : ∀ w g h c', Rd w g h c' (txt L) 0 → Does 19 w g h c' (txt L) 0 (.int .u64 (v : Int)) n1 e1)
    (HText : ∀ w g h c', Rd w g h c' (txt L) 0 → Does 21 w g h c' (txt L) 0 (.string T) n2 e2)
    (HPlace : ∀ w g h c', Rd w g h c' (txt L) 0 → Does 23 w g h c' (txt L) 0 (.agg (row (dig 20 p))) n3 e3)
    (HLabel : ∀ w g h c', Rd w g h c' (txt L) 0 → Does 25 w g h c' (txt L) 0 (.agg (labc a c)) n4 e4)
    (h1 : Gives Try.prog 14 #[.string ⟨#[]⟩, .int .u64 (v : Int)] (.string N))
    (h2 : Gives Try.prog 8 #[.string ⟨#[]⟩, .string T] (.tuple #[.string U, .int .i64 0]))
    (h3 : Gives Try.prog 16 #[.string ⟨#[]⟩, .agg (row (dig 20 p))] (.string Y))
    (h4 : Gives Try.prog 9 #[.string ⟨#[]⟩, .agg (labc a c)] (.tuple #[.string M, .int .i64 0]))
    (h5 : Gives Try.prog 13 #[] (.bool true))
    (k1 : (e1 = 0 ∧ N = txt (L.take n1) ∧ n1 ≤ L.length) ∨ (e1 ≠ 0 ∧ v = 0 ∧ n1 = 0))
    (k2 : (e2 = 0 ∧ U = txt (L.take n2) ∧ n2 ≤ L.length) ∨ (e2 ≠ 0 ∧ T = ⟨#[]⟩ ∧ n2 = 0))
    (k3 : (e3 = 0 ∧ Y = txt (L.take n3) ∧ n3 ≤ L.length) ∨ (e3 = 4 ∧ n3 = 0 ∧ L.length < 20))
    (k4 : (e4 = 0 ∧ M = txt (L.take n4) ∧ n4 ≤ L.length) ∨ (e4 ≠ 0 ∧ a = 0 ∧ c = 0 ∧ n4 = 0)) :
    Calls Try.prog 6 #[.string (txt L)] w fun e w' => e = .returned (.bool true) ∧ Below w.heap.size w w' := by
  have hX : (txt L).size = L.length := txt_size L
  have HIS := Lib.hid (fun k h w => is_any L k h (by omega) w)
  have q1 := beq_self ⟨#[]⟩
  have q2 : (⟨#[]⟩ : ByteArray).toList.isEmpty = true := by rw [ByteArray.toList_eq]; rfl
  have HN := Lib.hid (fun w => new_any (txt L) w)
  have hX6 : (txt L).size ≤ 1000000 := by omega
  generalize txt L = X at *
  have K1 := Lib.hid k1
  have K2 := Lib.hid k2
  have K3 := Lib.hid k3
  have K4 := Lib.hid k4
  clear k1 k2 k3 k4
  have B0 := Below.refl w.heap.size w
  go_enter Try.func6, Try.ntmps6
  go_upto_region 3 with (fail)
  go_upto_region 4 with (go_at_call 18; (with_reducible refine (HN.out _).mono ?_); rintro e w1 ⟨c1, rfl, R1, hb1⟩)
  have hs1 := B0.size
  replace B0 := B0.trans (hb1.mono B0.size)
  have hlt1 := R1.lt
  clear hb1
  go_upto_region 5 with (go_at_call 18; (with_reducible refine (HN.out _).mono ?_); rintro e w2 ⟨c2, rfl, R2, hb2⟩)
  replace R1 := R1.below hb2
  have hs2 := B0.size
  replace B0 := B0.trans (hb2.mono B0.size)
  have hlt2 := R2.lt
  clear hb2
  generalize w1.heap.size = q2 at *
  go_upto_region 6 with (go_at_call 18; (with_reducible refine (HN.out _).mono ?_); rintro e w3 ⟨c3, rfl, R3, hb3⟩)
  replace R1 := R1.below hb3
  replace R2 := R2.below hb3
  have hs3 := B0.size
  replace B0 := B0.trans (hb3.mono B0.size)
  have hlt3 := R3.lt
  clear hb3
  generalize w2.heap.size = q3 at *
  go_upto_region 7 with (go_at_call 18; (with_reducible refine (HN.out _).mono ?_); rintro e w4 ⟨c4, rfl, R4, hb4⟩)
  replace R1 := R1.below hb4
  replace R2 := R2.below hb4
  replace R3 := R3.below hb4
  have hs4 := B0.size
  replace B0 := B0.trans (hb4.mono B0.size)
  have hlt4 := R4.lt
  clear hb4
  generalize w3.heap.size = q4 at *
  go_upto_region 9 with (fail)
  have HD := HNumber _ _ _ _ R1
  unfold Does at HD
  replace HD := Lib.hid HD
  clear R1
  go_upto_region 10 with (first | (go_at_call 19; (with_reducible refine HD.out.mono ?_); rintro e w5 ⟨rfl, R1, hk5⟩))
  replace R2 := R2.keep hk5 (by omega) (by omega) (by omega) (by omega)
  replace R3 := R3.keep hk5 (by omega) (by omega) (by omega) (by omega)
  replace R4 := R4.keep hk5 (by omega) (by omega) (by omega) (by omega)
  have hBs := B0.size
  replace B0 := hk5.below B0 B0.size (by omega) (by omega)
  have hw5 := hk5.size
  clear hk5 HD hBs
  have HD := HText _ _ _ _ R2
  unfold Does at HD
  replace HD := Lib.hid HD
  clear R2
  go_upto_region 11 with (first | (go_at_call 21; (with_reducible refine HD.out.mono ?_); rintro e w6 ⟨rfl, R2, hk6⟩))
  replace R1 := R1.keep hk6 (by omega) (by omega) (by omega) (by omega)
  replace R3 := R3.keep hk6 (by omega) (by omega) (by omega) (by omega)
  replace R4 := R4.keep hk6 (by omega) (by omega) (by omega) (by omega)
  have hBs := B0.size
  replace B0 := hk6.below B0 B0.size (by omega) (by omega)
  have hw6 := hk6.size
  clear hk6 HD hBs
  have HD := HPlace _ _ _ _ R3
  unfold Does at HD
  replace HD := Lib.hid HD
  clear R3
  go_upto_region 12 with (first | (go_at_call 23; (with_reducible refine HD.out.mono ?_); rintro e w7 ⟨rfl, R3, hk7⟩) | (refine wpList_store_newrow rfl 24 _ _ rfl (row (dig 20 p)) rfl rfl (info_id _ (dig_length 20 p)) (row8_one _) (by rw [row_size, dig_length]; rfl) ?_))
  replace R1 := R1.keep hk7 (by omega) (by omega) (by omega) (by omega)
  replace R2 := R2.keep hk7 (by omega) (by omega) (by omega) (by omega)
  replace R4 := R4.keep hk7 (by omega) (by omega) (by omega) (by omega)
  have hBs := B0.size
  replace B0 := hk7.below B0 B0.size (by omega) (by omega)
  have hw7 := hk7.size
  clear hk7 HD hBs
  have I0 := Blk.new w7 (row (dig 20 p)) 24
  replace R1 := R1.below ((Below.refl _ _).alloc (Nat.le_refl _) (.cells (row (dig 20 p)) 24))
  replace R2 := R2.below ((Below.refl _ _).alloc (Nat.le_refl _) (.cells (row (dig 20 p)) 24))
  replace R3 := R3.below ((Below.refl _ _).alloc (Nat.le_refl _) (.cells (row (dig 20 p)) 24))
  replace R4 := R4.below ((Below.refl _ _).alloc (Nat.le_refl _) (.cells (row (dig 20 p)) 24))
  replace B0 := B0.alloc B0.size (.cells (row (dig 20 p)) 24)
  have hg7 : (w7.alloc (.cells (row (dig 20 p)) 24)).heap.size = w7.heap.size + 1 := World.size_alloc _ _
  generalize w7.heap.size = q7 at *
  generalize w7.alloc _ = W7 at *
  have HD := HLabel _ _ _ _ R4
  unfold Does at HD
  replace HD := Lib.hid HD
  clear R4
  go_upto_region 13 with (first | (go_at_call 25; (with_reducible refine HD.out.mono ?_); rintro e w8 ⟨rfl, R4, hk8⟩) | (refine wpList_store_newrow rfl 26 _ _ rfl (labc a c) rfl rfl infoLab (lab_all _ _) rfl ?_))
  replace R1 := R1.keep hk8 (by omega) (by omega) (by omega) (by omega)
  replace R2 := R2.keep hk8 (by omega) (by omega) (by omega) (by omega)
  replace R3 := R3.keep hk8 (by omega) (by omega) (by omega) (by omega)
  have hI0 := I0.lt
  replace I0 := I0.keep hk8 (by omega) (by omega)
  have hBs := B0.size
  replace B0 := hk8.below B0 B0.size (by omega) (by omega)
  have hw8 := hk8.size
  clear hk8 HD hBs
  have L0 := Blk.new w8 (labc a c) 26
  replace I0 := I0.alloc (.cells (labc a c) 26)
  replace R1 := R1.below ((Below.refl _ _).alloc (Nat.le_refl _) (.cells (labc a c) 26))
  replace R2 := R2.below ((Below.refl _ _).alloc (Nat.le_refl _) (.cells (labc a c) 26))
  replace R3 := R3.below ((Below.refl _ _).alloc (Nat.le_refl _) (.cells (labc a c) 26))
  replace R4 := R4.below ((Below.refl _ _).alloc (Nat.le_refl _) (.cells (labc a c) 26))
  replace B0 := B0.alloc B0.size (.cells (labc a c) 26)
  have hg8 : (w8.alloc (.cells (labc a c) 26)).heap.size = w8.heap.size + 1 := World.size_alloc _ _
  generalize w8.heap.size = q8 at *
  generalize w8.alloc _ = W8 at *
  go_upto_region 14 with ((go_at_call 8; (with_reducible refine (h2.calls _).mono ?_); rintro e w9 ⟨rfl, hb9⟩))
  replace R1 := R1.below hb9
  replace R2 := R2.below hb9
  replace R3 := R3.below hb9
  replace R4 := R4.below hb9
  replace I0 := I0.below hb9 I0.lt
  replace L0 := L0.below hb9 L0.lt
  replace B0 := B0.trans (hb9.mono B0.size)
  clear hb9
  go_upto_region 15 with (first | (refine p_loadL rfl _ rfl _ rfl _ _ (by first | with_reducible exact L0) ?_) | (go_at_call 9; (with_reducible refine (h4.calls _).mono ?_); rintro e w10 ⟨rfl, hb10⟩))
  replace R1 := R1.below hb10
  replace R2 := R2.below hb10
  replace R3 := R3.below hb10
  replace R4 := R4.below hb10
  replace I0 := I0.below hb10 I0.lt
  replace L0 := L0.below hb10 L0.lt
  replace B0 := B0.trans (hb10.mono B0.size)
  clear hb10
  have HF : Hid (∀ w', Below w10.heap.size w10 w' → (Calls Try.prog 27 #[.pointer (some ⟨w.heap.size + 1, 0, none⟩)] w' fun e w'' => e = .returned (.int .i64 ((L.length - n1 : Nat) : Int)) ∧ Below w'.heap.size w' w'') ∧ (Calls Try.prog 27 #[.pointer (some ⟨q2 + 1, 0, none⟩)] w' fun e w'' => e = .returned (.int .i64 ((L.length - n2 : Nat) : Int)) ∧ Below w'.heap.size w' w'') ∧ (Calls Try.prog 27 #[.pointer (some ⟨q3 + 1, 0, none⟩)] w' fun e w'' => e = .returned (.int .i64 ((L.length - n3 : Nat) : Int)) ∧ Below w'.heap.size w' w'') ∧ (Calls Try.prog 27 #[.pointer (some ⟨q4 + 1, 0, none⟩)] w' fun e w'' => e = .returned (.int .i64 ((L.length - n4 : Nat) : Int)) ∧ Below w'.heap.size w' w'') ∧ Blk w' q7 (row (dig 20 p)) 24 ∧ Blk w' q8 (labc a c) 26) := fun w' hb => ⟨by have := left_any (R1.below hb) hX6; rwa [hX, show L.length - (0 + n1) = L.length - n1 by omega] at this, by have := left_any (R2.below hb) hX6; rwa [hX, show L.length - (0 + n2) = L.length - n2 by omega] at this, by have := left_any (R3.below hb) hX6; rwa [hX, show L.length - (0 + n3) = L.length - n3 by omega] at this, by have := left_any (R4.below hb) hX6; rwa [hX, show L.length - (0 + n4) = L.length - n4 by omega] at this, I0.below hb I0.lt, L0.below hb L0.lt⟩
  clear I0 L0 R1 R2 R3 R4
  have hc := Below.refl w10.heap.size w10
  go_cut [19] from 23 (fun b wx => b = .bool true ∧ Below w10.heap.size w10 wx)
  case first =>
    have hk := K1.out
    rcases hk with hk | hk
    · obtain ⟨rfl, rfl, hle⟩ := hk
      go_wp2_with (first | (go_at_call 14; (with_reducible refine (h1.calls _).mono ?_); rintro e w20 ⟨rfl, hb20⟩) | (go_at_call 27; (with_reducible refine (HF.out _ (hc.trans (hb20.mono hc.size))).1.mono ?_); rintro e w21 ⟨rfl, hb21⟩) | (go_at_call 29; (with_reducible refine (HIS.out n1 hle _).mono ?_); rintro e i9 ⟨rfl, rfl⟩))
      go_meet
      exact ⟨rfl, hc.trans ((hb20.trans (hb21.mono hb20.size)).mono hc.size)⟩
    · obtain ⟨he, rfl, rfl⟩ := hk
      have hd : ((e1 : Int) != 0) = true := by rw [bne_iff_ne]; omega
      go_wp2_with (first | (go_at_call 27; (with_reducible refine (HF.out _ hc).1.mono ?_); rintro e w21 ⟨rfl, hb21⟩))
      go_meet
      exact ⟨rfl, hc.trans (hb21.mono hc.size)⟩
  case rest =>
  obtain ⟨rfl, hc1⟩ := hcut
  clear hc
  have hc := hc1
  clear hc1 K1
  go_upto_region 16 with (fail)
  go_cut [20] from 23 (fun b wx => b = .bool true ∧ Below w10.heap.size w10 wx)
  case first =>
    have hk := K2.out
    rcases hk with hk | hk
    · obtain ⟨rfl, rfl, hle⟩ := hk
      go_wp2_with (first | (go_at_call 27; (with_reducible refine (HF.out _ hc).2.1.mono ?_); rintro e w21 ⟨rfl, hb21⟩) | (go_at_call 29; (with_reducible refine (HIS.out n2 hle _).mono ?_); rintro e i9 ⟨rfl, rfl⟩))
      go_meet
      exact ⟨rfl, hc.trans (hb21.mono hc.size)⟩
    · obtain ⟨he, rfl, rfl⟩ := hk
      have hd : ((e2 : Int) != 0) = true := by rw [bne_iff_ne]; omega
      go_wp2_with (first | (go_at_call 27; (with_reducible refine (HF.out _ hc).2.1.mono ?_); rintro e w21 ⟨rfl, hb21⟩))
      go_meet
      exact ⟨rfl, hc.trans (hb21.mono hc.size)⟩
  case rest =>
  obtain ⟨rfl, hc2⟩ := hcut
  clear hc
  have hc := hc2
  clear hc2 K2
  go_upto_region 17 with (fail)
  go_cut [21] from 23 (fun b wx => b = .bool true ∧ Below w10.heap.size w10 wx)
  case first =>
    have hk := K3.out
    rcases hk with hk | hk
    · obtain ⟨rfl, rfl, hle⟩ := hk
      go_wp2_with (first | (go_guarded; refine wp_load_row 24 _ rfl q7 rfl 24 _ (0, 0) _ (HF.out _ hc).2.2.2.2.1 Try.underlying24 rfl (info_id _ (dig_length 20 p)) ?_; simp only [Act.put, List.setIfInBounds_toArray, List.set_cons_succ, List.set_cons_zero]) | (go_at_call 16; (with_reducible refine (h3.calls _).mono ?_); rintro e w20 ⟨rfl, hb20⟩) | (go_at_call 27; (with_reducible refine (HF.out _ (hc.trans (hb20.mono hc.size))).2.2.1.mono ?_); rintro e w21 ⟨rfl, hb21⟩) | (go_at_call 29; (with_reducible refine (HIS.out n3 hle _).mono ?_); rintro e i9 ⟨rfl, rfl⟩))
      go_meet
      exact ⟨rfl, hc.trans ((hb20.trans (hb21.mono hb20.size)).mono hc.size)⟩
    · obtain ⟨rfl, rfl, hlt⟩ := hk
      have hd : decide ((L.length : Int) < 20) = true := by simp; omega
      go_wp2_with (first | (go_at_call 27; (with_reducible refine (HF.out _ hc).2.2.1.mono ?_); rintro e w21 ⟨rfl, hb21⟩))
      go_meet
      exact ⟨rfl, hc.trans (hb21.mono hc.size)⟩
  case rest =>
  obtain ⟨rfl, hc3⟩ := hcut
  clear hc
  have hc := hc3
  clear hc3 K3
  go_upto_region 18 with (fail)
  go_cut [22] from 23 (fun b wx => b = .bool true ∧ Below w10.heap.size w10 wx)
  case first =>
    have hk := K4.out
    rcases hk with hk | hk
    · obtain ⟨rfl, rfl, hle⟩ := hk
      go_wp2_with (first | (go_at_call 27; (with_reducible refine (HF.out _ hc).2.2.2.1.mono ?_); rintro e w21 ⟨rfl, hb21⟩) | (go_at_call 29; (with_reducible refine (HIS.out n4 hle _).mono ?_); rintro e i9 ⟨rfl, rfl⟩))
      go_meet
      exact ⟨rfl, hc.trans (hb21.mono hc.size)⟩
    · obtain ⟨he, rfl, rfl, rfl⟩ := hk
      have hd : ((e4 : Int) != 0) = true := by rw [bne_iff_ne]; omega
      go_wp2_with (first | (go_at_call 27; (with_reducible refine (HF.out _ hc).2.2.2.1.mono ?_); rintro e w21 ⟨rfl, hb21⟩; have L9 := (HF.out _ (hc.trans (hb21.mono hc.size))).2.2.2.2.2) | (go_guarded; refine o_loadL _ rfl _ rfl _ _ (by first | with_reducible exact L9) ?_; simp only [Act.put, List.setIfInBounds_toArray, List.set_cons_succ, List.set_cons_zero]) | (go_guarded; refine o_eqlL _ _ rfl 0 0 0 0 rfl rfl (eqL_self _ _) ?_; simp only [Act.put, List.setIfInBounds_toArray, List.set_cons_succ, List.set_cons_zero]))
      go_meet
      exact ⟨rfl, hc.trans (hb21.mono hc.size)⟩
  case rest =>
  obtain ⟨rfl, hc4⟩ := hcut
  clear hc
  have hc := hc4
  clear hc4 K4
  go_wp2_with ((go_at_call 13; (with_reducible refine (h5.calls _).mono ?_); rintro e w30 ⟨rfl, hb30⟩))
  go_ret
  exact ⟨rfl, B0.trans ((hc.trans (hb30.mono hc.size)).mono B0.size)⟩

set_option maxRecDepth 100000 in
theorem let_go (s : ByteArray) (w : World) (hs : s.size ≤ 9223372036854775807) (h : 6000 < s.size) : Calls Try.prog 6 #[.string s] w fun e w' => e = .returned (.bool true) ∧ Below w.heap.size w w' := by
  go_enter Try.func6, Try.ntmps6
  go_wp2
  go_ret
  exact ⟨rfl, Below.refl _ _⟩
theorem nil_app (x : ByteArray) : (⟨#[]⟩ : ByteArray) ++ x = x := ByteArray.empty_append
theorem walk (s : ByteArray) (w : World) (ws : s.size ≤ 9223372036854775807) : Calls Try.prog 6 #[.string s] w fun e w' => e = .returned (.bool true) ∧ Below w.heap.size w w' := by
  by_cases hgo : 6000 < s.size
  · exact let_go s w ws hgo
  · have hL := bytesN_lt s
    have hlen := bytesN_length s
    have hs : txt (bytesN s) = s := txt_bytes s
    rw [← hs]
    have hr : ∀ w g h c', Rd w g h c' (txt (bytesN s)) 0 → rest (txt (bytesN s)) 0 = bytesN s := fun _ _ _ _ _ => by rw [hs]; rfl
    have hz : (txt (bytesN s)).size ≤ 1000000 := by rw [hs]; omega
    generalize bytesN s = L at *
    have rT : (rTxt L).1.length ≤ 4096 := by
      rcases rTxt_code L with h | ⟨_, h, _⟩ | ⟨_, h, _⟩
      · exact (rTxt_only hL h).2.2
      · rw [h]; simp
      · rw [h]; simp
    have rL : (rLab L).1 ≤ 64 ∧ (rLab L).2.1 < 18446744073709551616 ∧ lowB (rLab L).1 (rLab L).2.1 = true := by
      rcases rLab_code L with h | ⟨_, h1, h2, _⟩ | ⟨_, h1, h2, _⟩
      · exact (rLab_only hL h).2.2
      · rw [h1, h2]; decide
      · rw [h1, h2]; decide
    have rb : ∀ b ∈ (rTxt L).1, b < 256 := by
      intro b hb
      unfold rTxt at hb
      split at hb
      · cases hb
      split at hb
      · cases hb
      split at hb
      · cases hb
      · exact hL b (List.mem_of_mem_drop (List.mem_of_mem_take hb))
    refine core L (by omega) (rNum L).1 (rNum L).2.2 (rNum L).2.1 (txt (rTxt L).1) (rTxt L).2.2 (rTxt L).2.1 (rPl L).1 (rPl L).2.2 (rPl L).2.1 (rLab L).1 (rLab L).2.1 (rLab L).2.2.2 (rLab L).2.2.1 (txt (numN (rNum L).1)) (txt (txtN (rTxt L).1)) (txt (dig 20 (rPl L).1)) (txt (labN (rLab L).1 (rLab L).2.1)) w ?_ ?_ ?_ ?_ ?_ ?_ ?_ ?_ wired_all ?_ ?_ ?_ ?_
    · intro w g h c' R0
      have := mN_any R0 hz
      rwa [hr _ _ _ _ R0] at this
    · intro w g h c' R0
      have := mT_any R0 hz
      rwa [hr _ _ _ _ R0] at this
    · intro w g h c' R0
      have := mP_any R0 hz
      rwa [hr _ _ _ _ R0] at this
    · intro w g h c' R0
      have := mL_any R0 hz
      rwa [hr _ _ _ _ R0] at this
    · intro w
      have := putNumber_any ⟨#[]⟩ (rNum L).1 w (by decide) (rNum_lt hL).1
      rwa [nil_app] at this
    · intro w
      have := putText_short ⟨#[]⟩ (txt (rTxt L).1) w (by decide) (by rw [txt_size]; exact rT)
      rwa [nil_app, bytesN_txt _ rb] at this
    · intro w
      have := putPlace_any ⟨#[]⟩ (rPl L).1 w (by decide)
      rwa [nil_app] at this
    · intro w
      have := putLabel_yes ⟨#[]⟩ (rLab L).1 (rLab L).2.1 w (by decide) rL.1 rL.2.1 rL.2.2
      rwa [nil_app] at this
    · rcases rNum_code L with h | ⟨h, h1, h2⟩ | ⟨h, h1, h2⟩
      · have := rNum_only hL h
        exact .inl ⟨h, by rw [this.2.1], this.1⟩
      · exact .inr ⟨by omega, h1, h2⟩
      · exact .inr ⟨by omega, h1, h2⟩
    · rcases rTxt_code L with h | ⟨h, h1, h2⟩ | ⟨h, h1, h2⟩
      · have := rTxt_only hL h
        exact .inl ⟨h, by rw [this.2.1], this.1⟩
      · exact .inr ⟨by omega, by rw [h1]; rfl, h2⟩
      · exact .inr ⟨by omega, by rw [h1]; rfl, h2⟩
    · by_cases hf : L.length < 20
      · exact .inr ⟨by unfold rPl; rw [if_pos hf], by unfold rPl; rw [if_pos hf], hf⟩
      · have := rPl_only hL hf
        have e : rPl L = (valN (L.take 20), 20, 0) := by unfold rPl; rw [if_neg hf]
        rw [e]
        exact .inl ⟨rfl, congrArg txt this.1, by show 20 ≤ L.length; omega⟩
    · rcases rLab_code L with h | ⟨h, h1, h2, h3⟩ | ⟨h, h1, h2, h3⟩
      · have := rLab_only hL h
        exact .inl ⟨h, by rw [this.2.1], this.1⟩
      · exact .inr ⟨by omega, h1, h2, h3⟩
      · exact .inr ⟨by omega, h1, h2, h3⟩

set_option maxRecDepth 100000 in
theorem lifted (os : Os) (started : os.Started) (H : Type) (enc : TypeId × Value → H) :
    ReturnsInHanded {} Try.checked os 6 .any (Rows.wireOnlySpec.pre6 enc Try.prog Try.f6 Rows.wireOnlyRow.domain false) (Rows.wireOnlySpec.post enc Try.prog Try.f6 false true false false) := by
  refine returnsInHanded_of_change (C := Try.checked) own started (by kernel_rfl) Try.func6
    (ChangeSpec.witness6 (enc := enc) (C := Try.checked) false ⟨#[], #[.string ⟨#[]⟩], []⟩ 8 (by kernel_rfl) (by kernel_rfl) (by kernel_rfl) (by kernel_rfl)) ?_
  intro W base args ds gs before hval0 hW hcnd _
  have hval : ∀ (j : Nat) t v, Try.f6.params[j]? = some t → args[j]? = some v → Value.okWide Try.prog W .any base t v := hval0
  have hW' := hW
  obtain ⟨p, q, hA0, hV, rfl, hfz, hnd⟩ := hW
  have hA : DataW.TrodAll enc Try.prog W 0 (fun _ => true) true Try.f6.params.toList args.toList ds p := hA0
  rw [Try.params6] at hA hval
  obtain ⟨v0, vs0, d0, ds0, p0, q0, hargs, rfl, rfl, h0, r0⟩ := trodAll_cons hA
  obtain ⟨rfl, rfl, rfl⟩ := trodAll_nil r0
  obtain rfl : args = #[v0] := by cases args; simp_all
  obtain ⟨rfl, rfl⟩ := trodVars_none hV
  have k0 := h0
  have lt0 : ∀ x ∈ p0, x.block < W.heap.size := by obtain ⟨m, hm⟩ := k0; exact DataW.trod_lt m _ _ _ hm
  obtain ⟨n0, rfl, _, _, ws0⟩ := open_string Try.underlying9 (hval 0 9 v0 rfl rfl) h0
  clear hA0 hval0
  refine (walk n0 W ws0).mono fun e W' ⟨he, bel⟩ => ?_
  subst he
  exact ⟨_, rfl, _, _, _, [], _, [], hW', trodAll_mk1 (shut_bool Try.underlying4 _), (trodAll_cons_mk (Below.trod laidOut (by kernel_rfl) (of_decide_eq_true (by kernel_rfl)) k0 bel lt0) trodAll_mk0), rfl, bel.frame _, fun h => by cases h⟩

theorem proved : Rows.WireOnlySaid :=
  OpenClaim.holds_of_wide 6 Try.f6 rfl rfl rfl rfl rfl rfl rfl ⟨rfl, rfl, rfl, rfl, rfl⟩ rfl rfl rfl rfl rfl (by kernel_rfl) Try.func6 (by kernel_rfl)
    (of_decide_eq_true (by kernel_rfl)) (by unfold Func.isWrapper; first | (rw [if_pos (by decide +kernel)]; kernel_rfl) | (rw [if_neg (by decide +kernel)]; exact ⟨rfl, rfl⟩))
    (fun os started H enc _ => lifted os started H enc)

end Go.Proofs.Ytgfcdkihahfnkaa.OnlyLaw
