/- ShaApart: for every text and number the call returns true: two texts that differ in one byte have other padded bytes, as many; of one text there is but one sum. No condition. -/
import Derived.Test.YtcmaneddhjlbdaaPadsLaw
import Derived.RegionTactic
import Derived.ChangeAlike
namespace Go.Proofs.Ytcmaneddhjlbdaa.ApartLaw
open Go.ChangeShapes Go.WideShapes Go.ChangeAt Go.RowKit Go.Sort
open Go.ChangeMaps (open_string shut_string)
open PadsLaw (run_cut0 pad_begin)

theorem run_cutN {P : Program} {T : TypeId} (hT : P.underlying T = some .string) (s : ByteArray) (lo : Int) (a : Nat) (ha : lo = (a : Int)) (has : a ≤ s.size) (w : World) :
    (Instr.slice T (.string s) (some (.int .i64 lo)) none none).run P w = .ok (.string (s.extract a s.size)) w := by
  subst ha
  have h1 : (0 : Int) ≤ (a : Int) ∧ (a : Int) ≤ (s.size : Int) := by omega
  simp [Instr.slice, run_underlying hT, Instr.sliceBounds, Instr.sliceBound, asIntOf, h1, has]

/-- a text with another byte at n -/
def turned (s : ByteArray) (n x : Nat) : ByteArray := s.extract 0 n ++ txt [x] ++ s.extract (n + 1) s.size
theorem turned_size (s : ByteArray) (n x : Nat) (h : n < s.size) : (turned s n x).size = s.size := by
  unfold turned
  rw [ByteArray.size_append, ByteArray.size_append, ByteArray.size_extract, ByteArray.size_extract, txt_size]
  simp
  omega

theorem turned_at (s : ByteArray) (n x : Nat) (h : n < s.size) : (turned s n x).data.toList[n]? = some (UInt8.ofNat x) := by
  unfold turned
  rw [ByteArray.data_append, ByteArray.data_append, Array.toList_append, Array.toList_append, ByteArray.data_extract]
  have e : s.data.size = s.size := rfl
  have h1 : (s.data.extract 0 n).toList.length = n := by simp; omega
  rw [List.append_assoc, List.getElem?_append_right (by omega), h1, Nat.sub_self]
  simp [txt]
theorem turned_ne (s : ByteArray) (n x : Nat) (h : n < s.size) (hx : x < 256) (hne : x ≠ (s[n]'h).toNat) : padB s ≠ padB (turned s n x) := by
  intro e
  have h1 := pad_begin s
  have h2 := pad_begin (turned s n x)
  rw [turned_size s n x h, ← e, h1] at h2
  have h3 := turned_at s n x h
  rw [← h2] at h3
  have h4 : s.data.toList[n]? = some (s[n]'h) := by
    rw [Array.getElem?_toList, Array.getElem?_eq_getElem h]; rfl
  rw [h4] at h3
  injection h3 with h3
  apply hne
  rw [h3]
  simp
  omega
theorem toList_beq {a b : ByteArray} (h : a ≠ b) : (a.toList == b.toList) = false := by
  rw [beq_eq_false_iff_ne]
  intro e
  apply h
  apply Go.WideShapes.bytes_inj
  rwa [ByteArray.toList_eq, ByteArray.toList_eq] at e
theorem xor_one (a : Nat) (h : a < 256) : ∃ x : Nat, bits .xor .u8 (a : Int) 1 = (x : Int) ∧ x < 256 ∧ x ≠ a := by
  refine ⟨a ^^^ 1, u8_xor_nat a 1 h (by omega), Nat.xor_lt_two_pow (n := 8) h (by omega), fun e => ?_⟩
  have h1 : a ^^^ (a ^^^ 1) = a ^^^ a := by rw [e]
  rw [← Nat.xor_assoc, Nat.xor_self, Nat.zero_xor] at h1
  omega
theorem outside (s : ByteArray) (n : Int) (w : World) (h : 300 < s.size ∨ n < 0 ∨ (s.size : Int) ≤ n) (hs : s.size ≤ 9223372036854775807) : Calls Try.prog 7 #[.string s, .int .i64 n] w fun e w' => e = .returned (.bool true) ∧ Below w.heap.size w w' := by
  have HKN := Lib.hid known_all
  rcases (by omega : 300 < s.size ∨ (s.size ≤ 300 ∧ n < 0) ∨ (s.size ≤ 300 ∧ 0 ≤ n ∧ (s.size : Int) ≤ n)) with h | ⟨h1, h⟩ | ⟨h1, h2, h⟩
  · have hd : decide ((300 : Int) < s.size) = true := by simp; omega
    go_enter Try.func7, Try.ntmps7
    go_wp2_with (go_at_call 16; with_reducible refine (HKN.out _).mono ?_; rintro e w2 ⟨rfl, hb⟩)
    go_ret
    exact ⟨rfl, hb⟩
  · have hd : decide ((300 : Int) < s.size) = false := by simp; omega
    have hd2 : decide (n < 0) = true := by simp; omega
    go_enter Try.func7, Try.ntmps7
    go_wp2_with (go_at_call 16; with_reducible refine (HKN.out _).mono ?_; rintro e w2 ⟨rfl, hb⟩)
    go_ret
    exact ⟨rfl, hb⟩
  · have hd : decide ((300 : Int) < s.size) = false := by simp; omega
    have hd2 : decide (n < 0) = false := by simp; omega
    have hd3 : decide ((s.size : Int) ≤ n) = true := by simpa using h
    go_enter Try.func7, Try.ntmps7
    go_wp2_with (go_at_call 16; with_reducible refine (HKN.out _).mono ?_; rintro e w2 ⟨rfl, hb⟩)
    go_ret
    exact ⟨rfl, hb⟩

set_option maxRecDepth 100000 in
set_option maxHeartbeats 1000000 in
theorem inside (s : ByteArray) (n : Nat) (w : World) (h : s.size ≤ 300) (hn : n < s.size) : Calls Try.prog 7 #[.string s, .int .i64 (n : Int)] w fun e w' => e = .returned (.bool true) ∧ Below w.heap.size w w' := by
  have HKN := Lib.hid known_all
  have hd : decide ((300 : Int) < s.size) = false := by simp; omega
  have hd2 : decide ((n : Int) < 0) = false := by simp
  have hd3 : decide ((s.size : Int) ≤ n) = false := by simp; omega
  go_enter Try.func7, Try.ntmps7
  go_wp2
  have g1 : IntKind.i64.wrap ((n : Int) + 1) = (n : Int) + 1 := IntWalk.i64_in _ (by omega)
  have hc1 := run_cut0 (P := Try.prog) Try.underlying9 s (n : Int) n rfl (by omega)
  have hc2 := run_cutN (P := Try.prog) Try.underlying9 s ((n : Int) + 1) (n + 1) (by omega) (by omega)
  have b1 : (0 : Int) ≤ (n : Int) ∧ (n : Int) < s.size := by omega
  obtain ⟨x, hx, hx1, hx2⟩ := xor_one (s[n]'hn).toNat (UInt8.toNat_lt _)
  have hcv := run_text_blk (P := Try.prog) (w.alloc (.cells (row [x]) 5)).drew 44 5 9 Try.underlying44 Try.underlying5 Try.underlying9 w.heap.size 1 1 _ 5 rfl (Blk.new _ _ _).drew
  rw [show row [x] = #[.int .u8 (x : Int)] from rfl, ← hx] at hcv
  have hz1 : (s.extract 0 n).size = n := by rw [ByteArray.size_extract]; omega
  have hz2 := txt_size [x]
  have hz12 : (s.extract 0 n ++ txt [x]).size = n + 1 := by rw [ByteArray.size_append, hz1, hz2]; rfl
  have hz3 : (s.extract (n + 1) s.size).size = s.size - (n + 1) := by rw [ByteArray.size_extract]; omega
  have HX := Lib.hid hx
  clear hx
  go_region
  rw [show s.extract 0 n ++ txt [x] ++ s.extract (n + 1) s.size = turned s n x from rfl]
  have hne := turned_ne s n x hn hx1 hx2
  have htz := turned_size s n x hn
  have B0 : Below w.heap.size w (w.alloc (.cells #[.int .u8 (bits .xor .u8 ((s[n]'hn).toNat : Int) 1)] 5)).drew := ((Below.refl _ _).alloc (Nat.le_refl _) _).drew
  have HP1 := Lib.hid (fun w => pad_short s w (by omega))
  have HP2 := Lib.hid (fun w => pad_short (turned s n x) w (by omega))
  have HS := Lib.hid (fun w => sum_short s w (by omega))
  have za := padB_size s
  have zb := padB_size (turned s n x)
  rw [htz] at zb
  have q1 := toList_beq hne
  clear hcv hz1 hz2 hz12 hz3 g1 hc1 hc2 hd hd2 hd3 HX hne
  generalize (w.alloc _).drew = W0 at *
  generalize turned s n x = t at *
  generalize padB s = pa at *
  generalize padB t = pb at *
  generalize sumN s = N at *
  have HZ := Lib.hid htz
  have HZA := Lib.hid za
  have HZB := Lib.hid zb
  clear htz za zb
  go_wp2_with fail
  with_reducible refine (HP1.out _).mono ?_
  rintro e w1 ⟨rfl, hb⟩
  have B1 := B0.trans (hb.mono B0.size)
  clear hb B0
  go_wp2_with fail
  with_reducible refine (HP2.out _).mono ?_
  rintro e w2 ⟨rfl, hb⟩
  have B2 := B1.trans (hb.mono B1.size)
  clear hb B1
  go_upto_region 7 with (first | (go_at_call 14; with_reducible refine (HS.out _).mono ?_; rintro e w3 ⟨rfl, hb⟩) | (refine wpList_store_new rfl rfl _ _ rfl _ rfl rfl ?_))
  have B3 := B2.trans ((hb.mono B2.size).trans ((Below.refl w.heap.size w3).alloc (Nat.le_trans B2.size hb.size) (.cells (row (dig 20 N)) 34)))
  have A1 := At.new w3 N
  clear hb B2
  generalize w3.heap.size = g3 at *
  generalize w3.alloc _ = W3 at *
  go_upto_region 8 with (first | (go_at_call 14; with_reducible refine (HS.out _).mono ?_; rintro e w4 ⟨rfl, hb⟩) | (refine wpList_store_new rfl rfl _ _ rfl _ rfl rfl ?_))
  have B4 := B3.trans ((hb.mono B3.size).trans ((Below.refl w.heap.size w4).alloc (Nat.le_trans B3.size hb.size) (.cells (row (dig 20 N)) 34)))
  replace A1 := (A1.below hb).alloc (.cells (row (dig 20 N)) 34)
  have A2 := At.new w4 N
  clear hb B3
  generalize w4.heap.size = g4 at *
  generalize w4.alloc _ = W4 at *
  have za := HZA.out
  have zb := HZB.out
  go_wp2_with (first | (go_at_call 16; with_reducible refine (HKN.out _).mono ?_; rintro e w5 ⟨rfl, hb⟩; replace A1 := A1.below hb; replace A2 := A2.below hb; replace B4 := B4.trans (hb.mono B4.size); clear hb) | (go_guarded; refine o_load _ rfl _ rfl _ (by first | with_reducible exact A1 | with_reducible exact A2) ?_; simp only [Act.put, List.setIfInBounds_toArray, List.set_cons_succ, List.set_cons_zero]) | (go_guarded; refine o_eql _ _ rfl _ _ rfl rfl (eqB_self _) ?_; simp only [Act.put, List.setIfInBounds_toArray, List.set_cons_succ, List.set_cons_zero]))
  go_ret
  exact ⟨rfl, B4⟩

theorem walk (s : ByteArray) (n : Int) (w : World) (hs : s.size ≤ 9223372036854775807) : Calls Try.prog 7 #[.string s, .int .i64 n] w fun e w' => e = .returned (.bool true) ∧ Below w.heap.size w w' := by
  by_cases h : 300 < s.size ∨ n < 0 ∨ (s.size : Int) ≤ n
  · exact outside s n w h hs
  · obtain ⟨m, rfl⟩ := Int.eq_ofNat_of_zero_le (show 0 ≤ n by omega)
    exact inside s m w (by omega) (by omega)

set_option maxRecDepth 100000 in
theorem lifted (os : Os) (started : os.Started) (H : Type) (enc : TypeId × Value → H) :
    ReturnsInHanded {} Try.checked os 7 .any (Rows.shaApartSpec.pre6 enc Try.prog Try.f7 Rows.shaApartRow.domain false) (Rows.shaApartSpec.post enc Try.prog Try.f7 false true false false) := by
  refine returnsInHanded_of_change (C := Try.checked) own started (by kernel_rfl) Try.func7
    (ChangeSpec.witness6 (enc := enc) (C := Try.checked) false ⟨#[], #[.string ⟨#[]⟩, .int .i64 0], []⟩ 8 (by kernel_rfl) (by kernel_rfl) (by kernel_rfl) (by kernel_rfl)) ?_
  intro W base args ds gs before hval0 hW hcnd _
  have hval : ∀ (j : Nat) t v, Try.f7.params[j]? = some t → args[j]? = some v → Value.okWide Try.prog W .any base t v := hval0
  have hW' := hW
  obtain ⟨p, q, hA0, hV, rfl, hfz, hnd⟩ := hW
  have hA : DataW.TrodAll enc Try.prog W 0 (fun _ => true) true Try.f7.params.toList args.toList ds p := hA0
  rw [Try.params7] at hA hval
  obtain ⟨v0, vs0, d0, ds0, p0, q0, hargs, rfl, rfl, h0, r0⟩ := trodAll_cons hA
  obtain ⟨v1, vs1, d1, ds1, p1, q1, rfl, rfl, rfl, h1, r1⟩ := trodAll_cons r0
  obtain ⟨rfl, rfl, rfl⟩ := trodAll_nil r1
  obtain rfl : args = #[v0, v1] := by cases args; simp_all
  obtain ⟨rfl, rfl⟩ := trodVars_none hV
  have k0 := h0
  have lt0 : ∀ x ∈ p0, x.block < W.heap.size := by obtain ⟨m, hm⟩ := k0; exact DataW.trod_lt m _ _ _ hm
  obtain ⟨n0, rfl, _, _, ws0⟩ := open_string Try.underlying9 (hval 0 9 v0 rfl rfl) h0
  have k1 := h1
  have lt1 : ∀ x ∈ p1, x.block < W.heap.size := by obtain ⟨m, hm⟩ := k1; exact DataW.trod_lt m _ _ _ hm
  obtain ⟨n1, rfl, _, _, wf1⟩ := open_int Try.underlying3 (hval 1 3 v1 rfl rfl) h1
  clear hA0 hval0
  refine (walk n0 n1 W ws0).mono fun e W' ⟨he, bel⟩ => ?_
  subst he
  exact ⟨_, rfl, _, _, _, [], _, [], hW', trodAll_mk1 (shut_bool Try.underlying4 _), (trodAll_cons_mk (Below.trod laidOut (by kernel_rfl) (of_decide_eq_true (by kernel_rfl)) k0 bel lt0) (trodAll_cons_mk (Below.trod laidOut (by kernel_rfl) (of_decide_eq_true (by kernel_rfl)) k1 bel lt1) trodAll_mk0)), rfl, bel.frame _, fun h => by cases h⟩

theorem proved : Rows.ShaApartSaid :=
  OpenClaim.holds_of_wide 7 Try.f7 rfl rfl rfl rfl rfl rfl rfl ⟨rfl, rfl, rfl, rfl, rfl⟩ rfl rfl rfl rfl rfl (by kernel_rfl) Try.func7 (by kernel_rfl)
    (of_decide_eq_true (by kernel_rfl)) (by unfold Func.isWrapper; first | (rw [if_pos (by decide +kernel)]; kernel_rfl) | (rw [if_neg (by decide +kernel)]; exact ⟨rfl, rfl⟩))
    (fun os started H enc _ => lifted os started H enc)
end Go.Proofs.Ytcmaneddhjlbdaa.ApartLaw
