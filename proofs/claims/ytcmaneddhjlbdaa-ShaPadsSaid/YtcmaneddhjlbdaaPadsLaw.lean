/- ShaPads: for every text the call returns true: what is padded begins with the text, has whole blocks, no more than one more than the text fills, and ends with how many bits there are. No condition. -/
import Derived.Test.YtcmaneddhjlbdaaShaKnown
import Derived.Test.YtcmaneddhjlbdaaOwn
namespace Go.Proofs.Ytcmaneddhjlbdaa.PadsLaw
open Go.ChangeShapes Go.WideShapes Go.ChangeAt Go.RowKit Go.Sort
open Go.ChangeMaps (open_string shut_string)

theorem pad_get (s : ByteArray) (i : Nat) (h : i < (padB s).size) : ((padB s)[i]'h).toNat = pf s 8 i := by
  have e := txt_get (padN s) i h (fun x hx => by
    simp only [padN, tab, List.mem_map] at hx
    obtain ⟨j, _, rfl⟩ := hx
    exact pf_lt s 8 j)
  have e2 : (padN s)[i]'(by rw [padB_size] at h; rw [padN_length]; exact h) = pf s 8 i := by simp [padN, tab]
  rw [← e2, ← e]
  rfl
theorem pad_begin (s : ByteArray) : (padB s).extract 0 s.size = s := by
  have h1 := padLen_ge s.size
  apply ByteArray.ext
  rw [ByteArray.data_extract]
  apply Array.ext
  · rw [Array.size_extract]
    have := padB_size s
    have e : (padB s).data.size = padLen s.size := this
    rw [e]
    show min s.size (padLen s.size) - 0 = s.data.size
    have e2 : s.data.size = s.size := rfl
    omega
  · intro i hi1 hi2
    have hi : i < s.size := hi2
    have hp : i < (padB s).size := by rw [padB_size]; omega
    have e := pad_get s i hp
    rw [pf, if_pos hi] at e
    have e2 : byteAt s i = (s.data[i]).toNat := by
      unfold byteAt
      simp [Array.getD, hi]
    rw [e2] at e
    rw [Array.getElem_extract]
    apply UInt8.toNat_inj.1
    simp only [Nat.zero_add]
    exact e
theorem long (s : ByteArray) (w : World) (h : 2000 < s.size) (hs : s.size ≤ 9223372036854775807) : Calls Try.prog 4 #[.string s] w fun e w' => e = .returned (.bool true) ∧ Below w.heap.size w w' := by
  go_enter Try.func4, Try.ntmps4
  go_wp2
  go_ret
  exact ⟨rfl, Below.refl _ _⟩

theorem run_cut0 {P : Program} {T : TypeId} (hT : P.underlying T = some .string) (s : ByteArray) (hi : Int) (b : Nat) (hb : hi = (b : Int)) (hbs : b ≤ s.size) (w : World) :
    (Instr.slice T (.string s) none (some (.int .i64 hi)) none).run P w = .ok (.string (s.extract 0 b)) w := by
  subst hb
  have h1 : (0 : Int) ≤ (b : Int) ∧ (b : Int) ≤ (s.size : Int) := by omega
  simp [Instr.slice, run_underlying hT, Instr.sliceBounds, Instr.sliceBound, asIntOf, h1, hbs]

/-- the count, byte by byte -/
theorem count_step (n j : Nat) (hj : j < 8) : 256 * (8 * n / 256 ^ (8 - j)) + digit (8 * n) (7 - j) = 8 * n / 256 ^ (7 - j) := by
  unfold digit
  rw [show 8 - j = (7 - j) + 1 by omega, Nat.pow_succ, ← Nat.div_div_eq_div_mul]
  generalize 8 * n / 256 ^ (7 - j) = x
  omega

set_option maxHeartbeats 1000000 in
theorem short (s : ByteArray) (w : World) (h : s.size ≤ 2000) : Calls Try.prog 4 #[.string s] w fun e w' => e = .returned (.bool true) ∧ Below w.heap.size w w' := by
  have HKN := Lib.hid known_all
  have hge := padLen_ge s.size
  have hle := padLen_le s.size
  have hmd := padLen_mod s.size
  have hp := padB_size s
  have HG := Lib.hid (pad_get s)
  have hbeg := pad_begin s
  have HP := Lib.hid (fun w => pad_short s w (by omega))
  have hp128 : ((((padB s)[s.size]'(by rw [hp]; omega)).toNat : Int) != 128) = false := by
    rw [bne_eq_false_iff_eq, HG.out, pf, if_neg (by omega), if_pos rfl]; rfl
  have hcut := run_cut0 (P := Try.prog) Try.underlying9 (padB s) (s.size : Int) s.size rfl (by omega)
  rw [hbeg] at hcut
  clear hbeg
  have hs : s.size < (padB s).size := by omega
  generalize padB s = p at *
  have hm0 : ((padLen s.size : Int) % 64 != 0) = false := by rw [bne_eq_false_iff_eq]; omega
  go_enter Try.func4, Try.ntmps4
  go_upto_region 4 with (go_at_call 8; with_reducible refine (HP.out _).mono ?_; rintro e w1 ⟨rfl, hb⟩)
  have HB := Lib.hid hb
  clear hb
  go_wp2
  clear hcut hp128 hm0
  go_loop [5] (fun i => ∃ k : Nat, s.size + 1 ≤ k ∧ k ≤ padLen s.size - 8 ∧ i = .int .i64 k) (fun i => padLen s.size - 8 - (intOf i).toNat)
  case atStart => exact ⟨s.size + 1, by omega, by omega, rfl⟩
  case round =>
    obtain ⟨k, hk0, hk, rfl⟩ := hrel
    by_cases hlt : k < padLen s.size - 8
    · have hkp : k < p.size := by omega
      have ht : (((p[k]'hkp).toNat : Int) != 0) = false := by
        rw [bne_eq_false_iff_eq, HG.out, pf, if_neg (by omega), if_neg (by omega), if_neg (by omega)]; rfl
      go_wp2
      exact ⟨⟨k + 1, by omega, by omega, by go_num⟩, by simp [intOf]; omega⟩
    · obtain rfl : k = padLen s.size - 8 := by omega
      go_wp2
      go_loop [6, 7] (fun b i => ∃ j : Nat, j ≤ 8 ∧ i = .int .i64 ((padLen s.size - 8 + j : Nat) : Int) ∧ b = .int .i64 ((8 * s.size / 256 ^ (8 - j) : Nat) : Int)) (fun _ i => padLen s.size - (intOf i).toNat)
      case atStart => exact ⟨0, by omega, by refine congrArg (Value.int .i64) ?_; omega, by rw [Nat.div_eq_of_lt (Nat.lt_of_lt_of_le (show 8 * s.size < 256 ^ 2 by omega) (Nat.pow_le_pow_right (by omega) (by omega)))]; rfl⟩
      case round =>
        obtain ⟨j, hj, rfl, rfl⟩ := hrel
        by_cases hl2 : j < 8
        · have hkp : padLen s.size - 8 + j < p.size := by omega
          have HT : Hid ((p[padLen s.size - 8 + j]'hkp).toNat = digit (8 * s.size) (7 - j)) := by
            unfold Hid
            rw [HG.out, pf, if_neg (by omega), if_neg (by omega), if_pos (by omega)]
            congr 1
            omega
          have HC := Lib.hid (count_step s.size j hl2)
          have hb1 : 8 * s.size / 256 ^ (8 - j) ≤ 8 * s.size := Nat.div_le_self _ _
          have hb2 : (p[padLen s.size - 8 + j]'hkp).toNat < 256 := UInt8.toNat_lt _
          generalize 8 * s.size / 256 ^ (8 - j) = y at *
          go_wp2
          refine ⟨⟨j + 1, by omega, by refine congrArg (Value.int .i64) ?_; omega, ?_⟩, by simp [intOf]; omega⟩
          refine congrArg (Value.int .i64) ?_
          rw [show 8 - (j + 1) = 7 - j by omega, ← HC.out, ← HT.out]
          omega
        · obtain rfl : j = 8 := by omega
          rw [Nat.sub_self, Nat.pow_zero, Nat.div_one]
          have ht : (((8 * s.size : Nat) : Int) == 8 * (s.size : Int)) = true := by rw [beq_iff_eq]; omega
          have ht2 : (8 * (s.size : Int) == 8 * (s.size : Int)) = true := by rw [beq_iff_eq]
          go_wp2_with (go_at_call 16; with_reducible refine (HKN.out _).mono ?_; rintro e w2 ⟨rfl, hb⟩)
          go_ret
          exact ⟨rfl, HB.out.trans (hb.mono HB.out.size)⟩

theorem walk (s : ByteArray) (w : World) (hs : s.size ≤ 9223372036854775807) : Calls Try.prog 4 #[.string s] w fun e w' => e = .returned (.bool true) ∧ Below w.heap.size w w' := by
  rcases Nat.lt_or_ge 2000 s.size with h | h
  · exact long s w h hs
  · exact short s w h

set_option maxRecDepth 100000 in
theorem lifted (os : Os) (started : os.Started) (H : Type) (enc : TypeId × Value → H) :
    ReturnsInHanded {} Try.checked os 4 .any (Rows.shaPadsSpec.pre6 enc Try.prog Try.f4 Rows.shaPadsRow.domain false) (Rows.shaPadsSpec.post enc Try.prog Try.f4 false true false false) := by
  refine returnsInHanded_of_change (C := Try.checked) own started (by kernel_rfl) Try.func4
    (ChangeSpec.witness6 (enc := enc) (C := Try.checked) false ⟨#[], #[.string ⟨#[]⟩], []⟩ 8 (by kernel_rfl) (by kernel_rfl) (by kernel_rfl) (by kernel_rfl)) ?_
  intro W base args ds gs before hval0 hW hcnd _
  have hval : ∀ (j : Nat) t v, Try.f4.params[j]? = some t → args[j]? = some v → Value.okWide Try.prog W .any base t v := hval0
  have hW' := hW
  obtain ⟨p, q, hA0, hV, rfl, hfz, hnd⟩ := hW
  have hA : DataW.TrodAll enc Try.prog W 0 (fun _ => true) true Try.f4.params.toList args.toList ds p := hA0
  rw [Try.params4] at hA hval
  obtain ⟨v0, vs0, d0, ds0, p0, q0, hargs, rfl, rfl, h0, r0⟩ := trodAll_cons hA
  obtain ⟨rfl, rfl, rfl⟩ := trodAll_nil r0
  obtain rfl : args = #[v0] := by cases args; simp_all
  obtain ⟨rfl, rfl⟩ := trodVars_none hV
  have k0 := h0
  have lt0 : ∀ x ∈ p0, x.block < W.heap.size := by obtain ⟨m, hm⟩ := k0; exact DataW.trod_lt m _ _ _ hm
  obtain ⟨n0, rfl, _, _, ws0⟩ := open_string Try.underlying9 (hval 0 9 v0 rfl rfl) h0
  clear hA0 hval0
  refine (walk n0 W ws0).mono fun e W' ⟨he, bel⟩ => ?_
  subst he
  exact ⟨_, rfl, _, _, _, [], _, [], hW', trodAll_mk1 (shut_bool Try.underlying4 _), (trodAll_cons_mk (Below.trod laidOut (by kernel_rfl) (of_decide_eq_true (by kernel_rfl)) k0 bel lt0) trodAll_mk0), rfl, bel.frame _, fun h => by cases h⟩

theorem proved : Rows.ShaPadsSaid :=
  OpenClaim.holds_of_wide 4 Try.f4 rfl rfl rfl rfl rfl rfl rfl ⟨rfl, rfl, rfl, rfl, rfl⟩ rfl rfl rfl rfl rfl (by kernel_rfl) Try.func4 (by kernel_rfl)
    (of_decide_eq_true (by kernel_rfl)) (by unfold Func.isWrapper; first | (rw [if_pos (by decide +kernel)]; kernel_rfl) | (rw [if_neg (by decide +kernel)]; exact ⟨rfl, rfl⟩))
    (fun os started H enc _ => lifted os started H enc)
end Go.Proofs.Ytcmaneddhjlbdaa.PadsLaw
