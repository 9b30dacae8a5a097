/- ShaWords: for every text the call returns true: what is no block has no words; the words of a block begin with its bytes, and each other one, turned back, is the four ones that make it. No condition. -/
import Derived.Test.YtcmaneddhjlbdaaShaKnown
import Derived.Test.YtcmaneddhjlbdaaOwn
namespace Go.Proofs.Ytcmaneddhjlbdaa.WordsLaw
open Go.ChangeShapes Go.WideShapes Go.ChangeAt Go.RowKit Go.Sort
open Go.ChangeMaps (open_string shut_string)

theorem no (s : ByteArray) (w : World) (h : s.size ≠ 64) : Calls Try.prog 6 #[.string s] w fun e w' => e = .returned (.bool true) ∧ Below w.heap.size w w' := by
  have h' : ((s.size : Int) != 64) = true := by rw [bne_iff_ne]; omega
  have HK := Lib.hid known_all
  go_enter Try.func6, Try.ntmps6
  go_wp2_with (first | (go_at_call 10; with_reducible refine (words_no s _ h).mono ?_; rintro e w' ⟨rfl, rfl⟩) | (go_at_call 16; with_reducible refine (HK.out _).mono ?_; rintro e w1 ⟨rfl, hb⟩))
  go_ret
  exact ⟨rfl, hb⟩

theorem word_byte (s : ByteArray) (k : Nat) (h : k < 64) : wd s (k / 4) / 2 ^ (24 - 8 * (k % 4)) % 256 = byteAt s k := by
  rw [wd_low s (k / 4) (by omega)]
  obtain ⟨q, r, hr, rfl⟩ : ∃ q r, r < 4 ∧ k = 4 * q + r := ⟨k / 4, k % 4, by omega, by omega⟩
  rw [show (4 * q + r) / 4 = q by omega, show (4 * q + r) % 4 = r by omega]
  simp only [beN]
  have h0 := byteAt_lt s (4 * q + 0)
  have h1 := byteAt_lt s (4 * q + 1)
  have h2 := byteAt_lt s (4 * q + 2)
  have h3 := byteAt_lt s (4 * q + 3)
  rcases (by omega : r = 0 ∨ r = 1 ∨ r = 2 ∨ r = 3) with rfl | rfl | rfl | rfl
  · rw [show (2 : Nat) ^ (24 - 8 * 0) = 16777216 from rfl]; omega
  · rw [show (2 : Nat) ^ (24 - 8 * 1) = 65536 from rfl]; omega
  · rw [show (2 : Nat) ^ (24 - 8 * 2) = 256 from rfl]; omega
  · rw [show (2 : Nat) ^ (24 - 8 * 3) = 1 from rfl]; omega
theorem byteAt_get (s : ByteArray) (k : Nat) (h : k < s.size) : byteAt s k = (s[k]'h).toNat := by
  unfold byteAt
  simp [Array.getD, h]
  rfl
theorem word_test (s : ByteArray) (k x : Nat) (h : k < 64) (hs : k < s.size) (hx : wd s (k / 4) = x) : ((x : Int) / 2 ^ (24 - 8 * (k % 4)) % 256 != ((s[k]'hs).toNat : Int)) = false := by
  rw [bne_eq_false_iff_eq, ← byteAt_get, ← word_byte s k h, hx, Int.natCast_emod, Int.natCast_ediv, Int.natCast_pow]
  rfl
/-- a number that was turned to the left by one, turned back -/
theorem turn_back (y : Nat) (h : y < 4294967296) : bits .or .u32 (((rotl y 1 : Nat) : Int) / 2) (((rotl y 1 : Nat) : Int) * 2147483648 % 4294967296) = (y : Int) := by
  rw [rotl_one]
  unfold left1
  rw [show (((2 * (y % 2147483648) + y / 2147483648 : Nat) : Int) / 2) = ((y % 2147483648 : Nat) : Int) by omega, show (((2 * (y % 2147483648) + y / 2147483648 : Nat) : Int) * 2147483648 % 4294967296) = ((y / 2147483648 * 2147483648 : Nat) : Int) by omega,
    u32_or_nat _ _ (by omega) (by omega), Nat.or_comm, nat_join 31 _ _ (by omega) (by omega)]
  omega

/-- the memory of the statement -/
structure MemL (w wr : World) (g : Nat) (s : ByteArray) : Prop where
  below : Below w.heap.size w wr
  words : ∀ t, t < 80 → wr.cell? ⟨g, t, none⟩ = some (.int .u32 (wd s t : Nat))
theorem MemL.drew {w wr : World} {g : Nat} {s : ByteArray} (k : MemL w wr g s) : MemL w wr.drew g s := ⟨k.below.drew, k.words⟩
theorem MemL.drewN {w wr : World} {g : Nat} {s : ByteArray} (k : MemL w wr g s) (n : Nat) : MemL w (wr.drewN n) g s := ⟨bel_drewN k.below n, fun t ht => by simpa using k.words t ht⟩

set_option maxHeartbeats 1000000 in
theorem yes (s : ByteArray) (w : World) (h : s.size = 64) : Calls Try.prog 6 #[.string s] w fun e w' => e = .returned (.bool true) ∧ Below w.heap.size w w' := by
  have h' : ((s.size : Int) != 64) = false := by rw [bne_eq_false_iff_eq]; omega
  have hs64 : 64 ≤ s.size := by omega
  have HKN := Lib.hid known_all
  have H := Lib.hid h
  clear h
  go_enter Try.func6, Try.ntmps6
  go_upto_region 2 with (go_at_call 10; refine (words_yes s _ H.out).mono ?_; rintro e w1 ⟨g, cap, rfl, hg, hwd, hb⟩)
  have HK : Hid (MemL w w1 g s) := ⟨hb, hwd⟩
  clear hb hwd
  go_wp2
  go_loopw [5] (fun i wr => ∃ k : Nat, k ≤ 64 ∧ i = .int .i64 k ∧ MemL w wr g s) (fun i _ => 64 - (intOf i).toNat)
  case atStart => exact ⟨0, by omega, rfl, HK.out⟩
  case round =>
    clear HK
    obtain ⟨k, hk, rfl, K⟩ := hrel
    have HK := Lib.hid K
    clear K
    by_cases hlt : k < 64
    · have hks : k < s.size := by omega
      go_wp2
      have cw := HK.out.words (k / 4) (by omega)
      have lw := wd_lt s (k / 4)
      have ht := word_test s k _ hlt hks rfl
      generalize wd s (k / 4) = x at *
      have b1 : (0 : Int) ≤ (k : Int) / 4 ∧ (k : Int) / 4 < 80 := by omega
      have b2 : (0 : Int) ≤ (k : Int) ∧ (k : Int) < s.size := by omega
      go_quiet (fail)
      clear cw
      replace HK := Lib.hid (HK.out.drewN nq)
      generalize wr.drewN nq = W2 at *
      go_wp2
      exact ⟨⟨k + 1, by omega, by go_num, HK.out⟩, by simp [intOf]; omega⟩
    · obtain rfl : k = 64 := by omega
      rw [show ((64 : Nat) : Int) = 64 from rfl]
      go_wp2
      go_loopw [6, 7] (fun i _ wr => ∃ k : Nat, 16 ≤ k ∧ k ≤ 80 ∧ i = .int .i64 k ∧ MemL w wr g s) (fun i _ _ => 80 - (intOf i).toNat)
      case atStart => exact ⟨16, by omega, by omega, rfl, HK.out⟩
      case round =>
        clear HK
        obtain ⟨k, hk0, hk, rfl, K⟩ := hrel
        have HK := Lib.hid K
        clear K
        by_cases hlt : k < 80
        · have cw := HK.out.words k hlt
          have HD := Lib.hid (wd_high s k hk0 hlt)
          generalize wd s k = v at *
          go_wp2
          have c3 := HK.out.words (k - 3) (by omega)
          have c8 := HK.out.words (k - 8) (by omega)
          have c14 := HK.out.words (k - 14) (by omega)
          have c16 := HK.out.words (k - 16) (by omega)
          have l3 := wd_lt s (k - 3)
          have l8 := wd_lt s (k - 8)
          have l14 := wd_lt s (k - 14)
          have l16 := wd_lt s (k - 16)
          generalize wd s (k - 3) = x3 at *
          generalize wd s (k - 8) = x8 at *
          generalize wd s (k - 14) = x14 at *
          generalize wd s (k - 16) = x16 at *
          have hy := xor_lt (xor_lt (xor_lt l3 l8) l14) l16
          have ht : (bits .or .u32 ((v : Int) / 2) ((v : Int) * 2147483648 % 4294967296) != bits .xor .u32 (bits .xor .u32 (bits .xor .u32 (x3 : Int) (x8 : Int)) (x14 : Int)) (x16 : Int)) = false := by
            rw [bne_eq_false_iff_eq, n_xor4 l3 l8 l14 l16, HD.out]
            exact turn_back _ hy
          have lv : v < 4294967296 := by rw [HD.out]; exact rotl_lt _ _ (by omega) hy
          have b3 : (0 : Int) ≤ (k : Int) - 3 ∧ (k : Int) - 3 < 80 := by omega
          have b8 : (0 : Int) ≤ (k : Int) - 8 ∧ (k : Int) - 8 < 80 := by omega
          have b14 : (0 : Int) ≤ (k : Int) - 14 ∧ (k : Int) - 14 < 80 := by omega
          have b16 : (0 : Int) ≤ (k : Int) - 16 ∧ (k : Int) - 16 < 80 := by omega
          go_quiet (fail)
          clear c3 c8 c14 c16 cw
          replace HK := Lib.hid (HK.out.drewN nq)
          generalize wr.drewN nq = W2 at *
          go_wp2
          exact ⟨⟨k + 1, by omega, by omega, by go_num, HK.out⟩, by simp [intOf]; omega⟩
        · obtain rfl : k = 80 := by omega
          go_wp2_with (go_at_call 16; with_reducible refine (HKN.out _).mono ?_; rintro e w2 ⟨rfl, hb⟩)
          go_ret
          exact ⟨rfl, HK.out.below.trans (hb.mono HK.out.below.size)⟩

theorem walk (s : ByteArray) (w : World) (_ : s.size ≤ 9223372036854775807) : Calls Try.prog 6 #[.string s] w fun e w' => e = .returned (.bool true) ∧ Below w.heap.size w w' := by
  by_cases h : s.size = 64
  · exact yes s w h
  · exact no s w h

set_option maxRecDepth 100000 in
theorem lifted (os : Os) (started : os.Started) (H : Type) (enc : TypeId × Value → H) :
    ReturnsInHanded {} Try.checked os 6 .any (Rows.shaWordsSpec.pre6 enc Try.prog Try.f6 Rows.shaWordsRow.domain false) (Rows.shaWordsSpec.post enc Try.prog Try.f6 false true false false) := by
  refine returnsInHanded_of_change (C := Try.checked) own started (by kernel_rfl) Try.func6
    (ChangeSpec.witness6 (enc := enc) (C := Try.checked) false ⟨#[], #[.string ⟨#[]⟩], []⟩ 8 (by kernel_rfl) (by kernel_rfl) (by kernel_rfl) (by kernel_rfl)) ?_
  intro W base args ds gs before hval0 hW hcnd _
  have hval : ∀ (j : Nat) t v, Try.f6.params[j]? = some t → args[j]? = some v → Value.okWide Try.prog W .any base t v := hval0
  have hW' := hW
  obtain ⟨p, q, hA0, hV, rfl, hfz, hnd⟩ := hW
  have hA : DataW.TrodAll enc Try.prog W 0 (fun _ => true) true Try.f6.params.toList args.toList ds p := hA0
  rw [Try.params6] at hA hval
  obtain ⟨v0, vs0, d0, ds0, p0, q0, hargs, rfl, rfl, h0, r0⟩ := trodAll_cons hA
  obtain ⟨rfl, rfl, rfl⟩ := trodAll_nil r0
  obtain rfl : args = #[v0] := by cases args; simp_all
  obtain ⟨rfl, rfl⟩ := trodVars_none hV
  have k0 := h0
  have lt0 : ∀ x ∈ p0, x.block < W.heap.size := by obtain ⟨m, hm⟩ := k0; exact DataW.trod_lt m _ _ _ hm
  obtain ⟨n0, rfl, _, _, ws0⟩ := open_string Try.underlying9 (hval 0 9 v0 rfl rfl) h0
  clear hA0 hval0
  refine (walk n0 W ws0).mono fun e W' ⟨he, bel⟩ => ?_
  subst he
  exact ⟨_, rfl, _, _, _, [], _, [], hW', trodAll_mk1 (shut_bool Try.underlying4 _), (trodAll_cons_mk (Below.trod laidOut (by kernel_rfl) (of_decide_eq_true (by kernel_rfl)) k0 bel lt0) trodAll_mk0), rfl, bel.frame _, fun h => by cases h⟩

theorem proved : Rows.ShaWordsSaid :=
  OpenClaim.holds_of_wide 6 Try.f6 rfl rfl rfl rfl rfl rfl rfl ⟨rfl, rfl, rfl, rfl, rfl⟩ rfl rfl rfl rfl rfl (by kernel_rfl) Try.func6 (by kernel_rfl)
    (of_decide_eq_true (by kernel_rfl)) (by unfold Func.isWrapper; first | (rw [if_pos (by decide +kernel)]; kernel_rfl) | (rw [if_neg (by decide +kernel)]; exact ⟨rfl, rfl⟩))
    (fun os started H enc _ => lifted os started H enc)
end Go.Proofs.Ytcmaneddhjlbdaa.WordsLaw
