/- SortedNil: for all keys and values the call returns true: a nil map has nothing, and refuses. No condition. -/
import Derived.Test.YtbjlappppbaohaaSorQ
namespace Go.Proofs.Ytbjlappppbaohaa.SorNilLaw
open Go Go.ChangeShapes Go.WideShapes Go.ChangeAt Go.RowKit Go.Sort
open Go.ChangeMaps (open_string shut_string)

set_option maxRecDepth 100000 in
set_option maxHeartbeats 2000000 in
theorem walk (k : Nat) (_ : k < 18446744073709551616) (s : ByteArray) (w : World) (_ : s.size ≤ maxLen) : Calls Try.prog 7 #[.int .u64 (k : Int), .string s] w fun e w' => e = .returned (.bool true) ∧ Below w.heap.size w w' := by
  have HP := Lib.hid (put_nil k s)
  have HG := Lib.hid (get_nil k)
  have HD := Lib.hid (drop_nil k)
  have HR : Hid (∀ w, Calls Try.prog 16 #[.pointer none, .int .u64 (k : Int), .int .u64 0, .int .i64 5] w fun e w' => e = .returned (.tuple #[.slice none 0 0, .int .i64 6]) ∧ w = w') := fun w => range_nil k 0 5 w
  have HK := Lib.hid (rank_nil k)
  go_enter Try.func7, Try.ntmps7
  go_upto_region 6 with (first
    | (go_at_call 15; (with_reducible refine (HP.out _).mono ?_); rintro e w1 ⟨rfl, rfl⟩)
    | (go_at_call 14; (with_reducible refine (HG.out _).mono ?_); rintro e w1 ⟨rfl, rfl⟩)
    | (go_at_call 18; (with_reducible refine (HD.out _).mono ?_); rintro e w1 ⟨rfl, rfl⟩)
    | (go_at_call 16; (with_reducible refine (HR.out _).mono ?_); rintro e w1 ⟨rfl, rfl⟩))
  go_upto_region 7 with (first
    | (go_at_call 20; (with_reducible refine (min_nil _).mono ?_); rintro e w1 ⟨rfl, b1⟩)
    | (refine p_storeA rfl _ _ rfl w1.heap.size rfl 0 ⟨#[]⟩ rfl #[.int .u64 0, .string ⟨#[]⟩] rfl (Blk.new _ _ _) ?_))
  have hM := made w1 0 ⟨#[]⟩ #[.int .u64 0, .string ⟨#[]⟩]
  have b2 := step b1 hM.bel
  clear hM b1
  generalize World.setRow _ _ _ = W at *
  go_upto_region 8 with (first
    | (go_at_call 21; (with_reducible refine (max_nil _).mono ?_); rintro e w3 ⟨rfl, b3⟩)
    | (refine p_storeA rfl _ _ rfl w3.heap.size rfl 0 ⟨#[]⟩ rfl #[.int .u64 0, .string ⟨#[]⟩] rfl (Blk.new _ _ _) ?_))
  have hM := made w3 0 ⟨#[]⟩ #[.int .u64 0, .string ⟨#[]⟩]
  have b4 := step b2 (step b3 hM.bel)
  clear hM b2 b3
  generalize World.setRow _ _ _ = W2 at *
  go_wp2_with (first
    | (go_at_call 12; (with_reducible refine (ordered_any _).mono ?_); rintro e w5 ⟨rfl, b5⟩)
    | (go_at_call 17; (with_reducible refine (HK.out _).mono ?_); rintro e w1 ⟨rfl, rfl⟩)
    | (go_at_call 11; (with_reducible refine (size_nil _).mono ?_); rintro e w1 ⟨rfl, rfl⟩))
  go_ret
  exact ⟨rfl, step b4 b5⟩

set_option maxRecDepth 100000 in
theorem lifted (os : Os) (started : os.Started) (H : Type) (enc : TypeId × Value → H) :
    ReturnsInHanded {} Try.checked os 7 .any (Rows.sortedNilSpec.pre6 enc Try.prog Try.f7 Rows.sortedNilRow.domain false) (Rows.sortedNilSpec.post enc Try.prog Try.f7 false true false false) := by
  refine returnsInHanded_of_change (C := Try.checked) own started (by kernel_rfl) Try.func7
    (ChangeSpec.witness6 (enc := enc) (C := Try.checked) false ⟨#[], #[.int .u64 0, .string ⟨#[]⟩], []⟩ 8 (by kernel_rfl) (by kernel_rfl) (by kernel_rfl) (by kernel_rfl)) ?_
  intro W base args ds gs before hval0 hW hcnd _
  have hval : ∀ (j : Nat) t v, Try.f7.params[j]? = some t → args[j]? = some v → Value.okWide Try.prog W .any base t v := hval0
  have hW' := hW
  obtain ⟨p, q, hA0, hV, rfl, hfz, hnd⟩ := hW
  have hA : DataW.TrodAll enc Try.prog W 0 (fun _ => true) true Try.f7.params.toList args.toList ds p := hA0
  rw [Try.params7] at hA hval
  obtain ⟨v0, vs0, d0, ds0, p0, q0, hargs, rfl, rfl, h0, r0⟩ := trodAll_cons hA
  obtain ⟨v1, vs1, d1, ds1, p1, q1, rfl, rfl, rfl, h1, r1⟩ := trodAll_cons r0
  obtain ⟨rfl, rfl, rfl⟩ := trodAll_nil r1
  obtain rfl : args = #[v0, v1] := by cases args; simp_all
  obtain ⟨rfl, rfl⟩ := trodVars_none hV
  have k0 := h0
  have lt0 : ∀ x ∈ p0, x.block < W.heap.size := by obtain ⟨m, hm⟩ := k0; exact DataW.trod_lt m _ _ _ hm
  obtain ⟨n0, ok0, rfl⟩ := open_u64 (hval 0 31 v0 rfl rfl) h0
  have k1 := h1
  have lt1 : ∀ x ∈ p1, x.block < W.heap.size := by obtain ⟨m, hm⟩ := k1; exact DataW.trod_lt m _ _ _ hm
  obtain ⟨n1, rfl, _, _, ws1⟩ := open_string Try.underlying9 (hval 1 9 v1 rfl rfl) h1
  clear hA0 hval0
  refine (walk n0 ok0 n1 W ws1).mono fun e W' ⟨he, bel⟩ => ?_
  subst he
  exact ⟨_, rfl, _, _, _, [], _, [], hW', trodAll_mk1 (shut_bool Try.underlying4 _), (trodAll_cons_mk (Below.trod laidOut (by kernel_rfl) (of_decide_eq_true (by kernel_rfl)) k0 bel lt0) (trodAll_cons_mk (Below.trod laidOut (by kernel_rfl) (of_decide_eq_true (by kernel_rfl)) k1 bel lt1) trodAll_mk0)), rfl, bel.frame _, fun h => by cases h⟩

theorem proved : Rows.SortedNilSaid :=
  OpenClaim.holds_of_wide 7 Try.f7 rfl rfl rfl rfl rfl rfl rfl ⟨rfl, rfl, rfl, rfl, rfl⟩ rfl rfl rfl rfl rfl (by kernel_rfl) Try.func7 (by kernel_rfl)
    (of_decide_eq_true (by kernel_rfl)) (by unfold Func.isWrapper; first | (rw [if_pos (by decide +kernel)]; kernel_rfl) | (rw [if_neg (by decide +kernel)]; exact ⟨rfl, rfl⟩))
    (fun os started H enc _ => lifted os started H enc)
end Go.Proofs.Ytbjlappppbaohaa.SorNilLaw
