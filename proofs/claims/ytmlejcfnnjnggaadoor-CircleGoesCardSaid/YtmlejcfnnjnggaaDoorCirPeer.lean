/- A node's peer, and its place by the document: the text of a number, and its sum. -/
import Derived.Test.YtmlejcfnnjnggaaDoorCirIns
import Derived.Test.YtmlejcfnnjnggaaDoorShaSumRef
import Derived.Test.YtmlejcfnnjnggaaDoorShelf
import Derived.Lib.LaidTab
import Derived.Lib.ItoaLen
namespace Go.Proofs.YtmlejcfnnjnggaaDoor
set_option maxRecDepth 100000
open Go Go.RowKit Go.Sort

/-- what the calls read of the package variables -/
structure Glob (w : World) : Prop where
  tab : Lib.TabIs Tryd.prog w "internal/strconv.uint64pow10" .u64 Lib.pow10Tab
  size : 3 ≤ w.heap.size
theorem pow_at : Tryd.prog.globalNamed "internal/strconv.uint64pow10" = some 0 := by kernel_rfl
theorem Glob.of {w w' : World} (h : Glob w) (hs : w.heap.size ≤ w'.heap.size) (hb : ∀ k, k < 3 → w'.heap[k]? = w.heap[k]?) : Glob w' := by
  refine ⟨?_, Nat.le_trans h.size hs⟩
  have h2 := h.tab
  unfold Lib.TabIs World.var? at *
  rw [pow_at] at *
  simpa [hb 0 (by decide)] using h2
theorem Glob.below {B : Nat} {w w' : World} (h : Glob w) (hb : Below B w w') (hB : 3 ≤ B) : Glob w' := h.of hb.size fun k hk => hb.block k (by omega)
theorem Glob.later {w w' : World} (h : Glob w) (hb : Below w.heap.size w w') : Glob w' := h.below hb h.size
theorem below_grow (w : World) (k : Nat) (os : Array Obj) : Below w.heap.size w (grow (w.drewN k) os) := ⟨rfl, rfl, rfl, by simp [grow], fun i hi => by simp [grow, Array.getElem?_append_left hi]⟩
theorem itoa_any (c : Nat) (h : c < 1000) (w : World) (hG : Glob w) :
    Calls Tryd.prog 46 #[.int .i64 (c : Int)] w fun e w' => e = .returned (.string (bs (Lib.decDigits c))) ∧ Below w.heap.size w w' := by
  refine (Tryd.strconv_Itoa (c : Int) (by omega) (by omega) w hG.tab).mono ?_
  rintro e w' ⟨rfl, k, os, rfl⟩
  rw [Lib.itoa_nonneg]
  exact ⟨rfl, below_grow w k os⟩
def digitsB : ByteArray := ⟨#[48, 49, 50, 51, 52, 53, 54, 55, 56, 57]⟩
theorem one_digit : ∀ u : Nat, u < 10 → digitsB.extract u (u + 1) = bs (Lib.decDigits u) := by
  intro u hu
  rw [Lib.decDigits_one hu]
  have : ∀ k : Fin 10, (digitsB.extract k.val (k.val + 1)).data.toList = [UInt8.ofNat (48 + k.val)] := by decide +kernel
  have h := this ⟨u, hu⟩
  unfold bs
  apply ByteArray.ext
  rw [← h]
theorem dig_small (u : Nat) (hu : u < 10) (w : World) : Calls Tryd.prog 52 #[.int .i64 (u : Int)] w fun e w' => e = .returned (.string (bs (Lib.decDigits u))) ∧ w' = w := by
  have hcut : ∀ w : World, (Instr.slice 9 (.string ⟨#[48, 49, 50, 51, 52, 53, 54, 55, 56, 57]⟩) (some (.int .i64 (u : Int))) (some (.int .i64 ((u : Int) + 1))) none).run Tryd.prog w = .ok (.string (bs (Lib.decDigits u))) w := fun w => by
    rw [← one_digit u hu]
    exact run_cut Tryd.underlying9 digitsB _ _ u (u + 1) rfl (by omega) (by omega) (by have : digitsB.size = 10 := rfl; omega) w
  have h1 : decide ((u : Int) < 10) = true := by simp; omega
  generalize bs (Lib.decDigits u) = X at *
  go_enter Tryd.func52, Tryd.ntmps52
  go_wp2
  go_ret
  exact ⟨rfl, rfl⟩
theorem dec_len (u : Nat) (h : u ≤ 9223372036854775807) : (bs (Lib.decDigits u)).size ≤ 21 := by
  rw [bs_size, ← Lib.itoa_nonneg]
  exact Lib.itoa_length_le _ (by omega) (by omega)
theorem room (a b : ByteArray) (h : a.size + b.size ≤ 1000000000) : ¬ 9223372036854775807 < a.size + b.size := by omega
theorem dec_step (u : Nat) (hu : 10 ≤ u) : bs (Lib.decDigits (u / 10)) ++ bs (Lib.decDigits (u % 10)) = bs (Lib.decDigits u) := by
  rw [bs_append]
  conv => rhs; rw [Lib.decDigits]
  rw [dif_neg (by omega), Lib.decDigits_one (i := u % 10) (by omega)]
theorem dig_big (u : Nat) : u ≤ 9223372036854775807 → ∀ w : World, Calls Tryd.prog 52 #[.int .i64 (u : Int)] w fun e w' => e = .returned (.string (bs (Lib.decDigits u))) ∧ w' = w := by
  induction u using Nat.strongRecOn with
  | _ u ih =>
    intro hu w
    by_cases h : u < 10
    · exact dig_small u h w
    · have d1 := ih (u / 10) (by omega) (by omega) w
      have d2 := dig_small (u % 10) (by omega) w
      have hs := dec_step u (by omega)
      have h1 : decide ((u : Int) < 10) = false := by simp; omega
      have h2 : decide ((10 : Int) ≤ (u : Int)) = true := by simp; omega
      rw [show ((u / 10 : Nat) : Int) = (u : Int) / 10 from rfl] at d1
      rw [show ((u % 10 : Nat) : Int) = (u : Int) % 10 from rfl] at d2
      have hadd := room (bs (Lib.decDigits (u / 10))) (bs (Lib.decDigits (u % 10))) (by have := dec_len (u / 10) (by omega); have := dec_len (u % 10) (by omega); omega)
      have D1 := Lib.hid d1
      have D2 := Lib.hid d2
      have HS := Lib.hid hs
      clear d1 d2 hs ih
      generalize bs (Lib.decDigits u) = X at *
      generalize bs (Lib.decDigits (u / 10)) = Y at *
      generalize bs (Lib.decDigits (u % 10)) = Z at *
      go_enter Tryd.func52, Tryd.ntmps52
      go_wp2_with (first
        | (go_at_call 52; (with_reducible refine D1.out.mono ?_); rintro e w1 ⟨rfl, rfl⟩)
        | (go_at_call 52; (with_reducible refine D2.out.mono ?_); rintro e w1 ⟨rfl, rfl⟩))
      go_ret
      exact ⟨by rw [← HS.out]; rfl, rfl⟩

theorem peer_zero : (#[Value.int IntKind.i64 0, Value.int IntKind.u8 0, Value.int IntKind.u8 0, Value.int IntKind.u8 0, Value.int IntKind.u8 0, Value.int IntKind.u8 0, Value.int IntKind.u8 0, Value.int IntKind.u8 0, Value.int IntKind.u8 0, Value.int IntKind.u8 0, Value.int IntKind.u8 0, Value.int IntKind.u8 0, Value.int IntKind.u8 0, Value.int IntKind.u8 0, Value.int IntKind.u8 0, Value.int IntKind.u8 0, Value.int IntKind.u8 0, Value.int IntKind.u8 0, Value.int IntKind.u8 0, Value.int IntKind.u8 0, Value.int IntKind.u8 0] : Array Value) = peA (0, 0) := by kernel_rfl
theorem name_bs (a : Nat) : (⟨#[110, 111, 100, 101]⟩ : ByteArray) ++ bs (Lib.decDigits a) = bs (nameL a) := by
  rw [show (⟨#[110, 111, 100, 101]⟩ : ByteArray) = bs [110, 111, 100, 101] from rfl, bs_append]; rfl
theorem sum_name (a : Nat) (h : a < 1000) (w : World) : Calls Tryd.prog 45 #[.string (⟨#[110, 111, 100, 101]⟩ ++ bs (Lib.decDigits a))] w fun e w' => e = .returned (.tuple #[idv (idN a), .int .i64 0]) ∧ Below w.heap.size w w' := by
  rw [name_bs]; exact sum_short _ w (by have := name_size a h; omega)
theorem refSum_name (a : Nat) (h : a < 1000) (w : World) : Calls Tryd.prog 51 #[.string (⟨#[110, 111, 100, 101]⟩ ++ bs (Lib.decDigits a))] w fun e w' => e = .returned (.tuple #[idv (idN a), .int .i64 0]) ∧ Below w.heap.size w w' := by
  rw [name_bs]; exact refSum_short _ w (by have := name_size a h; omega)
set_option maxHeartbeats 1000000 in
theorem peer_any (a : Nat) (h : a < 1000) (w : World) (hG : Glob w) : Calls Tryd.prog 30 #[.int .i64 (a : Int)] w fun e w' => e = .returned (.agg (peA ((a : Int), idN a))) ∧ Below w.heap.size w w' := by
  have B0 := (Below.refl w.heap.size w).alloc (Nat.le_refl _) (.cells (peA (0, 0)) 43)
  have X0 := Blk.new w (peA (0, 0)) 43
  have HI := Lib.hid (itoa_any a h _ (hG.later B0))
  have HS := Lib.hid (sum_name a h)
  have hsz : (bs (Lib.decDigits a)).size ≤ 21 := dec_len a (by omega)
  have hroom : ¬ 9223372036854775807 < (⟨#[110, 111, 100, 101]⟩ : ByteArray).size + (bs (Lib.decDigits a)).size := by have e : (⟨#[110, 111, 100, 101]⟩ : ByteArray).size = 4 := rfl; omega
  have hroom2 : ¬ 9223372036854775807 < 4 + (bs (Lib.decDigits a)).size := by omega
  generalize bs (Lib.decDigits a) = Y at *
  generalize idN a = n at *
  clear hG h
  go_enter Tryd.func30, Tryd.ntmps30
  go_upto_region 1 with (fail)
  rw [peer_zero]
  generalize w.alloc _ = W at *
  go_upto_region 2 with (first
    | (go_at_call 46; (with_reducible refine HI.out.mono ?_); rintro e w1 ⟨rfl, hb1⟩)
    | (go_at_call 45; (with_reducible refine (HS.out _).mono ?_); rintro e w2 ⟨rfl, hb2⟩)
    | (refine wpList_store_new rfl rfl _ _ rfl n rfl rfl ?_))
  have I2 := At.new w2 n
  have hb3 := (step hb1 hb2).alloc (by have := hb1.size; have := hb2.size; omega) (.cells (row (dig 20 n)) 32)
  have X3 := X0.below hb3 X0.lt
  have B3 := step B0 hb3
  clear hb1 hb2 hb3 X0 B0
  generalize w2.alloc _ = W3 at *
  generalize w2.heap.size = g at *
  go_wp2_with (first
    | (refine p_load rfl _ rfl g rfl n I2 ?_)
    | (refine p_buildP rfl _ _ rfl (a : Int) n rfl rfl ?_)
    | (refine wpList_store_row rfl 43 _ _ rfl w.heap.size (peA ((a : Int), n)) rfl rfl 43 (peA (0, 0)) X3 (by rw [peA_size]; exact sizeP) (by rw [peA_size, peA_size]) (peA_one _) ?_))
  exact bodyPost_ret (results_cell_row Tryd.results30 _ _ w.heap.size 43 (peA ((a : Int), n)) (0, 0) _ rfl (X3.setRow _) Tryd.underlying43 rfl (by rw [peA_size]; exact sizeP)) rfl ⟨rfl, bel_setRow B3 (Nat.le_refl _) _⟩
set_option maxHeartbeats 1000000 in
theorem refID_any (a : Nat) (h : a < 1000) (w : World) : Calls Tryd.prog 33 #[.int .i64 (a : Int)] w fun e w' => e = .returned (idv (idN a)) ∧ Below w.heap.size w w' := by
  have B0 := (Below.refl w.heap.size w).alloc (Nat.le_refl _) (.cells (row (dig 20 0)) 32)
  have X0 := Blk.new w (row (dig 20 0)) 32
  have HI := Lib.hid (fun w1 => dig_big a (by omega) w1)
  have HS := Lib.hid (refSum_name a h)
  have hsz : (bs (Lib.decDigits a)).size ≤ 21 := dec_len a (by omega)
  have hroom : ¬ 9223372036854775807 < (⟨#[110, 111, 100, 101]⟩ : ByteArray).size + (bs (Lib.decDigits a)).size := by have e : (⟨#[110, 111, 100, 101]⟩ : ByteArray).size = 4 := rfl; omega
  have hroom2 : ¬ 9223372036854775807 < 4 + (bs (Lib.decDigits a)).size := by omega
  generalize bs (Lib.decDigits a) = Y at *
  generalize idN a = n at *
  clear h
  go_enter Tryd.func33, Tryd.ntmps33
  go_upto_region 1 with (fail)
  rw [row_zero]
  generalize w.alloc _ = W at *
  go_upto_region 2 with (first
    | (go_at_call 52; (with_reducible refine (HI.out _).mono ?_); rintro e w1 ⟨rfl, rfl⟩)
    | (go_at_call 51; (with_reducible refine (HS.out _).mono ?_); rintro e w2 ⟨rfl, hb2⟩)
    | (refine wpList_store_new rfl rfl _ _ rfl n rfl rfl ?_))
  have I2 := At.new w2 n
  have hb3 := hb2.alloc hb2.size (.cells (row (dig 20 n)) 32)
  have X3 := X0.below hb3 X0.lt
  have B3 := step B0 hb3
  clear hb2 hb3 X0 B0
  generalize w2.alloc _ = W3 at *
  generalize w2.heap.size = g at *
  go_wp2_with (first
    | (refine p_load rfl _ rfl g rfl n I2 ?_)
    | (refine wpList_store_id rfl _ _ rfl w.heap.size (dig 20 n) rfl rfl _ X3 (dig_length _ _) (dig_length _ _) ?_))
  refine bodyPost_ret (results_cell_row Tryd.results33 _ _ w.heap.size 32 (row (dig 20 n)) (0, 0) _ rfl (X3.setRow _) Tryd.underlying32 rfl (by rw [row_size, dig_length]; exact Tryd.info23)) rfl ⟨rfl, bel_setRow B3 (Nat.le_refl _) _⟩
end Go.Proofs.YtmlejcfnnjnggaaDoor
