/- Place: the program's and the document's answer. -/
import Derived.Test.YtbihggfnhcpieaaLabMem
import Derived.Test.YtbihggfnhcpieaaShaSumRef
namespace Go.Proofs.Ytbihggfnhcpieaa
open Go.RowKit Go.Sort

/-- what is put ahead of a label's text -/
def pht : ByteArray := ⟨#[112, 104, 116]⟩
structure MemI (w wr : World) (n : Int) (b : Nat) (r : List Nat) : Prop where
  below : Below w.heap.size w wr
  a : Blk wr w.heap.size (labc n b) 24
  z : Blk wr (w.heap.size + 1) (row r) 36
theorem MemI.made (w : World) (n : Int) (b : Nat) (r : List Nat) : MemI w ((w.alloc (.cells (labc n b) 24)).alloc (.cells (row r) 36)) n b r :=
  ⟨((Below.refl _ _).alloc (Nat.le_refl _) _).alloc (by simp) _, (Blk.new w _ _).alloc _, by have h := Blk.new (w.alloc (.cells (labc n b) 24)) (row r) 36; rwa [World.size_alloc] at h⟩
theorem MemI.grown {w wr w' : World} {n : Int} {b : Nat} {r : List Nat} (k : MemI w wr n b r) (hb : Below wr.heap.size wr w') : MemI w w' n b r :=
  ⟨k.below.trans (hb.mono k.below.size), k.a.below hb k.a.lt, k.z.below hb k.z.lt⟩
theorem MemI.alloc {w wr : World} {n : Int} {b : Nat} {r : List Nat} (k : MemI w wr n b r) (o : Obj) : MemI w (wr.alloc o) n b r :=
  ⟨k.below.alloc k.below.size _, k.a.alloc _, k.z.alloc _⟩
theorem MemI.put {w wr : World} {n : Int} {b : Nat} {r : List Nat} (k : MemI w wr n b r) (r' : List Nat) : MemI w (wr.setRow (w.heap.size + 1) (row r')) n b r' :=
  ⟨bel_setRow k.below (by omega) _, k.a.setRow_other _ _ (by omega), k.z.setRow _⟩

theorem place_err (n : Int) (b : Nat) (X : ByteArray) (c : Int) (w : World) (hp : Gives Try.prog 19 #[.agg (labc n b)] (.tuple #[.string X, .int .i64 c])) (hc : (c != 0) = true) :
    Calls Try.prog 21 #[labv n b] w fun e w' => e = .returned (.tuple #[idv 0, .int .i64 c]) ∧ Below w.heap.size w w' := by
  rw [labv_eq]
  go_enter Try.func21, Try.ntmps21
  go_upto_region 1 with (fail)
  rw [zeros, zeros20]
  have K := Lib.hid (MemI.made w n b (tab 20 fun _ => 0))
  generalize (w.alloc _).alloc _ = W at *
  go_wp2_with (first | (refine p_loadL rfl _ rfl _ rfl n b K.out.a ?_) | (go_at_call 19; (with_reducible refine (hp.calls _).mono ?_); rintro e w' ⟨rfl, hb⟩; have K1 := Lib.hid (K.out.grown hb)) | (refine wpList_store_row rfl 36 _ _ rfl (w.heap.size + 1) (row (tab 20 fun _ => 0)) rfl rfl 36 _ K1.out.z (infoId _) (sizeId _ _) (row8_one _) ?_))
  exact bodyPost_ret (results_id2 Try.results21 _ _ (w.heap.size + 1) 0 (.int .i64 c) rfl rfl (K1.out.put _).z) rfl ⟨rfl, (K1.out.put _).below⟩
theorem place_ok (n : Int) (b : Nat) (X : ByteArray) (w : World) (hp : Gives Try.prog 19 #[.agg (labc n b)] (.tuple #[.string X, .int .i64 0])) (hx : X.size ≤ 65) :
    Calls Try.prog 21 #[labv n b] w fun e w' => e = .returned (.tuple #[idv (sumN (pht ++ X)), .int .i64 0]) ∧ Below w.heap.size w w' := by
  have HS : Gives Try.prog 34 #[.string (⟨#[112, 104, 116]⟩ ++ X)] (.tuple #[.agg (row (dig 20 (sumN (pht ++ X)))), .int .i64 0]) := fun w => sum_short (pht ++ X) w (by rw [ByteArray.size_append]; show 3 + X.size ≤ 4096; omega)
  generalize sumN (pht ++ X) = r at *
  rw [labv_eq]
  go_enter Try.func21, Try.ntmps21
  go_upto_region 1 with (fail)
  rw [zeros, zeros20]
  have K := Lib.hid (MemI.made w n b (tab 20 fun _ => 0))
  generalize (w.alloc _).alloc _ = W at *
  go_wp2_with (first | (refine p_loadL rfl _ rfl _ rfl n b K.out.a ?_) | (go_at_call 19; (with_reducible refine (hp.calls _).mono ?_); rintro e w' ⟨rfl, hb⟩; have K1 := Lib.hid (K.out.grown hb)) | (go_at_call 34; (with_reducible refine (HS.calls _).mono ?_); rintro e w'' ⟨rfl, hb2⟩; have K2 := Lib.hid (K1.out.grown hb2)) | (refine wpList_store_row rfl 36 _ _ rfl (w.heap.size + 1) (row (dig 20 r)) rfl rfl 36 _ K2.out.z (infoDig _) (sizeDig _ _) (row8_one _) ?_))
  exact bodyPost_ret (results_id2 Try.results21 _ _ (w.heap.size + 1) r (.int .i64 0) rfl rfl (K2.out.put _).z) rfl ⟨rfl, (K2.out.put _).below⟩
theorem refPlace_err (n : Int) (b : Nat) (X : ByteArray) (c : Int) (w : World) (hp : Gives Try.prog 20 #[.agg (labc n b)] (.tuple #[.string X, .int .i64 c])) (hc : (c != 0) = true) :
    Calls Try.prog 22 #[labv n b] w fun e w' => e = .returned (.tuple #[idv 0, .int .i64 c]) ∧ Below w.heap.size w w' := by
  rw [labv_eq]
  go_enter Try.func22, Try.ntmps22
  go_upto_region 1 with (fail)
  rw [zeros, zeros20]
  have K := Lib.hid (MemI.made w n b (tab 20 fun _ => 0))
  generalize (w.alloc _).alloc _ = W at *
  go_wp2_with (first | (refine p_loadL rfl _ rfl _ rfl n b K.out.a ?_) | (go_at_call 20; (with_reducible refine (hp.calls _).mono ?_); rintro e w' ⟨rfl, hb⟩; have K1 := Lib.hid (K.out.grown hb)) | (refine wpList_store_row rfl 36 _ _ rfl (w.heap.size + 1) (row (tab 20 fun _ => 0)) rfl rfl 36 _ K1.out.z (infoId _) (sizeId _ _) (row8_one _) ?_))
  exact bodyPost_ret (results_id2 Try.results22 _ _ (w.heap.size + 1) 0 (.int .i64 c) rfl rfl (K1.out.put _).z) rfl ⟨rfl, (K1.out.put _).below⟩
theorem refPlace_ok (n : Int) (b : Nat) (X : ByteArray) (w : World) (hp : Gives Try.prog 20 #[.agg (labc n b)] (.tuple #[.string X, .int .i64 0])) (hx : X.size ≤ 65) :
    Calls Try.prog 22 #[labv n b] w fun e w' => e = .returned (.tuple #[idv (sumN (pht ++ X)), .int .i64 0]) ∧ Below w.heap.size w w' := by
  have HS : Gives Try.prog 41 #[.string (⟨#[112, 104, 116]⟩ ++ X)] (.tuple #[.agg (row (dig 20 (sumN (pht ++ X)))), .int .i64 0]) := fun w => refSum_short (pht ++ X) w (by rw [ByteArray.size_append]; show 3 + X.size ≤ 4096; omega)
  generalize sumN (pht ++ X) = r at *
  rw [labv_eq]
  go_enter Try.func22, Try.ntmps22
  go_upto_region 1 with (fail)
  rw [zeros, zeros20]
  have K := Lib.hid (MemI.made w n b (tab 20 fun _ => 0))
  generalize (w.alloc _).alloc _ = W at *
  go_upto_region 4 with (first | (refine p_loadL rfl _ rfl _ rfl n b K.out.a ?_) | (go_at_call 20; (with_reducible refine (hp.calls _).mono ?_); rintro e w1 ⟨rfl, hb⟩))
  replace K := Lib.hid (K.out.grown hb)
  clear hb hp
  go_upto_region 5 with (first | (go_at_call 41; (with_reducible refine (HS.calls _).mono ?_); rintro e w2 ⟨rfl, hb2⟩) | (refine wpList_store_newrow rfl 36 _ _ rfl (row (dig 20 r)) rfl rfl (infoDig _) (row8_one _) (by rw [row_size, dig_length]; rfl) ?_))
  replace K := Lib.hid ((K.out.grown hb2).alloc (.cells (row (dig 20 r)) 36))
  have D := Lib.hid (Blk.new w2 (row (dig 20 r)) 36)
  clear hb2 HS
  generalize w2.heap.size = g at *
  generalize w2.alloc _ = W2 at *
  go_wp2_with (first | (refine wpList_load_row rfl 36 _ rfl g rfl 36 (row (dig 20 r)) (0, 0) _ D.out Try.underlying36 rfl (infoDig _) ?_) | (refine wpList_store_row rfl 36 _ _ rfl (w.heap.size + 1) (row (dig 20 r)) rfl rfl 36 _ K.out.z (infoDig _) (sizeDig _ _) (row8_one _) ?_))
  exact bodyPost_ret (results_id2 Try.results22 _ _ (w.heap.size + 1) r (.int .i64 0) rfl rfl (K.out.put _).z) rfl ⟨rfl, (K.out.put _).below⟩
end Go.Proofs.Ytbihggfnhcpieaa
