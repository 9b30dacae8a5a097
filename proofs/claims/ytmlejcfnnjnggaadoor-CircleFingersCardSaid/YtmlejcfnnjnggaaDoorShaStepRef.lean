/- A step: the document's. -/
import Derived.Test.YtmlejcfnnjnggaaDoorShaStep
namespace Go.Proofs.YtmlejcfnnjnggaaDoor
set_option maxRecDepth 100000
open Go.RowKit

/-- the memory of the document's Step -/
structure MemR (w wr : World) (g : Nat) (s : ByteArray) (h : S5) : Prop where
  below : Below w.heap.size w wr
  h : Blk wr w.heap.size (row32 h.list) 71
  z : Blk wr (w.heap.size + 1) (row32 zeroS.list) 71
  words : ∀ t, t < 80 → wr.cell? ⟨g, t, none⟩ = some (.int .u32 (wd s t : Nat))
theorem MemR.drew {w wr : World} {g : Nat} {s : ByteArray} {h : S5} (k : MemR w wr g s h) : MemR w wr.drew g s h := ⟨k.below.drew, k.h, k.z, k.words⟩

theorem add_wrap (a b : Nat) : IntKind.u32.wrap ((a : Int) + b) = ((a + b) % 4294967296 : Nat) := by rw [IntKind.wrap_u32']; omega

theorem added_row (h m : S5) : Value.agg #[.int .u32 (((h.a : Int) + m.a) % 4294967296), .int .u32 (((h.b : Int) + m.b) % 4294967296), .int .u32 (((h.c : Int) + m.c) % 4294967296), .int .u32 (((h.d : Int) + m.d) % 4294967296), .int .u32 (((h.e : Int) + m.e) % 4294967296)] = .agg (row32 (added h m).list) := by
  have e : ∀ a b : Nat, ((a : Int) + b) % 4294967296 = (((a + b) % 4294967296 : Nat) : Int) := fun a b => by omega
  rw [e, e, e, e, e]
  rfl
set_option maxHeartbeats 2000000 in
set_option maxRecDepth 100000 in
theorem refStep_yes (st : S5) (hok : st.ok) (s : ByteArray) (w : World) (hs : s.size = 64) : Calls Tryd.prog 63 #[stv st, .string s] w fun e w' => e = .returned (.tuple #[stv (stepS st s), .int .i64 0]) ∧ Below w.heap.size w w' := by
  have HS := Lib.hid hs
  have HOK := Lib.hid hok
  clear hs hok
  rw [box_st]
  go_enter Tryd.func63, Tryd.ntmps63
  go_upto_region 2 with (go_at_call 71; refine (refWords_yes s _ HS.out).mono ?_; rintro e w1 ⟨g, cap, rfl, hg, hwd, hb⟩)
  have K0 : MemR w w1 g s st := ⟨(((Below.refl _ _).alloc (Nat.le_refl _) _).alloc (by simp) _).trans (hb.mono (by simp; omega)), Blk.below (heap_alloc2_old _ _ _) hb (by simp; omega), Blk.below (heap_alloc2_new _ _ _) hb (by simp), hwd⟩
  clear hb hwd hg
  have HK := Lib.hid K0
  have c0 : w1.cell? ⟨w.heap.size, 0, none⟩ = some (.int .u32 (st.a : Nat)) := K0.h.cell 0
  have c1 : w1.cell? ⟨w.heap.size, 1, none⟩ = some (.int .u32 (st.b : Nat)) := K0.h.cell 1
  have c2 : w1.cell? ⟨w.heap.size, 2, none⟩ = some (.int .u32 (st.c : Nat)) := K0.h.cell 2
  have c3 : w1.cell? ⟨w.heap.size, 3, none⟩ = some (.int .u32 (st.d : Nat)) := K0.h.cell 3
  have c4 : w1.cell? ⟨w.heap.size, 4, none⟩ = some (.int .u32 (st.e : Nat)) := K0.h.cell 4
  clear K0
  go_wp2
  clear c0 c1 c2 c3 c4
  go_loopw [8, 9, 10, 11, 12, 13] (fun a b c d x i wr => ∃ k : Nat, k ≤ 80 ∧ i = .int .i64 k ∧ a = .int .u32 ((runs (wd s) st k).a : Nat) ∧ b = .int .u32 ((runs (wd s) st k).b : Nat) ∧ c = .int .u32 ((runs (wd s) st k).c : Nat) ∧ d = .int .u32 ((runs (wd s) st k).d : Nat) ∧ x = .int .u32 ((runs (wd s) st k).e : Nat) ∧ MemR w wr g s st) (fun _ _ _ _ _ i _ => 80 - (intOf i).toNat)
  case atStart => exact ⟨0, by omega, rfl, rfl, rfl, rfl, rfl, rfl, HK.out⟩
  case round =>
    clear HK
    obtain ⟨k, hk, rfl, rfl, rfl, rfl, rfl, rfl, K⟩ := hrel
    by_cases hlt : k < 80
    · have HR : Hid (runs (wd s) st (k + 1) = rnd k (wd s k) (runs (wd s) st k)) := rfl
      have ok := runs_ok (wd s) HOK.out k
      have HCW := Lib.hid (K.words k hlt)
      have HK := Lib.hid K
      have lw := wd_lt s k
      clear K
      generalize runs (wd s) st k = r at *
      obtain ⟨ra, rb, rc, rd, re⟩ := r
      obtain ⟨la, lb, lc, ld, le⟩ := ok
      simp only at la lb lc ld le
      generalize wd s k = x at *
      go_wp2_with (go_at_call 72; refine (mixed_any k rb rc rd _ lb lc ld hlt).mono ?_; rintro e w' ⟨rfl, rfl⟩)
      have lf : fOf k rb rc rd < 4294967296 := fOf_lt lb lc ld
      have lk := kOf_lt k
      have H5 : Hid (Calls Tryd.prog 73 #[.int .u32 (ra : Int), .int .i64 5] wr.drew fun e w' => e = .returned (.int .u32 ((rotl ra 5 : Nat) : Int)) ∧ w' = wr.drew) :=
        (left5_any ra _ la).mono fun _ _ ⟨a, b⟩ => ⟨a, b.symm⟩
      have l5 := rotl_lt ra 5 (by omega) la
      have HR2 : Hid (rnd k x ⟨ra, rb, rc, rd, re⟩ = ⟨((((rotl ra 5 + fOf k rb rc rd) % 4294967296 + re) % 4294967296 + kOf k) % 4294967296 + x) % 4294967296, ra, rotl rb 30, rc, rd⟩) := rfl
      have cw := HCW.out
      have b0 : (0 : Int) ≤ (k : Int) ∧ (k : Int) < 80 := by omega
      generalize rotl ra 5 = r5 at *
      generalize fOf k rb rc rd = ff at *
      generalize kOf k = kk at *
      refine wp_region_tail 13 (by kernel_rfl) (by kernel_rfl) ?_
      simp only [List.take_succ_cons, List.take_zero, List.drop_succ_cons, List.drop_zero]
      repeat still_step
      still_call H5.out
      repeat still_step
      refine wpStill_nil ?_
      clear cw H5 HCW
      replace HK := Lib.hid HK.out.drew
      generalize wr.drew = W2 at *
      rw [rnd_wrap]
      generalize ((((r5 + ff) % 4294967296 + re) % 4294967296 + kk) % 4294967296 + x) % 4294967296 = y at *
      go_wp2_with (go_at_call 73; refine (left30_any rb _ lb).mono ?_; rintro e w' ⟨rfl, rfl⟩)
      refine ⟨⟨k + 1, by omega, by go_num, ?_⟩, by simp [intOf]; omega⟩
      rw [HR.out, HR2.out]
      exact ⟨rfl, rfl, rfl, rfl, rfl, HK.out⟩
    · obtain rfl : k = 80 := by omega
      have HX : Hid (added st (runs (wd s) st 80) = stepS st s) := rfl
      have ok := runs_ok (wd s) HOK.out 80
      generalize runs (wd s) st 80 = m at *
      have ok2 := HOK.out
      have c0 : wr.cell? ⟨w.heap.size, 0, none⟩ = some (.int .u32 (st.a : Nat)) := K.h.cell 0
      have c1 : wr.cell? ⟨w.heap.size, 1, none⟩ = some (.int .u32 (st.b : Nat)) := K.h.cell 1
      have c2 : wr.cell? ⟨w.heap.size, 2, none⟩ = some (.int .u32 (st.c : Nat)) := K.h.cell 2
      have c3 : wr.cell? ⟨w.heap.size, 3, none⟩ = some (.int .u32 (st.d : Nat)) := K.h.cell 3
      have c4 : wr.cell? ⟨w.heap.size, 4, none⟩ = some (.int .u32 (st.e : Nat)) := K.h.cell 4
      have HK := Lib.hid K
      clear K ok ok2
      go_wp2_with (refine wpList_store_row rfl 71 _ _ rfl (w.heap.size + 1) (row32 (added st m).list) rfl ?_ 71 _ HK.out.z (infoRow _) (sizeRow _ _) (row32_one _) ?_)
      · exact added_row st m
      · refine bodyPost_ret (results_st2 Tryd.results63 _ _ (w.heap.size + 1) (added st m) (.int .i64 0) rfl rfl (HK.out.z.setRow _)) rfl ?_
        rw [HX.out]
        exact ⟨rfl, bel_setRow HK.out.below (by omega) _⟩
end Go.Proofs.YtmlejcfnnjnggaaDoor
