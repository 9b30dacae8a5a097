/- A state as bytes, and the sum of a text: the program's and the document's answer. -/
import Derived.Test.YtmlejcfnnjnggaaDoorShaStepRef
namespace Go.Proofs.YtmlejcfnnjnggaaDoor
set_option maxRecDepth 100000
open Go.RowKit

/-- byte i of a state -/
def plf (h : S5) (i : Nat) : Nat := h.list.getD (i / 4) 0 / 256 ^ (3 - i % 4) % 256
def valN : List Nat → Nat
  | [] => 0
  | b :: r => valN r + 256 ^ r.length * b
theorem valN_spec (l : List Nat) (h : ∀ b ∈ l, b < 256) : valN l < 256 ^ l.length ∧ dig l.length (valN l) = l := by
  induction l with
  | nil => exact ⟨by simp [valN], rfl⟩
  | cons b r ih =>
    obtain ⟨hn, hd⟩ := ih (fun x hx => h x (List.mem_cons_of_mem _ hx))
    have hb : b < 256 := h b (List.mem_cons_self ..)
    have hp : 0 < 256 ^ r.length := Nat.pow_pos (by omega)
    refine ⟨?_, ?_⟩
    · have : 256 ^ r.length * (b + 1) ≤ 256 ^ r.length * 256 := Nat.mul_le_mul_left _ (by omega)
      simp only [List.length_cons, Nat.pow_succ, valN]
      rw [Nat.mul_add] at this
      omega
    · rw [List.length_cons, dig, valN]
      congr 1
      · rw [Nat.add_mul_div_left _ _ hp, Nat.div_eq_of_lt hn, Nat.zero_add, Nat.mod_eq_of_lt hb]
      · conv => rhs; rw [← hd]
        exact dig_eq_of (Nat.add_mul_mod_self_left _ _ _)
/-- the place of a state -/
def placeN (h : S5) : Nat := valN (tab 20 (plf h))
theorem place_dig (h : S5) : dig 20 (placeN h) = tab 20 (plf h) := by
  have := (valN_spec (tab 20 (plf h)) (fun b hb => by
    simp only [tab, List.mem_map] at hb
    obtain ⟨i, _, rfl⟩ := hb
    exact Nat.mod_lt _ (by omega))).2
  rw [tab_length] at this
  exact this
theorem place_idv (h : S5) : idv (placeN h) = .agg (row (tab 20 (plf h))) := by unfold idv; rw [place_dig]
def plk (h : S5) (k i : Nat) : Nat := if i < k then plf h i else 0
theorem plk_step (h : S5) (k : Nat) : (tab 20 (plk h k)).set k (plf h k) = tab 20 (plk h (k + 1)) := by
  rw [tab_set]
  refine tab_congr fun i _ => ?_
  unfold plk
  by_cases e : i = k
  · rw [if_pos e, if_pos (by omega), e]
  · rw [if_neg e]
    by_cases e2 : i < k
    · rw [if_pos e2, if_pos (by omega)]
    · rw [if_neg e2, if_neg (by omega)]
theorem plk_full (h : S5) : tab 20 (plk h 20) = tab 20 (plf h) := tab_congr fun i hi => by unfold plk; rw [if_pos hi]
theorem zeros20 : row (List.replicate 20 0) = row (tab 20 fun _ => 0) := rfl
theorem infoId (f : Nat → Nat) : (Tryd.prog.info? 32).map (·.size) = some (row (tab 20 f)).size := by rw [row_size, tab_length]; exact Tryd.info23
theorem sizeId (f g : Nat → Nat) : (row (tab 20 f)).size = (row (tab 20 g)).size := by rw [row_size, row_size, tab_length, tab_length]

/-- the memory of a function that turns a state into a place -/
structure MemP (w wr : World) (h : S5) (f : Nat → Nat) : Prop where
  below : Below w.heap.size w wr
  h : Blk wr w.heap.size (row32 h.list) 71
  z : Blk wr (w.heap.size + 1) (row (tab 20 fun _ => 0)) 32
  o : Blk wr (w.heap.size + 1 + 1) (row (tab 20 f)) 32
theorem MemP.made (w : World) (h : S5) : MemP w (((w.alloc (.cells (row32 h.list) 71)).alloc (.cells (row (tab 20 fun _ => 0)) 32)).alloc (.cells (row (tab 20 fun _ => 0)) 32)) h (fun _ => 0) := by
  refine ⟨(((Below.refl _ _).alloc (Nat.le_refl _) _).alloc (by simp) _).alloc (by simp; omega) _, ?_, ?_, ?_⟩
  · exact Blk.alloc (heap_alloc2_old _ _ _) _
  · exact Blk.alloc (heap_alloc2_new _ _ _) _
  · have := Blk.new ((w.alloc (.cells (row32 h.list) 71)).alloc (.cells (row (tab 20 fun _ => 0)) 32)) (row (tab 20 fun _ => 0)) 32
    simpa using this
theorem MemP.put {w wr : World} {h : S5} {f : Nat → Nat} (k : MemP w wr h f) (i v : Nat) (g : Nat → Nat) (hg : (tab 20 f).set i v = tab 20 g) : MemP w (wr.setCell ⟨w.heap.size + 1 + 1, i, none⟩ (.int .u8 (v : Int))) h g :=
  ⟨k.below.setCell (p := ⟨w.heap.size + 1 + 1, i, none⟩) (by simp; omega) _, k.h.other _ _ _ (by omega), k.z.other _ _ _ (by omega), by rw [← hg, ← row8_set]; exact k.o.put _ _⟩

theorem shr_place (x k : Nat) : (x : Int) / 2 ^ (8 * (3 - k % 4)) % 256 = ((x / 256 ^ (3 - k % 4) % 256 : Nat) : Int) := by
  rw [show (256 : Nat) = 2 ^ 8 from rfl, ← Nat.pow_mul]
  have e : (x : Int) / 2 ^ (8 * (3 - k % 4)) = ((x / 2 ^ (8 * (3 - k % 4)) : Nat) : Int) := by
    rw [Int.natCast_ediv, Int.natCast_pow]; rfl
  rw [e]
  generalize x / 2 ^ (8 * (3 - k % 4)) = y
  omega
set_option maxHeartbeats 1000000 in
theorem place_any (h : S5) (hok : h.ok) (w : World) : Calls Tryd.prog 58 #[stv h] w fun e w' => e = .returned (idv (placeN h)) ∧ Below w.heap.size w w' := by
  rw [box_st, place_idv]
  have HOK := Lib.hid hok
  clear hok
  go_enter Tryd.func58, Tryd.ntmps58
  go_upto_region 2 with (fail)
  rw [zeros, zeros20]
  have K := MemP.made w h
  rw [show row32 h.list = #[Value.int IntKind.u32 (h.a : Nat), .int .u32 (h.b : Nat), .int .u32 (h.c : Nat), .int .u32 (h.d : Nat), .int .u32 (h.e : Nat)] from rfl] at K
  generalize ((w.alloc _).alloc _).alloc _ = W at *
  have HK := Lib.hid K
  clear K
  go_wp2
  go_loopw [5] (fun i wr => ∃ k : Nat, k ≤ 20 ∧ i = .int .i64 k ∧ MemP w wr h (plk h k)) (fun i _ => 20 - (intOf i).toNat)
  case atStart => exact ⟨0, by omega, rfl, HK.out⟩
  case round =>
    clear HK
    obtain ⟨k, hk, rfl, K⟩ := hrel
    by_cases hlt : k < 20
    · have c1 : wr.cell? ⟨w.heap.size, k / 4, none⟩ = some (.int .u32 (h.list.getD (k / 4) 0 : Nat)) := by
        rw [K.h.cell, list_tab, row32_tab _ _ _ (by omega)]; rfl
      have c2 : wr.cell? ⟨w.heap.size + 1 + 1, k, none⟩ = some (.int .u8 (plk h k k : Nat)) := by rw [K.o.cell, row_tab _ _ _ hlt]
      have f2 := K.o.free k
      have HP : Hid (plf h k = h.list.getD (k / 4) 0 / 256 ^ (3 - k % 4) % 256) := rfl
      have HS := Lib.hid (shr_place (h.list.getD (k / 4) 0) k)
      have lx := list_lt HOK.out (k / 4)
      have HK := Lib.hid K
      clear K
      generalize h.list.getD (k / 4) 0 = x at *
      go_wp2
      rw [HS.out]
      exact ⟨⟨k + 1, by omega, by go_num, HK.out.put k _ _ (by rw [← HP.out]; exact plk_step h k)⟩, by simp [intOf]; omega⟩
    · obtain rfl : k = 20 := by omega
      have HK := Lib.hid K
      clear K
      go_wp2_with (first | (refine wpList_load_row rfl 32 _ rfl (w.heap.size + 1 + 1) rfl 32 _ (0, 0) _ HK.out.o Tryd.underlying32 rfl (infoId _) ?_) | (refine wpList_store_row rfl 32 _ _ rfl (w.heap.size + 1) _ rfl rfl 32 _ HK.out.z (infoId _) (sizeId _ _) (row8_one _) ?_))
      refine bodyPost_ret (results_cell_row Tryd.results58 _ _ (w.heap.size + 1) 32 (row (tab 20 (plk h 20))) (0, 0) _ rfl (HK.out.z.setRow _) Tryd.underlying32 rfl (infoId _)) rfl ?_
      rw [plk_full]
      exact ⟨rfl, bel_setRow HK.out.below (by omega) _⟩

/-- bytes below 4 i, and the last m of the next four -/
def bym (h : S5) (i m j : Nat) : Nat := if j < 4 * i ∨ (4 * i + 4 ≤ j + m ∧ j < 4 * i + 4) then plf h j else 0
theorem bym_zero (h : S5) (i : Nat) : tab 20 (bym h i 0) = tab 20 (plk h (4 * i)) := tab_congr fun j _ => by
  unfold bym plk
  by_cases e : j < 4 * i
  · rw [if_pos (.inl e), if_pos e]
  · rw [if_neg (by omega), if_neg e]
theorem bym_full (h : S5) (i : Nat) : tab 20 (bym h i 4) = tab 20 (plk h (4 * (i + 1))) := tab_congr fun j _ => by
  unfold bym plk
  by_cases e : j < 4 * (i + 1)
  · rw [if_pos (by omega), if_pos e]
  · rw [if_neg (by omega), if_neg e]
theorem bym_step (h : S5) (i m : Nat) (hm : m < 4) : (tab 20 (bym h i m)).set (4 * i + (3 - m)) (plf h (4 * i + (3 - m))) = tab 20 (bym h i (m + 1)) := by
  rw [tab_set]
  refine tab_congr fun j _ => ?_
  unfold bym
  by_cases e : j = 4 * i + (3 - m)
  · rw [if_pos e, if_pos (by omega), e]
  · rw [if_neg e]
    by_cases e2 : j < 4 * i ∨ (4 * i + 4 ≤ j + m ∧ j < 4 * i + 4)
    · rw [if_pos e2, if_pos (by omega)]
    · rw [if_neg e2, if_neg (by omega)]
theorem plf_at (h : S5) (i m : Nat) (hm : m < 4) : plf h (4 * i + (3 - m)) = h.list.getD i 0 / 256 ^ m % 256 := by
  unfold plf
  rw [show (4 * i + (3 - m)) / 4 = i by omega, show 3 - (4 * i + (3 - m)) % 4 = m by omega]
theorem MemP.same {w wr : World} {h : S5} {f g : Nat → Nat} (k : MemP w wr h f) (e : tab 20 f = tab 20 g) : MemP w wr h g := ⟨k.below, k.h, k.z, by rw [← e]; exact k.o⟩

set_option maxHeartbeats 1000000 in
theorem bytes_any (h : S5) (hok : h.ok) (w : World) : Calls Tryd.prog 64 #[stv h] w fun e w' => e = .returned (idv (placeN h)) ∧ Below w.heap.size w w' := by
  rw [box_st, place_idv]
  have HOK := Lib.hid hok
  clear hok
  go_enter Tryd.func64, Tryd.ntmps64
  go_upto_region 2 with (fail)
  rw [zeros, zeros20]
  have K := MemP.made w h
  rw [show row32 h.list = #[Value.int IntKind.u32 (h.a : Nat), .int .u32 (h.b : Nat), .int .u32 (h.c : Nat), .int .u32 (h.d : Nat), .int .u32 (h.e : Nat)] from rfl] at K
  generalize ((w.alloc _).alloc _).alloc _ = W at *
  have HK := Lib.hid K
  clear K
  go_wp2
  go_loopw [4] (fun i wr => ∃ k : Nat, k ≤ 5 ∧ i = .int .i64 k ∧ MemP w wr h (plk h (4 * k))) (fun i _ => 5 - (intOf i).toNat)
  case atStart => exact ⟨0, by omega, rfl, HK.out⟩
  case round =>
    clear HK
    obtain ⟨k, hk, rfl, K⟩ := hrel
    by_cases hlt : k < 5
    · have c1 : wr.cell? ⟨w.heap.size, k, none⟩ = some (.int .u32 (h.list.getD k 0 : Nat)) := by
        rw [K.h.cell, list_tab, row32_tab _ _ _ hlt]; rfl
      have lx := list_lt HOK.out k
      have HP : Hid (∀ m, m < 4 → plf h (4 * k + (3 - m)) = h.list.getD k 0 / 256 ^ m % 256) := fun m hm => plf_at h k m hm
      have HK := Lib.hid (K.same (bym_zero h k).symm)
      have hd : decide ((k : Int) < 5) = true := by simp; omega
      clear K
      generalize h.list.getD k 0 = x at *
      go_wp2
      clear hd c1
      go_loopw [5, 6] (fun v z wr => ∃ (m : Nat) (zz : Int), m ≤ 4 ∧ zz + m = 3 ∧ z = .int .i64 zz ∧ v = .int .u32 ((x / 256 ^ m : Nat) : Int) ∧ MemP w wr h (bym h k m)) (fun _ z _ => (intOf z + 1).toNat)
      case atStart => exact ⟨0, 3, by omega, by omega, rfl, by rw [Nat.pow_zero, Nat.div_one], HK.out⟩
      case round =>
        clear HK
        obtain ⟨m, zz, hm, hz, rfl, rfl, K⟩ := hrel
        by_cases hl2 : m < 4
        · obtain ⟨q, rfl⟩ : ∃ q : Nat, zz = q := ⟨3 - m, by omega⟩
          obtain rfl : m = 3 - q := by omega
          have hq : q ≤ 3 := by omega
          have c2 : wr.cell? ⟨w.heap.size + 1 + 1, 4 * k + q, none⟩ = some (.int .u8 (bym h k (3 - q) (4 * k + q) : Nat)) := by rw [K.o.cell, row_tab _ _ _ (by omega)]
          have f2 := K.o.free (4 * k + q)
          have HP2 := Lib.hid (HP.out (3 - q) hl2)
          have HS := Lib.hid (bym_step h k (3 - q) hl2)
          have hy : x / 256 ^ (3 - q) ≤ x := Nat.div_le_self _ _
          have HD : Hid (x / 256 ^ (3 - q) / 256 = x / 256 ^ (3 - q + 1)) := by unfold Hid; rw [Nat.pow_succ, Nat.div_div_eq_div_mul]
          have HK := Lib.hid K
          clear K
          generalize x / 256 ^ (3 - q) = y at *
          go_wp2
          rw [show ((y : Int) % 256) = ((y % 256 : Nat) : Int) by omega]
          refine ⟨⟨3 - q + 1, (q : Int) - 1, by omega, by omega, rfl, ?_, HK.out.put (4 * k + q) (y % 256) _ ?_⟩, by simp [intOf]⟩
          · rw [← HD.out]; rfl
          · have := HS.out
            rw [HP2.out, show 3 - (3 - q) = q by omega] at this
            exact this
        · obtain rfl : m = 4 := by omega
          obtain rfl : zz = -1 := by omega
          have HK := Lib.hid (K.same (bym_full h k))
          clear K
          go_wp2
          exact ⟨⟨k + 1, by omega, by go_num, HK.out⟩, by simp [intOf]; omega⟩
    · obtain rfl : k = 5 := by omega
      have HK := Lib.hid K
      clear K
      go_wp2_with (first | (refine wpList_load_row rfl 32 _ rfl (w.heap.size + 1 + 1) rfl 32 _ (0, 0) _ HK.out.o Tryd.underlying32 rfl (infoId _) ?_) | (refine wpList_store_row rfl 32 _ _ rfl (w.heap.size + 1) _ rfl rfl 32 _ HK.out.z (infoId _) (sizeId _ _) (row8_one _) ?_))
      refine bodyPost_ret (results_cell_row Tryd.results64 _ _ (w.heap.size + 1) 32 (row (tab 20 (plk h (4 * 5)))) (0, 0) _ rfl (HK.out.z.setRow _) Tryd.underlying32 rfl (infoId _)) rfl ?_
      rw [plk_full]
      exact ⟨rfl, bel_setRow HK.out.below (by omega) _⟩

/-- block k of a padded text -/
def blkB (p : ByteArray) (k : Nat) : ByteArray := p.extract (64 * k) (64 * k + 64)
theorem blkB_size (p : ByteArray) (k : Nat) (h : 64 * k + 64 ≤ p.size) : (blkB p k).size = 64 := by
  unfold blkB
  rw [ByteArray.size_extract]
  omega
/-- the state behind k blocks -/
def stN (p : ByteArray) : Nat → S5
  | 0 => startS
  | k + 1 => stepS (stN p k) (blkB p k)
theorem stN_ok (p : ByteArray) (k : Nat) : (stN p k).ok := by
  cases k with
  | zero => exact startS_ok
  | succ k => exact stepS_ok _ _
/-- the sum of a text, as a number -/
def sumN (s : ByteArray) : Nat := placeN (stN (padB s) (padLen s.size / 64))
/-- what Sum tells -/
def sumV (s : ByteArray) : Value := if s.size ≤ 4096 then .tuple #[idv (sumN s), .int .i64 0] else .tuple #[idv 0, .int .i64 2]

theorem zero_idv : idv 0 = .agg (row (tab 20 fun _ => 0)) := rfl
theorem results_id2 {fn : Func} {p t : Tmp} (h : fn.results = #[.cell p 32, .tmp t]) (tmps : Array Value) (w : World) (g n : Nat) (v : Value)
    (hp : tmps.getD p undef = .pointer (some ⟨g, 0, none⟩)) (hv : tmps.getD t undef = v) (hg : Blk w g (row (dig 20 n)) 32) :
    (results fn tmps).run Tryd.prog w = .ok (.tuple #[idv n, v]) w := by
  rw [results_arr2 h tmps w g _ 32 _ hp hg Tryd.underlying32 rfl (by rw [row_size, dig_length]; exact Tryd.info23), hv]
  rfl
theorem sum_long (s : ByteArray) (w : World) (h : 4096 < s.size) (hs : s.size ≤ 9223372036854775807) : Calls Tryd.prog 45 #[.string s] w fun e w' => e = .returned (.tuple #[idv 0, .int .i64 2]) ∧ Below w.heap.size w w' := by
  go_enter Tryd.func45, Tryd.ntmps45
  go_upto_region 2 with (go_at_call 55; refine (pad_long s _ h hs).mono ?_; rintro e w' ⟨rfl, rfl⟩)
  rw [zeros, zeros20]
  have hB := Lib.hid (Blk.new w (row (tab 20 fun _ => 0)) 32)
  have hBel := Lib.hid ((Below.refl w.heap.size w).alloc (Nat.le_refl _) (.cells (row (tab 20 fun _ => 0)) 32))
  generalize w.alloc _ = W at *
  go_wp2_with (refine wpList_store_row rfl 32 _ _ rfl w.heap.size (row (tab 20 fun _ => 0)) rfl rfl 32 _ hB.out (infoId _) (sizeId _ _) (row8_one _) ?_)
  refine bodyPost_ret (results_id2 Tryd.results45 _ _ w.heap.size 0 (.int .i64 2) rfl rfl (hB.out.setRow _)) rfl ?_
  exact ⟨rfl, bel_setRow hBel.out (Nat.le_refl _) _⟩
theorem refSum_long (s : ByteArray) (w : World) (h : 4096 < s.size) (hs : s.size ≤ 9223372036854775807) : Calls Tryd.prog 51 #[.string s] w fun e w' => e = .returned (.tuple #[idv 0, .int .i64 2]) ∧ Below w.heap.size w w' := by
  go_enter Tryd.func51, Tryd.ntmps51
  go_upto_region 2 with (go_at_call 61; refine (refPad_long s _ h hs).mono ?_; rintro e w' ⟨rfl, rfl⟩)
  rw [zeros, zeros20]
  have hB := Lib.hid (Blk.new w (row (tab 20 fun _ => 0)) 32)
  have hBel := Lib.hid ((Below.refl w.heap.size w).alloc (Nat.le_refl _) (.cells (row (tab 20 fun _ => 0)) 32))
  generalize w.alloc _ = W at *
  go_wp2_with (refine wpList_store_row rfl 32 _ _ rfl w.heap.size (row (tab 20 fun _ => 0)) rfl rfl 32 _ hB.out (infoId _) (sizeId _ _) (row8_one _) ?_)
  refine bodyPost_ret (results_id2 Tryd.results51 _ _ w.heap.size 0 (.int .i64 2) rfl rfl (hB.out.setRow _)) rfl ?_
  exact ⟨rfl, bel_setRow hBel.out (Nat.le_refl _) _⟩

theorem infoDig (n : Nat) : (Tryd.prog.info? 32).map (·.size) = some (row (dig 20 n)).size := by rw [row_size, dig_length]; exact Tryd.info23
theorem sizeDig (f : Nat → Nat) (n : Nat) : (row (tab 20 f)).size = (row (dig 20 n)).size := by rw [row_size, row_size, tab_length, dig_length]
/-- the memory of Sum -/
structure MemU (w wr : World) (g : Nat) (h : S5) : Prop where
  below : Below w.heap.size w wr
  z : Blk wr w.heap.size (row (tab 20 fun _ => 0)) 32
  h : Blk wr g (row32 h.list) 71
  hg : w.heap.size < g
theorem MemU.drew {w wr : World} {g : Nat} {h : S5} (k : MemU w wr g h) : MemU w wr.drew g h := ⟨k.below.drew, k.z, k.h, k.hg⟩
theorem MemU.grown {w wr w' : World} {g : Nat} {h : S5} (k : MemU w wr g h) (hb : Below wr.heap.size wr w') : MemU w w' g h :=
  ⟨k.below.trans (hb.mono k.below.size), k.z.below hb k.z.lt, k.h.below hb k.h.lt, k.hg⟩
theorem MemU.row {w wr : World} {g : Nat} {h : S5} (k : MemU w wr g h) (h' : S5) : MemU w (wr.setRow g (row32 h'.list)) g h' :=
  ⟨bel_setRow k.below (by have := k.hg; omega) _, k.z.setRow_other _ _ (by have := k.hg; omega), k.h.setRow _, k.hg⟩

set_option maxHeartbeats 1000000 in
theorem sum_short (s : ByteArray) (w : World) (h : s.size ≤ 4096) : Calls Tryd.prog 45 #[.string s] w fun e w' => e = .returned (.tuple #[idv (sumN s), .int .i64 0]) ∧ Below w.heap.size w w' := by
  have hp := padB_size s
  have hge := padLen_ge s.size
  have hle := padLen_le s.size
  have hmd := padLen_mod s.size
  have HSN : Hid (sumN s = placeN (stN (padB s) (padLen s.size / 64))) := rfl
  go_enter Tryd.func45, Tryd.ntmps45
  go_upto_region 2 with (go_at_call 55; refine (pad_short s _ h).mono ?_; rintro e w1 ⟨rfl, hb⟩)
  have Z1 : Blk w1 w.heap.size (row (tab 20 fun _ => 0)) 32 := Blk.below (Blk.new w _ _) hb (by simp)
  have B1 : Below w.heap.size w w1 := ((Below.refl _ _).alloc (Nat.le_refl _) _).trans (hb.mono (by simp))
  clear hb
  generalize padB s = p at *
  go_upto_region 5 with (first | (go_at_call 56; refine (start_any _).mono ?_; rintro e w2 ⟨rfl, hb⟩) | (refine wpList_store_newrow rfl 71 _ _ rfl (row32 startS.list) rfl rfl infoSt (row32_one _) rfl ?_))
  have K0 : MemU w (w2.alloc (.cells (row32 startS.list) 71)) w2.heap.size startS :=
    ⟨(B1.trans (hb.mono B1.size)).alloc (Nat.le_trans B1.size hb.size) _, (Z1.below hb Z1.lt).alloc _, Blk.new _ _ _, Nat.lt_of_lt_of_le Z1.lt hb.size⟩
  have HK := Lib.hid K0
  clear K0 hb Z1 B1 w1
  generalize w2.alloc _ = W at *
  generalize w2.heap.size = g at *
  go_wp2
  go_loopw [21] (fun i wr => ∃ k : Nat, k ≤ padLen s.size / 64 ∧ i = .int .i64 k ∧ MemU w wr g (stN p k)) (fun i _ => padLen s.size / 64 - (intOf i).toNat)
  case atStart => exact ⟨0, by omega, rfl, HK.out⟩
  case round =>
    clear HK
    obtain ⟨k, hk, rfl, K⟩ := hrel
    have HK := Lib.hid K
    clear K
    by_cases hlt : k < padLen s.size / 64
    · go_wp2
      have hok := stN_ok p k
      have HT : Hid (stN p (k + 1) = stepS (stN p k) (blkB p k)) := rfl
      have hbs : (blkB p k).size = 64 := blkB_size p k (by omega)
      have HB : Hid (blkB p k = p.extract (64 * k) (64 * k + 64)) := rfl
      have c0 : wr.cell? ⟨g, 0, none⟩ = some (.int .u32 ((stN p k).a : Nat)) := HK.out.h.cell 0
      have c1 : wr.cell? ⟨g, 1, none⟩ = some (.int .u32 ((stN p k).b : Nat)) := HK.out.h.cell 1
      have c2 : wr.cell? ⟨g, 2, none⟩ = some (.int .u32 ((stN p k).c : Nat)) := HK.out.h.cell 2
      have c3 : wr.cell? ⟨g, 3, none⟩ = some (.int .u32 ((stN p k).d : Nat)) := HK.out.h.cell 3
      have c4 : wr.cell? ⟨g, 4, none⟩ = some (.int .u32 ((stN p k).e : Nat)) := HK.out.h.cell 4
      have HC := Lib.hid (step_yes (stN p k) hok (blkB p k) · hbs)
      clear hok hbs
      generalize stN p k = r at *
      have g1 : IntKind.i64.wrap ((k : Int) * 64) = (k : Int) * 64 := IntWalk.i64_in _ (by omega)
      have g2 : IntKind.i64.wrap ((k : Int) + 1) = (k : Int) + 1 := IntWalk.i64_in _ (by omega)
      have g3 : IntKind.i64.wrap (((k : Int) + 1) * 64) = ((k : Int) + 1) * 64 := IntWalk.i64_in _ (by omega)
      have hcut := run_cut (P := Tryd.prog) Tryd.underlying9 p ((k : Int) * 64) (((k : Int) + 1) * 64) (64 * k) (64 * k + 64) (by omega) (by omega) (by omega) (by omega)
      refine wp_region_tail0 8 (by kernel_rfl) (by kernel_rfl) (fun _ _ _ _ _ h => h) ?_
      simp only [List.take_succ_cons, List.take_zero, List.drop_succ_cons, List.drop_zero]
      repeat still_step
      refine wpStill_nil ?_
      clear hcut c0 c1 c2 c3 c4 g1 g2 g3
      replace HK := Lib.hid HK.out.drew
      generalize wr.drew = W2 at *
      rw [← HB.out]
      have HC2 := Lib.hid (HC.out W2)
      clear HC
      go_wp2_with (first | (go_at_call 57; refine HC2.out.mono ?_; rintro e w3 ⟨rfl, hb3⟩; have HK3 := Lib.hid (HK.out.grown hb3); clear hb3) | (refine wpList_store_row rfl 71 _ _ rfl g (row32 (stepS r (blkB p k)).list) rfl rfl 71 _ HK3.out.h (infoRow _) (sizeRow _ _) (row32_one _) ?_))
      exact ⟨⟨k + 1, by omega, by go_num, by rw [HT.out]; exact HK3.out.row _⟩, by simp [intOf]; omega⟩
    · obtain rfl : k = padLen s.size / 64 := by omega
      have HP : Hid (∀ w, Calls Tryd.prog 58 #[.agg (row32 (stN p (padLen s.size / 64)).list)] w fun e w' => e = .returned (.agg (row (dig 20 (sumN s)))) ∧ Below w.heap.size w w') := by
        unfold Hid; rw [HSN.out]; exact place_any _ (stN_ok p _)
      clear HSN
      generalize stN p (padLen s.size / 64) = r at *
      go_wp2_with (first | (refine wpList_load_row rfl 71 _ rfl g rfl 71 _ (0, 0) _ HK.out.h Tryd.underlying71 rfl (infoRow _) ?_) | (go_at_call 58; refine (HP.out _).mono ?_; rintro e w3 ⟨rfl, hb3⟩; have HK3 := Lib.hid (HK.out.grown hb3); clear hb3) | (refine wpList_store_row rfl 32 _ _ rfl w.heap.size (row (dig 20 (sumN s))) rfl rfl 32 _ HK3.out.z (infoDig _) (sizeDig _ _) (row8_one _) ?_))
      refine bodyPost_ret (results_id2 Tryd.results45 _ _ w.heap.size (sumN s) (.int .i64 0) rfl rfl (HK3.out.z.setRow _)) rfl ?_
      exact ⟨rfl, bel_setRow HK3.out.below (Nat.le_refl _) _⟩
end Go.Proofs.YtmlejcfnnjnggaaDoor
