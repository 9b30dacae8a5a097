/- The document's reader: places and labels. -/
import Derived.Test.YtplcdjmidelboaaWirGetM
namespace Go.Proofs.Ytplcdjmidelboaa
set_option maxRecDepth 100000
open Go.RowKit Go.Sort

theorem results_arr2 {P : Program} {fn : Func} {p t : Tmp} {ty : TypeId} (h : fn.results = #[.cell p ty, .tmp t]) (tmps : Array Value) (w : World) (g : Nat) (cs : Array Value) (ty' : TypeId) (d : TypeDesc)
    (hp : tmps.getD p undef = .pointer (some ⟨g, 0, none⟩)) (hg : Blk w g cs ty') (hu : P.underlying ty = some d) (hd : (match d with | .struct _ | .array _ _ => true | _ => false) = true) (hi : (P.info? ty).map (·.size) = some cs.size) :
    (results fn tmps).run P w = .ok (.tuple #[.agg cs, tmps.getD t undef]) w := by
  have hp' : tmps[p]?.getD undef = .pointer (some ⟨g, 0, none⟩) := by simpa using hp
  simp [results, h, hp', asAddr, run_loadVar_row w g ty' ty cs (0, 0) d hg hu hd hi]
theorem results_idv2 {fn : Func} {p t : Tmp} (h : fn.results = #[.cell p 23, .tmp t]) (tmps : Array Value) (w : World) (g : Nat) (l : List Nat) (v : Value)
    (hp : tmps.getD p undef = .pointer (some ⟨g, 0, none⟩)) (hv : tmps.getD t undef = v) (hg : Blk w g (row l) 23) (hl : l.length = 20) :
    (results fn tmps).run Try.prog w = .ok (.tuple #[.agg (row l), v]) w := by
  rw [results_arr2 h tmps w g _ 23 _ hp hg Try.underlying23 rfl (by rw [row_size, hl]; exact Try.info23), hv]
theorem info_id (l : List Nat) (h : l.length = 20) : (Try.prog.info? 23).map (·.size) = some (row l).size := by rw [row_size, h]; exact Try.info23
theorem size_id (l : List Nat) (h : l.length = 20) (m : List Nat) (h' : m.length = 20) : (row l).size = (row m).size := by rw [row_size, row_size, h, h']

/-- two blocks of the call's own: what is answered, and what is filled -/
structure MemO (w wr : World) (Z O : Array Value) (T : TypeId) : Prop where
  below : Below w.heap.size w wr
  z : Blk wr w.heap.size Z T
  o : Blk wr (w.heap.size + 1) O T
theorem MemO.made (w : World) (Z O : Array Value) (T : TypeId) : MemO w ((w.alloc (.cells Z T)).alloc (.cells O T)) Z O T :=
  ⟨((Below.refl _ _).alloc (Nat.le_refl _) _).alloc (by simp) _, (Blk.new w _ _).alloc _, by have h := Blk.new (w.alloc (.cells Z T)) O T; rwa [World.size_alloc] at h⟩
theorem MemO.put {w wr : World} {Z O : Array Value} {T : TypeId} (k : MemO w wr Z O T) (i : Nat) (v : Value) : MemO w (wr.setCell ⟨w.heap.size + 1, i, none⟩ v) Z (O.setIfInBounds i v) T :=
  ⟨k.below.setCell (p := ⟨w.heap.size + 1, i, none⟩) (by simp) _, k.z.other _ _ _ (by omega), k.o.put _ _⟩
theorem MemO.drew {w wr : World} {Z O : Array Value} {T : TypeId} (k : MemO w wr Z O T) : MemO w wr.drew Z O T := ⟨k.below.drew, k.z.drew, k.o.drew⟩
theorem MemO.grown {w wr w' : World} {Z O : Array Value} {T : TypeId} (k : MemO w wr Z O T) (hb : Below wr.heap.size wr w') : MemO w w' Z O T :=
  ⟨k.below.trans (hb.mono k.below.size), k.z.below hb k.z.lt, k.o.below hb k.o.lt⟩
theorem Sr.own {w wr : World} {g : Nat} {l : List Nat} (k : Sr w g l) (hb : Below w.heap.size w wr) : Sr wr g l := k.below hb

def gf (l : List Nat) (k j : Nat) : Nat := if j < k then l.getD j 0 else 0
theorem gf_zero (l : List Nat) (n : Nat) : tab n (gf l 0) = List.replicate n 0 := by
  rw [show List.replicate n 0 = tab n (fun _ => 0) by rw [tab, List.map_const', List.length_range]]
  exact tab_congr fun j _ => by unfold gf; rw [if_neg (by omega)]
theorem gf_full (l : List Nat) (n : Nat) (h : n ≤ l.length) : tab n (gf l n) = l.take n := by
  symm
  refine tab_ext (by rw [List.length_take]; omega) fun i hi => ?_
  unfold gf
  rw [if_pos hi, List.getElem?_take, if_pos hi, List.getD_eq_getElem?_getD, List.getElem?_eq_getElem (by omega)]
  rfl
theorem gf_step (l : List Nat) (n k : Nat) : (tab n (gf l k)).set k (l.getD k 0) = tab n (gf l (k + 1)) := by
  rw [tab_set]
  refine tab_congr fun i _ => ?_
  unfold gf
  by_cases e : i = k
  · rw [if_pos e, if_pos (by omega), e]
  · rw [if_neg e]
    by_cases e2 : i < k
    · rw [if_pos e2, if_pos (by omega)]
    · rw [if_neg e2, if_neg (by omega)]
theorem getD_at (l : List Nat) (k : Nat) (h : k < l.length) : l.getD k 0 = l[k] := by rw [List.getD_eq_getElem?_getD, List.getElem?_eq_getElem h]; rfl
theorem zrow20 : row (List.replicate 20 0) = row (dig 20 0) := rfl

set_option maxHeartbeats 1000000 in
theorem refPlM_any (g : Nat) (l : List Nat) (hl : ∀ b ∈ l, b < 256) (hz : l.length ≤ 1000000) :
    Gets 69 g l (.tuple #[idv (rPl l).1, .int .i64 ((rPl l).2.2 : Int)]) (l.drop (rPl l).2.1) := by
  intro w hS
  have HS := Lib.hid hS
  have hsz := txt_size l
  have hg := hS.lt
  clear hS
  by_cases h : l.length < 20
  · have HE : Hid (rPl l = (0, 0, 4)) := by unfold Hid rPl; rw [if_pos h]
    have hd : decide ((l.length : Int) < 20) = true := by simp; omega
    go_enter Try.func69, Try.ntmps69
    go_upto_region 2 with (fail)
    rw [zeros]
    have K := Lib.hid (MemO.made w (row (List.replicate 20 0)) (row (List.replicate 20 0)) 23)
    generalize (w.alloc _).alloc _ = W at *
    have c0 := (HS.out.own K.out.below).cell
    go_wp2_with (first | (refine wpList_load_row rfl 23 _ rfl (w.heap.size + 1) rfl 23 _ (0, 0) _ K.out.o Try.underlying23 rfl (info_id _ rfl) ?_) | (refine wpList_store_row rfl 23 _ _ rfl w.heap.size _ rfl rfl 23 _ K.out.z (info_id _ rfl) (size_id _ rfl _ rfl) (row8_one _) ?_))
    refine bodyPost_ret (results_idv2 Try.results69 _ _ w.heap.size (List.replicate 20 0) (.int .i64 4) rfl rfl (K.out.z.setRow _) rfl) rfl ?_
    rw [HE.out]
    exact ⟨rfl, HS.out.own (bel_setRow K.out.below (Nat.le_refl _) _), Keep.of (bel_setRow K.out.below (Nat.le_refl _) _) _ _⟩
  · have HV : Hid (row (tab 20 (gf l 20)) = row (dig 20 (valN (l.take 20)))) := by unfold Hid; rw [gf_full l 20 (by omega), (rPl_only hl h).1]
    have HE : Hid (rPl l = (valN (l.take 20), 20, 0)) := by unfold Hid rPl; rw [if_neg h]
    have hd : decide ((l.length : Int) < 20) = false := by simp; omega
    have HI := Lib.hid (fun (k : Nat) (hk : k < l.length) w => run_at l hl k hk w)
    have HC := Lib.hid (fun w => cut_from l 20 (by omega) w)
    go_enter Try.func69, Try.ntmps69
    go_upto_region 2 with (fail)
    rw [zeros]
    have K := Lib.hid (MemO.made w (row (List.replicate 20 0)) (row (List.replicate 20 0)) 23)
    generalize (w.alloc _).alloc _ = W at *
    have c0 := (HS.out.own K.out.below).cell
    go_wp2
    clear c0
    go_loopw [5] (fun i wr => ∃ k : Nat, k ≤ 20 ∧ i = .int .i64 (k : Int) ∧ MemO w wr (row (List.replicate 20 0)) (row (tab 20 (gf l k))) 23) (fun i _ => 20 - (intOf i).toNat)
    case atStart => exact ⟨0, by omega, rfl, by rw [gf_zero]; exact K.out⟩
    case round =>
      clear K
      obtain ⟨k, hk, rfl, K⟩ := hrel
      have c0 := (HS.out.own K.below).cell
      by_cases hlt : k < 20
      · have hi := HI.out k (by omega)
        have hx := hl l[k] (List.getElem_mem _)
        have HS2 := Lib.hid (gf_step l 20 k)
        have HG := Lib.hid (getD_at l k (by omega))
        have c1 : wr.cell? ⟨w.heap.size + 1, k, none⟩ = some (.int .u8 (gf l k k : Nat)) := by rw [K.o.cell, row_tab _ _ _ hlt]
        have f1 := K.o.free k
        have HK := Lib.hid K
        clear K HI
        generalize hX : l[k] = x at *
        clear hX
        go_wp2
        refine ⟨⟨k + 1, by omega, by go_num, ?_⟩, by simp [intOf]; omega⟩
        rw [← HS2.out, ← row8_set, HG.out]
        exact HK.out.put _ _
      · obtain rfl : k = 20 := by omega
        have HK := Lib.hid K
        clear K HI
        have f0 := (HS.out.own HK.out.below).free
        have hc : ∀ w, (Instr.slice 9 (.string (txt l)) (some (.int .i64 20)) none none).run Try.prog w = .ok (.string (txt (l.drop 20))) w := HC.out
        clear HC
        have ht : (tab 20 (gf l 20)).length = 20 := tab_length _ _
        have HZ : Hid (Blk (wr.setCell ⟨g, 0, none⟩ (.string (txt (l.drop 20)))) w.heap.size (row (List.replicate 20 0)) 23) := HK.out.z.other _ _ _ (by omega)
        have HO : Hid (Blk (wr.setCell ⟨g, 0, none⟩ (.string (txt (l.drop 20)))) (w.heap.size + 1) (row (tab 20 (gf l 20))) 23) := HK.out.o.other _ _ _ (by omega)
        go_wp2_with (first | (refine wpList_load_row rfl 23 _ rfl (w.heap.size + 1) rfl 23 _ (0, 0) _ HO.out Try.underlying23 rfl (info_id _ ht) ?_) | (refine wpList_store_row rfl 23 _ _ rfl w.heap.size _ rfl rfl 23 _ HZ.out (info_id _ ht) (size_id _ ht _ rfl) (row8_one _) ?_))
        refine bodyPost_ret (results_idv2 Try.results69 _ _ w.heap.size (tab 20 (gf l 20)) (.int .i64 0) rfl rfl (HZ.out.setRow _) ht) rfl ?_
        rw [HE.out, HV.out]
        have KK : Keep w (wr.setCell ⟨g, 0, none⟩ (.string (txt (l.drop 20)))) g g := (Keep.of HK.out.below g g).setCell 0 _
        refine ⟨rfl, Blk.setRow_other ((HS.out.own HK.out.below).put _) _ _ (by omega), ?_⟩
        exact ⟨KK.os, KK.tape, KK.output, by simpa [World.setRow] using KK.size, fun j hj h1 h2 => (Go.setRow_other _ _ j _ (by omega)).trans (KK.block j hj h1 h2)⟩

theorem or_high (a x k : Nat) (ha : a % 2 ^ k = 0) (hx : x < 2 ^ k) : a ||| x = a + x := by
  obtain ⟨q, rfl⟩ := Nat.dvd_of_mod_eq_zero ha
  exact (Nat.two_pow_add_eq_or_of_lt hx q).symm
theorem labV_take (t : List Nat) (ht : ∀ b ∈ t, b < 256) (i : Nat) (hi : i < t.length) (h8 : i < 8) :
    labV (t.take (i + 1)) = labV (t.take i) + t[i] * 2 ^ (56 - 8 * i) ∧ labV (t.take i) % 2 ^ (64 - 8 * i) = 0 ∧ t[i] * 2 ^ (56 - 8 * i) < 2 ^ (64 - 8 * i) := by
  have hx := ht t[i] (List.getElem_mem _)
  have l1 : (t.take (i + 1)).length = i + 1 := by rw [List.length_take]; omega
  have l2 : (t.take i).length = i := by rw [List.length_take]; omega
  have e1 : 256 ^ (8 - (i + 1)) = 2 ^ (56 - 8 * i) := by rw [pow8]; congr 1; omega
  have e2 : 256 ^ (8 - i) = 2 ^ (64 - 8 * i) := by rw [pow8]; congr 1; omega
  have e3 : 2 ^ (64 - 8 * i) = 256 * 2 ^ (56 - 8 * i) := by rw [show (256 : Nat) = 2 ^ 8 from rfl, ← Nat.pow_add]; congr 1; omega
  have e4 : valN (t.take (i + 1)) = 256 * valN (t.take i) + t[i] := by rw [List.take_add_one, List.getElem?_eq_getElem hi]; exact valN_snoc _ _
  unfold labV
  rw [l1, l2, e1, e2, e4]
  refine ⟨?_, Nat.mul_mod_left _ _, ?_⟩
  · rw [e3, Nat.add_mul, Nat.mul_comm 256 (valN _), Nat.mul_assoc]
  · rw [e3]; exact Nat.mul_lt_mul_of_pos_right hx (Nat.pow_pos (by omega))
theorem labV_or (t : List Nat) (ht : ∀ b ∈ t, b < 256) (i : Nat) (hi : i < t.length) (h8 : i < 8) :
    bits .or .u64 ((labV (t.take i) : Nat) : Int) (IntKind.u64.wrap ((t[i] : Int) * 2 ^ (56 - 8 * i))) = ((labV (t.take (i + 1)) : Nat) : Int) := by
  obtain ⟨h1, h2, h3⟩ := labV_take t ht i hi h8
  have hb : labV (t.take (i + 1)) < 18446744073709551616 := labV_lt (fun b hb => ht b (List.mem_of_mem_take hb)) (by rw [List.length_take]; omega)
  rw [show (t[i] : Int) * 2 ^ (56 - 8 * i) = ((t[i] * 2 ^ (56 - 8 * i) : Nat) : Int) by rw [Int.natCast_mul, Int.natCast_pow]; rfl, wrap_u64, Nat.mod_eq_of_lt (by omega), u64_or_nat _ _ (by omega) (by omega), or_high _ _ _ h2 h3, ← h1]
end Go.Proofs.Ytplcdjmidelboaa
