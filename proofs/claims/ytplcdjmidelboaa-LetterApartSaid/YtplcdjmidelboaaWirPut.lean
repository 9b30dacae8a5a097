/- The program's calls that put bytes: eights, split, put, PutNumber, PutText, PutPlace, PutLabel. -/
import Derived.Test.YtplcdjmidelboaaWirLen
import Derived.Test.YtplcdjmidelboaaLabEq
import Derived.Deep.Cut
import Derived.Laws.OwnMore
namespace Go.Proofs.Ytplcdjmidelboaa
set_option maxRecDepth 100000
open Go.RowKit Go.Sort

theorem info8 : (Try.prog.info? 5).map (fun i => (i.zero, i.size, i.bytes)) = some (some (.int .u8 0), 1, 1) := by kernel_rfl
theorem infoW : (Try.prog.info? 82).map (·.size) = some 8 := by kernel_rfl
theorem info_w (l : List Nat) (h : l.length = 8) : (Try.prog.info? 82).map (·.size) = some (row l).size := by rw [row_size, h]; exact infoW
theorem zeros8 : (#[Value.int IntKind.u8 0, Value.int IntKind.u8 0, Value.int IntKind.u8 0, Value.int IntKind.u8 0, Value.int IntKind.u8 0, Value.int IntKind.u8 0, Value.int IntKind.u8 0, Value.int IntKind.u8 0] : Array Value) = row (List.replicate 8 0) := rfl

theorem eights_any (n : Nat) (w : World) (hn : n ≤ 64) : Calls Try.prog 49 #[.int .i64 (n : Int)] w fun e w' => e = .returned (.int .i64 (((n + 7) / 8 : Nat) : Int)) ∧ w = w' := by
  go_enter Try.func49, Try.ntmps49
  go_wp2
  go_ret
  refine ⟨congrArg Ending.returned (congrArg (Value.int IntKind.i64) ?_), rfl⟩
  omega

/-- a word behind k rounds -/
def spf (v k j : Nat) : Nat := if 8 ≤ j + k then digit v (7 - j) else 0
theorem spf_zero (v : Nat) : tab 8 (spf v 0) = List.replicate 8 0 := tab_congr (g := fun _ => 0) fun j hj => by unfold spf; rw [if_neg (by omega)]
theorem spf_full (v : Nat) : tab 8 (spf v 8) = dig 8 v := by
  symm
  refine tab_ext (dig_length 8 v) fun i hi => ?_
  rw [dig_get 8 v i hi]
  unfold spf
  rw [if_pos (by omega)]
  rfl
theorem spf_step (v k : Nat) (hk : k < 8) : (tab 8 (spf v k)).set (7 - k) (digit v k) = tab 8 (spf v (k + 1)) := by
  rw [tab_set]
  refine tab_congr fun i hi => ?_
  unfold spf
  by_cases e : i = 7 - k
  · rw [if_pos e, if_pos (by omega), e]
    congr 1
    omega
  · rw [if_neg e]
    by_cases e2 : 8 ≤ i + k
    · rw [if_pos e2, if_pos (by omega)]
    · rw [if_neg e2, if_neg (by omega)]
theorem shr_byte (v k : Nat) : (v : Int) / 2 ^ (8 * k) % 256 = ((digit v k : Nat) : Int) := by
  unfold digit
  rw [show (256 : Nat) = 2 ^ 8 from rfl, ← Nat.pow_mul]
  have e : (v : Int) / 2 ^ (8 * k) = ((v / 2 ^ (8 * k) : Nat) : Int) := by rw [Int.natCast_ediv, Int.natCast_pow]; rfl
  rw [e]
  generalize v / 2 ^ (8 * k) = x
  omega
/-- a word's cells, and a result's -/
structure MemW (w wr : World) (l : List Nat) : Prop where
  below : Below w.heap.size w wr
  z : Blk wr w.heap.size (row (List.replicate 8 0)) 82
  o : Blk wr (w.heap.size + 1) (row l) 82
theorem MemW.made (w : World) : MemW w ((w.alloc (.cells (row (List.replicate 8 0)) 82)).alloc (.cells (row (List.replicate 8 0)) 82)) (List.replicate 8 0) :=
  ⟨((Below.refl _ _).alloc (Nat.le_refl _) _).alloc (by simp) _, (Blk.new w _ _).alloc _, by have h := Blk.new (w.alloc (.cells (row (List.replicate 8 0)) 82)) (row (List.replicate 8 0)) 82; rwa [World.size_alloc] at h⟩
theorem MemW.put {w wr : World} {l : List Nat} (k : MemW w wr l) (i v : Nat) : MemW w (wr.setCell ⟨w.heap.size + 1, i, none⟩ (.int .u8 (v : Int))) (l.set i v) :=
  ⟨k.below.setCell (p := ⟨w.heap.size + 1, i, none⟩) (by simp) _, k.z.other _ _ _ (by omega), by rw [← row8_set]; exact k.o.put _ _⟩
set_option maxHeartbeats 1000000 in
theorem split_any (v : Nat) (w : World) : Calls Try.prog 51 #[.int .u64 (v : Int)] w fun e w' => e = .returned (.agg (row (dig 8 v))) ∧ Below w.heap.size w w' := by
  go_enter Try.func51, Try.ntmps51
  go_upto_region 2 with (fail)
  rw [zeros8]
  have HK := Lib.hid (MemW.made w)
  generalize (w.alloc _).alloc _ = W at *
  go_wp2
  go_loopw [5] (fun i wr => ∃ k : Nat, k ≤ 8 ∧ i = .int .i64 k ∧ MemW w wr (tab 8 (spf v k))) (fun i _ => 8 - (intOf i).toNat)
  case atStart => exact ⟨0, by omega, rfl, by rw [spf_zero]; exact HK.out⟩
  case round =>
    clear HK
    obtain ⟨k, hk, rfl, K⟩ := hrel
    by_cases hlt : k < 8
    · have c1 : wr.cell? ⟨w.heap.size + 1, 7 - k, none⟩ = some (.int .u8 (spf v k (7 - k) : Nat)) := by rw [K.o.cell, row_tab _ _ _ (by omega)]
      have f1 := K.o.free (7 - k)
      have HK := Lib.hid K
      have HS := Lib.hid (spf_step v k hlt)
      have HD := Lib.hid (shr_byte v k)
      clear K
      go_wp2
      refine ⟨⟨k + 1, by omega, by go_num, ?_⟩, by simp [intOf]; omega⟩
      rw [← HS.out, HD.out]
      exact HK.out.put _ _
    · obtain rfl : k = 8 := by omega
      have HK := Lib.hid K
      clear K
      rw [spf_full] at HK
      have hl := dig_length 8 v
      go_wp2_with (first | (refine wpList_load_row rfl 82 _ rfl (w.heap.size + 1) rfl 82 _ (0, 0) _ HK.out.o Try.underlying82 rfl (info_w _ hl) ?_) | (refine wpList_store_row rfl 82 _ _ rfl w.heap.size _ rfl rfl 82 _ HK.out.z (info_w _ hl) (by rw [row_size, row_size, hl]; rfl) (row8_one _) ?_))
      exact bodyPost_ret (results_cell_row Try.results51 _ _ w.heap.size 82 (row (dig 8 v)) (0, 0) _ rfl (HK.out.z.setRow _) Try.underlying82 rfl (info_w _ hl)) rfl ⟨rfl, bel_setRow HK.out.below (Nat.le_refl _) _⟩

/-- bytes of another block are appended to a row of the call's own -/
theorem wpList_appendN {P : Program} {w w0 : World} {ops : Array Oper} {rest : List Oper} {o : Oper} {a : Act} {Q : Exit → Act → World → Prop} (hgd : o.guard = none) (s x : Operand) (t : TypeId)
    (ho : o.op = .call { callee := .builtin .append, args := #[s, x], argTypes := #[t, t] }) (base : Nat) (e : TypeId) (z : Value) (bytes : Nat) (ht : P.underlying t = some (.slice e))
    (hi : (P.info? e).map (fun i => (i.zero, i.size, i.bytes)) = some (some z, 1, bytes)) (hzs : z.cells.size = 1)
    (v : Value) (n : Nat) (xs : List Value) (hs : a.eval s = v) (hown : w.ownsRow base e 1 v n xs) (b off m cap : Nat) (hx : a.eval x = .slice (some ⟨b, off, none⟩) m cap) (news : List Value) (hl : news.length = m)
    (hnews : ∀ j u, news[j]? = some u → w.cell? ⟨b, off + j, none⟩ = some u) (h1 : ∀ u ∈ news, u.oneCell' = true)
    (h63 : n + m ≤ 9223372036854775807) (hbytes : (n + m) * bytes ≤ 140737488355328) (hb : Below base w0 w) (hbs : base ≤ w.heap.size)
    (h : ∀ v' w', w'.ownsRow base e 1 v' (n + m) (xs ++ news) → Below base w0 w' → wpList P ops Q rest (a.put o.dst v') w') : wpList P ops Q (o :: rest) a w := by
  obtain ⟨i, hi', hq⟩ := Option.map_eq_some_iff.1 hi
  simp only [Prod.mk.injEq] at hq
  obtain ⟨q1, q2, q3⟩ := hq
  refine wpList_append_own w hgd s x t ho base e i z 1 bytes ht hi' q1 q2 q3 hzs (by omega) v n xs hs hown ⟨b, off, none⟩ m cap news hx (by omega) (fun j u hj => by rw [addr_add]; exact hnews j u hj) h1 (by unfold maxLen; omega) hbytes hbs ?_
  intro v' w' h2 h3 _
  exact h v' w' h2 (hb.grown h3 hbs fun k hk => (hown.lt k hk).1)
theorem run_text_cellsN {P : Program} (w : World) (src e dst : TypeId) (hs : P.underlying src = some (.slice e)) (he : P.underlying e = some (.int .u8)) (hd : P.underlying dst = some .string) (g n cap : Nat) (l : List Nat) (hn : l.length = n)
    (hc : ∀ j, j < n → w.cell? ⟨g, j, none⟩ = (cellsN l)[j]?) : (convert src dst (.slice (some ⟨g, 0, none⟩) n cap)).run P w = .ok (.string (txt l)) w := by
  rw [← txt_nums]
  exact run_convert_bytes_arg w src e hs he g 0 n cap _ (by rw [List.length_map, hn]) (fun i hi => by
    rw [Nat.zero_add, hc i hi, cellsN, List.getElem?_map, List.getElem?_eq_getElem (by omega), List.getD, List.getElem?_map, List.getElem?_eq_getElem (by omega)]
    rfl) dst hd
theorem cellsN_cons (x : Nat) (l : List Nat) : ([.int .u8 (x : Int)] : List Value) ++ cellsN l = cellsN (x :: l) := rfl

set_option maxHeartbeats 1000000 in
theorem put_any (b : ByteArray) (x g off cap : Nat) (l : List Nat) (w : World) (hb : b.size ≤ 1000000) (hx : x < 256) (hl : l.length ≤ 1000000) (hg : g < w.heap.size) (hc : ∀ j u, (cellsN l)[j]? = some u → w.cell? ⟨g, off + j, none⟩ = some u) :
    Calls Try.prog 52 #[.string b, .int .i64 (x : Int), .slice (some ⟨g, off, none⟩) l.length cap] w fun e w' => e = .returned (.string (b ++ txt (x :: l))) ∧ Below w.heap.size w w' := by
  have hx' : (x : Int) % 256 = x := by omega
  have HN := Lib.hid (fun (w' : World) (hb : Below w.heap.size w w') j u (h : (cellsN l)[j]? = some u) => show w'.cell? ⟨g, off + j, none⟩ = some u from (hb.cell (p := ⟨g, off + j, none⟩) hg).trans (hc j u h))
  clear hc
  go_enter Try.func52, Try.ntmps52
  go_upto_region 1 with (fail)
  have B1 := (Below.refl w.heap.size w).alloc (Nat.le_refl _) (.cells #[.int .u8 (x : Int)] 5)
  have HO : (w.alloc (.cells #[.int .u8 (x : Int)] 5)).ownsRow w.heap.size 5 1 (.slice (some ⟨w.heap.size, 0, none⟩) 1 1) 1 [.int .u8 (x : Int)] := World.ownsRow_lit w _ 1 (Nat.le_refl _) (by unfold maxLen; omega) rfl
  go_wp2_with (refine wpList_appendN rfl _ _ 85 rfl w.heap.size 5 (.int .u8 0) 1 Try.underlying85 info8 rfl _ 1 _ rfl HO g off l.length cap rfl (cellsN l) (cellsN_length l) (HN.out _ B1) (cellsN_one l) (by omega) (by omega) B1 B1.size ?_; intro v' w' hO' B')
  rw [cellsN_cons] at hO'
  obtain ⟨q, cap', rfl, hq, hq2, hcap, hcell⟩ := own_open hO' (by omega)
  have hcv := run_text_cellsN (P := Try.prog) w' 85 5 9 Try.underlying85 Try.underlying5 Try.underlying9 q (1 + l.length) cap' (x :: l) (by simp; omega) hcell
  have hz : (txt (x :: l)).size = l.length + 1 := by rw [txt_size]; rfl
  clear hcell hO' HO HN
  rw [hcv]
  go_wp2
  go_ret
  exact ⟨rfl, B'⟩

/-! slices of a word -/
theorem slc_cells {w : World} {g : Nat} {L : List Nat} {t : TypeId} (hg : Blk w g (row L) t) (lo hi : Nat) {l : List Nat} (hl : l = (L.drop lo).take (hi - lo)) :
    ∀ j u, (cellsN l)[j]? = some u → w.cell? ⟨g, offO lo hi + j, none⟩ = some u := by
  subst hl
  intro j u hj
  have hlt : j < hi - lo := by
    rcases Nat.lt_or_ge j (hi - lo) with h | h
    · exact h
    · rw [List.getElem?_eq_none (by rw [cellsN_length, List.length_take]; omega)] at hj; cases hj
  rw [offO_lt (by omega), hg.cell, row_get]
  rw [cellsN, List.getElem?_map, List.getElem?_take, if_pos hlt, List.getElem?_drop] at hj
  exact hj
theorem under_w : Try.prog.underlying 82 = some (.array (Try.prog.arrayLen 82) (Try.prog.elem 82)) := by kernel_rfl
theorem len_w : Try.prog.arrayLen 82 = 8 := by kernel_rfl
theorem elem_w : Try.prog.elem 82 = 5 := by kernel_rfl
theorem run_from8 (g n : Nat) (hn : n ≤ 8) (w : World) : (Instr.sliceAt 82 (.pointer (some ⟨g, 0, none⟩)) (some (.int .i64 (8 - (n : Int)))) none none).run Try.prog w = .ok (.slice (some ⟨g, offO (8 - n) 8, none⟩) n n) w := by
  rw [run_sliceAt_array_l w 82 ⟨g, 0, none⟩ under_w .i64 (8 - (n : Int)) (by omega) (by rw [len_w]; omega), elem_w, size_u8, len_w]
  simp only [Result.andThen, slicedAt]
  rw [show (8 - (n : Int)).toNat = 8 - n by omega, show 8 - (8 - n) = n by omega, addr_add]
  unfold offO
  by_cases h : n = 0
  · subst h; rfl
  · rw [if_neg (by omega), if_neg (by omega), Nat.mul_one, Nat.zero_add]
theorem run_upto8 (g n : Nat) (hn : n ≤ 8) (w : World) : (Instr.sliceAt 82 (.pointer (some ⟨g, 0, none⟩)) none (some (.int .i64 (n : Int))) none).run Try.prog w = .ok (.slice (some ⟨g, 0, none⟩) n 8) w := by
  rw [run_sliceAt_array_h w 82 ⟨g, 0, none⟩ under_w .i64 (n : Int) (by omega) (by rw [len_w]; omega), elem_w, size_u8, len_w]
  simp only [Result.andThen, slicedAt]
  rw [if_neg (by omega), addr_add]
  rfl

set_option maxHeartbeats 1000000 in
theorem putNumber_any (b : ByteArray) (v : Nat) (w : World) (hb : b.size ≤ 1000000) (hv : v < 18446744073709551616) :
    Calls Try.prog 21 #[.string b, .int .u64 (v : Int)] w fun e w' => e = .returned (.string (b ++ txt (numN v))) ∧ Below w.heap.size w w' := by
  have h8 := nb_le8 hv
  have hbl : bitLen v ≤ 64 := by unfold nb at h8; omega
  have HL := Lib.hid (fun w => len64_any v w hv)
  have HE := Lib.hid (fun w => eights_any (bitLen v) w hbl)
  rw [show (bitLen v + 7) / 8 = nb v from rfl] at HE
  have HS := Lib.hid (fun w => split_any v w)
  have hl := dig_length 8 v
  have hz := dig_length (nb v) v
  have HD : Hid (dig (nb v) v = ((dig 8 v).drop (8 - nb v)).take (8 - (8 - nb v))) := by
    unfold Hid
    have := dig_drop v (nb v) (8 - nb v)
    rw [show 8 - nb v + nb v = 8 by omega] at this
    rw [this, List.take_of_length_le (by omega)]
  have HN : Hid (numN v = nb v :: dig (nb v) v) := rfl
  have HR := Lib.hid (fun g w => run_from8 g (nb v) h8 w)
  clear hbl
  go_enter Try.func21, Try.ntmps21
  go_upto_region 2 with (first | (go_at_call 50; (with_reducible refine (HL.out _).mono ?_); rintro e w1 ⟨rfl, rfl⟩) | (go_at_call 49; (with_reducible refine (HE.out _).mono ?_); rintro e w2 ⟨rfl, rfl⟩))
  go_upto_region 3 with (first | (go_at_call 51; (with_reducible refine (HS.out _).mono ?_); rintro e w3 ⟨rfl, hb3⟩) | (refine wpList_store_newrow rfl 82 _ _ rfl (row (dig 8 v)) rfl rfl (info_w _ hl) (row8_one _) (by rw [row_size, hl]; rfl) ?_))
  have B0 := hb3.alloc hb3.size (.cells (row (dig 8 v)) 82)
  have A0 := Blk.new w3 (row (dig 8 v)) 82
  clear hb3 HL HE HS
  generalize w3.heap.size = g at *
  generalize w3.alloc _ = W at *
  have hr := HR.out g
  have HP := put_any b (nb v) g (offO (8 - nb v) 8) (nb v) (dig (nb v) v) W hb (by omega) (by omega) A0.lt (slc_cells A0 (8 - nb v) 8 HD.out)
  rw [hz, ← HN.out] at HP
  have HP2 := Lib.hid HP
  clear HP HD HR hl hz A0
  generalize nb v = n at *
  go_wp2_with (go_at_call 52; (with_reducible refine HP2.out.mono ?_); rintro e w4 ⟨rfl, hb4⟩)
  go_ret
  exact ⟨rfl, B0.trans (hb4.mono B0.size)⟩
theorem putPlace_any (b : ByteArray) (p : Nat) (w : World) (hb : b.size ≤ 1000000) :
    Calls Try.prog 22 #[.string b, idv p] w fun e w' => e = .returned (.string (b ++ txt (dig 20 p))) ∧ Below w.heap.size w w' := by
  have hl := dig_length 20 p
  have hz : (txt (dig 20 p)).size = 20 := by rw [txt_size, hl]
  rw [show idv p = .agg (row (dig 20 p)) from rfl]
  generalize dig 20 p = y at *
  have HX : Hid (txt y = txt y) := rfl
  generalize hx : txt y = x at HX hz ⊢
  go_enter Try.func22, Try.ntmps22
  go_upto_region 1 with (fail)
  have A0 := Blk.new w (row y) 23
  have B0 := (Below.refl w.heap.size w).alloc (Nat.le_refl _) (.cells (row y) 23)
  generalize w.alloc _ = W at *
  have hcv := run_text_blk (P := Try.prog) W 85 5 9 Try.underlying85 Try.underlying5 Try.underlying9 w.heap.size 20 20 _ 23 hl A0
  rw [hx] at hcv
  clear A0 hl hx HX
  go_wp2
  go_ret
  exact ⟨rfl, B0⟩
end Go.Proofs.Ytplcdjmidelboaa
