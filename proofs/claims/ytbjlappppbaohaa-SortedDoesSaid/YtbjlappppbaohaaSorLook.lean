/- The methods that only look: Size, Rank, Get, Min, Max. -/
import Derived.Test.YtbjlappppbaohaaSorFind
namespace Go.Proofs.Ytbjlappppbaohaa
open Go Go.RowKit Go.Sort

theorem size_any {w : World} {g : Nat} {v : Value} {L : List It} (h : Mp w 57 61 g v L) : Calls Try.prog 11 #[.pointer (some ⟨g, 0, none⟩)] w fun e w' => e = .returned (.int .i64 L.length) ∧ w = w' := by
  have HA := Lib.hid (all_any h)
  obtain ⟨a, c, rfl⟩ : ∃ a c, v = .slice a L.length c := by
    rcases h.shape with ⟨rfl, rfl⟩ | ⟨b, c, rfl, _⟩
    · exact ⟨_, _, rfl⟩
    · exact ⟨_, _, rfl⟩
  clear h
  go_enter Try.func11, Try.ntmps11
  go_wp2_with (go_at_call 29; (with_reducible refine HA.out.mono ?_); rintro e w1 ⟨rfl, rfl⟩)
  go_ret
  exact ⟨rfl, rfl⟩
theorem size_nil (w : World) : Calls Try.prog 11 #[.pointer none] w fun e w' => e = .returned (.int .i64 0) ∧ w = w' := by
  have HA := Lib.hid (all_nil w)
  go_enter Try.func11, Try.ntmps11
  go_wp2_with (go_at_call 29; (with_reducible refine HA.out.mono ?_); rintro e w1 ⟨rfl, rfl⟩)
  go_ret
  exact ⟨rfl, rfl⟩
theorem rank_any {w : World} {g : Nat} {v : Value} {L : List It} (h : Mp w 57 61 g v L) (j : Nat) : Calls Try.prog 17 #[.pointer (some ⟨g, 0, none⟩), .int .u64 (j : Int)] w fun e w' => e = .returned (.int .i64 (rankL L j)) ∧ Below w.heap.size w w' := by
  have HF := Lib.hid (find_any h j)
  clear h
  generalize rankL L j = r at *
  generalize hasL L j = q at *
  go_enter Try.func17, Try.ntmps17
  go_wp2_with (go_at_call 30; (with_reducible refine HF.out.mono ?_); rintro e w1 ⟨rfl, hb1⟩)
  go_ret
  exact ⟨rfl, hb1⟩
theorem rank_nil (j : Nat) (w : World) : Calls Try.prog 17 #[.pointer none, .int .u64 (j : Int)] w fun e w' => e = .returned (.int .i64 0) ∧ w = w' := by
  have HF := Lib.hid (find_nil j w)
  go_enter Try.func17, Try.ntmps17
  go_wp2_with (go_at_call 30; (with_reducible refine HF.out.mono ?_); rintro e w1 ⟨rfl, rfl⟩)
  go_ret
  exact ⟨rfl, rfl⟩
/-- where an item lies that is there -/
theorem Mp.item {w w1 : World} {g : Nat} {v : Value} {L : List It} (h : Mp w 57 61 g v L) (hb1 : Below w.heap.size w w1) {i : Nat} {x : It} (hx : L[i]? = some x) :
    ∃ b c, v = .slice (some ⟨b, 0, none⟩) L.length c ∧ b < w.heap.size ∧ b ≠ g ∧ w1.cell? ⟨g, 0, none⟩ = some (.slice (some ⟨b, 0, none⟩) L.length c) ∧ w1.cell? ⟨b, i * 2, none⟩ = some (.int .u64 (x.1 : Int)) ∧ w1.cell? ⟨b, i * 2 + 1, none⟩ = some (.string x.2) ∧ w1.rangeAt b (i * 2) (itC x.1 x.2).toList := by
  rcases h.shape with ⟨_, rfl⟩ | ⟨b, c, rfl, _, _, hr, hb, hn⟩
  · simp at hx
  · have hr1 := range_bel hr hb1 hb
    obtain ⟨c1, c2⟩ := row_at hr1 hx
    have := row_item hr1 hx
    rw [Nat.zero_add] at this
    exact ⟨b, c, rfl, hb, hn, (h.bel hb1).cell, c1, c2, this⟩
set_option maxHeartbeats 1000000 in
theorem get_any {w : World} {g : Nat} {v : Value} {L : List It} (h : Mp w 57 61 g v L) (j : Nat) : Calls Try.prog 14 #[.pointer (some ⟨g, 0, none⟩), .int .u64 (j : Int)] w fun e w' => e = .returned (.tuple #[.string (valL L j), .bool (hasL L j)]) ∧ Below w.heap.size w w' := by
  have HF := Lib.hid (find_any h j)
  have HM := Lib.hid h
  cases hh : hasL L j with
  | false =>
    rw [hh] at HF
    rw [val_no hh]
    clear hh HM h
    go_enter Try.func14, Try.ntmps14
    go_wp2_with (go_at_call 30; (with_reducible refine HF.out.mono ?_); rintro e w1 ⟨rfl, hb1⟩)
    go_ret2
    exact ⟨rfl, hb1⟩
  | true =>
    rw [hh] at HF
    have HX := Lib.hid (at_rank h.sorted hh)
    have HL := Lib.hid (rank_lt h.sorted hh)
    clear hh h
    generalize valL L j = s at *
    generalize rankL L j = r at *
    go_enter Try.func14, Try.ntmps14
    go_wp2_with (go_at_call 30; (with_reducible refine HF.out.mono ?_); rintro e w1 ⟨rfl, hb1⟩; obtain ⟨b, c, hv, hb, hn, c0, c1, c2, _⟩ := HM.out.item hb1 HX.out; have hl := HL.out; have hl2 := HM.out.len)
    go_ret2
    exact ⟨rfl, hb1⟩
theorem get_nil (j : Nat) (w : World) : Calls Try.prog 14 #[.pointer none, .int .u64 (j : Int)] w fun e w' => e = .returned (.tuple #[.string ⟨#[]⟩, .bool false]) ∧ w = w' := by
  have HF := Lib.hid (find_nil j w)
  go_enter Try.func14, Try.ntmps14
  go_wp2_with (go_at_call 30; (with_reducible refine HF.out.mono ?_); rintro e w1 ⟨rfl, rfl⟩)
  go_ret2
  exact ⟨rfl, rfl⟩

/-- an item, and whether there is one -/
def minL (L : List It) : It := L.headD (0, ⟨#[]⟩)
def maxL (L : List It) : It := L.getLastD (0, ⟨#[]⟩)
theorem results_it {fn : Func} {p t : Tmp} (h : fn.results = #[.cell p 46, .tmp t]) (tmps : Array Value) (w : World) (g : Nat) (k : Nat) (s : ByteArray) (c : Bool)
    (hp : tmps.getD p undef = .pointer (some ⟨g, 0, none⟩)) (hv : tmps.getD t undef = .bool c) (hg : Blk w g (itC k s) 46) :
    (results fn tmps).run Try.prog w = .ok (.tuple #[.agg (itC k s), .bool c]) w := by
  have hp' : tmps[p]?.getD undef = .pointer (some ⟨g, 0, none⟩) := by simpa using hp
  have hv' : tmps[t]?.getD undef = .bool c := by simpa using hv
  simp [results, h, hp', hv', asAddr, run_loadVar_row w g 46 46 (itC k s) (0, 0) _ hg Try.underlying46 rfl sizeA]
theorem Mp.alloc {w : World} {T e g : Nat} {v : Value} {L : List It} (h : Mp w T e g v L) (o : Obj) : Mp (w.alloc o) T e g v L := h.bel ((Below.refl _ _).alloc (Nat.le_refl _) o)
set_option maxHeartbeats 1000000 in
theorem min_nil (w : World) : Calls Try.prog 20 #[.pointer none] w fun e w' => e = .returned (.tuple #[.agg (itC 0 ⟨#[]⟩), .bool false]) ∧ Below w.heap.size w w' := by
  have bel := (Below.refl w.heap.size w).alloc (Nat.le_refl _) (.cells (itC 0 ⟨#[]⟩) 46)
  have hb := Blk.new w (itC 0 ⟨#[]⟩) 46
  go_enter Try.func20, Try.ntmps20
  go_upto_region 1 with (fail)
  rw [it_zero]
  generalize w.alloc _ = W at *
  have HS := Lib.hid (size_nil W)
  go_wp2_with (first
    | (go_at_call 11; (with_reducible refine HS.out.mono ?_); rintro e w1 ⟨rfl, rfl⟩)
    | (refine p_storeA rfl _ _ rfl w.heap.size rfl 0 ⟨#[]⟩ rfl (itC 0 ⟨#[]⟩) rfl hb ?_))
  exact bodyPost_ret (results_it Try.results20 _ _ w.heap.size 0 ⟨#[]⟩ false rfl rfl (hb.setRow _)) rfl ⟨rfl, bel_setRow bel (Nat.le_refl _) _⟩
set_option maxHeartbeats 1000000 in
theorem max_nil (w : World) : Calls Try.prog 21 #[.pointer none] w fun e w' => e = .returned (.tuple #[.agg (itC 0 ⟨#[]⟩), .bool false]) ∧ Below w.heap.size w w' := by
  have bel := (Below.refl w.heap.size w).alloc (Nat.le_refl _) (.cells (itC 0 ⟨#[]⟩) 46)
  have hb := Blk.new w (itC 0 ⟨#[]⟩) 46
  go_enter Try.func21, Try.ntmps21
  go_upto_region 1 with (fail)
  rw [it_zero]
  generalize w.alloc _ = W at *
  have HS := Lib.hid (size_nil W)
  go_wp2_with (first
    | (go_at_call 11; (with_reducible refine HS.out.mono ?_); rintro e w1 ⟨rfl, rfl⟩)
    | (refine p_storeA rfl _ _ rfl w.heap.size rfl 0 ⟨#[]⟩ rfl (itC 0 ⟨#[]⟩) rfl hb ?_))
  exact bodyPost_ret (results_it Try.results21 _ _ w.heap.size 0 ⟨#[]⟩ false rfl rfl (hb.setRow _)) rfl ⟨rfl, bel_setRow bel (Nat.le_refl _) _⟩
set_option maxHeartbeats 1000000 in
theorem min_any {w : World} {g : Nat} {v : Value} {L : List It} (h : Mp w 57 61 g v L) : Calls Try.prog 20 #[.pointer (some ⟨g, 0, none⟩)] w fun e w' => e = .returned (.tuple #[.agg (itC (minL L).1 (minL L).2), .bool (decide (0 < L.length))]) ∧ Below w.heap.size w w' := by
  have bel := (Below.refl w.heap.size w).alloc (Nat.le_refl _) (.cells (itC 0 ⟨#[]⟩) 46)
  have hb := Blk.new w (itC 0 ⟨#[]⟩) 46
  have HM := Lib.hid h
  have hg := h.lt
  have hM := h.alloc (.cells (itC 0 ⟨#[]⟩) 46)
  clear h
  cases L with
  | nil =>
    go_enter Try.func20, Try.ntmps20
    go_upto_region 1 with (fail)
    rw [it_zero]
    generalize w.alloc _ = W at *
    have HS := Lib.hid (size_any hM)
    clear hM
    go_wp2_with (first
      | (go_at_call 11; (with_reducible refine HS.out.mono ?_); rintro e w1 ⟨rfl, rfl⟩)
      | (refine p_storeA rfl _ _ rfl w.heap.size rfl 0 ⟨#[]⟩ rfl (itC 0 ⟨#[]⟩) rfl hb ?_))
    exact bodyPost_ret (results_it Try.results20 _ _ w.heap.size 0 ⟨#[]⟩ false rfl rfl (hb.setRow _)) rfl ⟨rfl, bel_setRow bel (Nat.le_refl _) _⟩
  | cons x L =>
    obtain ⟨b, c, rfl, hb1, hn, c0, c1, c2, hr⟩ := HM.out.item bel (i := 0) (x := x) rfl
    have hd : decide (0 < (x :: L).length) = true := by simp
    have hx : minL (x :: L) = x := rfl
    obtain ⟨n, hn0⟩ : ∃ n, n = (x :: L).length := ⟨_, rfl⟩
    have hpos : 0 < n := by rw [hn0]; simp
    rw [hd, hx]
    rw [← hn0] at c0
    go_enter Try.func20, Try.ntmps20
    go_upto_region 1 with (fail)
    rw [it_zero]
    generalize w.alloc _ = W at *
    have HS := Lib.hid (size_any hM)
    rw [← hn0] at HS
    clear hM hd hx hn0
    rw [Nat.zero_mul] at hr
    go_wp2_with (first
      | (go_at_call 11; (with_reducible refine HS.out.mono ?_); rintro e w1 ⟨rfl, rfl⟩)
      | (refine p_midI rfl _ rfl b 0 rfl x.1 x.2 hr ?_)
      | (refine p_storeA rfl _ _ rfl w.heap.size rfl x.1 x.2 rfl (itC 0 ⟨#[]⟩) rfl hb ?_))
    exact bodyPost_ret (results_it Try.results20 _ _ w.heap.size x.1 x.2 true rfl rfl (hb.setRow _)) rfl ⟨rfl, bel_setRow bel (Nat.le_refl _) _⟩
set_option maxHeartbeats 1000000 in
theorem max_any {w : World} {g : Nat} {v : Value} {L : List It} (h : Mp w 57 61 g v L) : Calls Try.prog 21 #[.pointer (some ⟨g, 0, none⟩)] w fun e w' => e = .returned (.tuple #[.agg (itC (maxL L).1 (maxL L).2), .bool (decide (0 < L.length))]) ∧ Below w.heap.size w w' := by
  have bel := (Below.refl w.heap.size w).alloc (Nat.le_refl _) (.cells (itC 0 ⟨#[]⟩) 46)
  have hb := Blk.new w (itC 0 ⟨#[]⟩) 46
  have HM := Lib.hid h
  have hg := h.lt
  have hM := h.alloc (.cells (itC 0 ⟨#[]⟩) 46)
  clear h
  rcases Nat.eq_zero_or_pos L.length with h0 | hpos
  · obtain rfl := List.eq_nil_of_length_eq_zero h0
    go_enter Try.func21, Try.ntmps21
    go_upto_region 1 with (fail)
    rw [it_zero]
    generalize w.alloc _ = W at *
    have HS := Lib.hid (size_any hM)
    clear hM
    go_wp2_with (first
      | (go_at_call 11; (with_reducible refine HS.out.mono ?_); rintro e w1 ⟨rfl, rfl⟩)
      | (refine p_storeA rfl _ _ rfl w.heap.size rfl 0 ⟨#[]⟩ rfl (itC 0 ⟨#[]⟩) rfl hb ?_))
    exact bodyPost_ret (results_it Try.results21 _ _ w.heap.size 0 ⟨#[]⟩ false rfl rfl (hb.setRow _)) rfl ⟨rfl, bel_setRow bel (Nat.le_refl _) _⟩
  · have hx : L[L.length - 1]? = some (maxL L) := by
      unfold maxL
      rw [List.getLastD_eq_getLast?, ← List.getLast?_eq_getElem?]
      cases hq : L.getLast? with
      | none => rw [List.getLast?_eq_none_iff] at hq; subst hq; simp at hpos
      | some y => rfl
    obtain ⟨b, c, rfl, hb1, hn, c0, c1, c2, hr⟩ := HM.out.item bel hx
    have hd : decide (0 < L.length) = true := by simpa using hpos
    have hlen := HM.out.len
    rw [hd]
    obtain ⟨n, hn0⟩ : ∃ n, n + 1 = L.length := ⟨L.length - 1, by omega⟩
    rw [← hn0] at c0 hr hlen
    rw [Nat.add_sub_cancel] at hr
    generalize maxL L = x at *
    go_enter Try.func21, Try.ntmps21
    go_upto_region 1 with (fail)
    rw [it_zero]
    generalize w.alloc _ = W at *
    have HS := Lib.hid (size_any hM)
    rw [← hn0] at HS
    clear hM hd hx hn0 hpos
    have hn1 : ¬ ((n : Int) + 1 = 0) := by omega
    have hw : IntKind.i64.wrap ((n : Int) + 1 - 1) = (n : Int) := by rw [IntKind.wrap_i64]; omega
    go_wp2_with (first
      | (go_at_call 11; (with_reducible refine HS.out.mono ?_); rintro e w1 ⟨rfl, rfl⟩)
      | (refine p_midI rfl _ rfl b (n * 2) rfl x.1 x.2 hr ?_)
      | (refine p_storeA rfl _ _ rfl w.heap.size rfl x.1 x.2 rfl (itC 0 ⟨#[]⟩) rfl hb ?_))
    exact bodyPost_ret (results_it Try.results21 _ _ w.heap.size x.1 x.2 true rfl rfl (hb.setRow _)) rfl ⟨rfl, bel_setRow bel (Nat.le_refl _) _⟩
/-- New -/
theorem new_any (w : World) : Calls Try.prog 9 #[] w fun e w' => e = .returned (.pointer (some ⟨w.heap.size, 0, none⟩)) ∧ Mp w' 57 61 w.heap.size (.slice none 0 0) [] ∧ Below w.heap.size w w' := by
  have bel := (Below.refl w.heap.size w).alloc (Nat.le_refl _) (.cells #[.slice none 0 0] 57)
  have hb := Blk.new w #[.slice none 0 0] 57
  go_enter Try.func9, Try.ntmps9
  go_wp2
  go_ret
  exact ⟨rfl, ⟨hb, World.ownsRow_nil _ _ _ _, by simp [Value.ownBlock], sorted_nil, by simp, fun x hx => by simp at hx⟩, bel⟩
end Go.Proofs.Ytbjlappppbaohaa
