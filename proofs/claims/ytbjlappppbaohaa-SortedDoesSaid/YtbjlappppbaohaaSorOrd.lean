/- The document's rows of layer 7 hold. -/
import Derived.Test.YtbjlappppbaohaaSorHas
namespace Go.Proofs.Ytbjlappppbaohaa
open Go Go.RowKit Go.Sort

theorem o_loadA {o : Oper} {a : Act} {w : World} {K : Act → World → Prop} {Q : Exit → Act → World → Prop} (x : Operand) (ho : o.op = .load 46 x)
    (g : Nat) (hx : a.eval x = .pointer (some ⟨g, 0, none⟩)) (k : Nat) (s : ByteArray) (hg : Blk w g (itC k s) 46) (h : K (a.put o.dst (.agg (itC k s))) w) : o.wp Try.prog a w K Q :=
  wp_load_row 46 x ho g hx 46 _ (0, 0) _ hg Try.underlying46 rfl sizeA h
/-- an item's own block, made and stored into -/
structure Made (w w' : World) (b k : Nat) (s : ByteArray) : Prop where
  bel : Below w.heap.size w w'
  blk : Blk w' b (itC k s) 46
theorem made (w : World) (k : Nat) (s : ByteArray) (cs : Array Value) : Made w ((w.alloc (.cells cs 46)).setRow w.heap.size (itC k s)) w.heap.size k s :=
  ⟨bel_setRow ((Below.refl _ _).alloc (Nat.le_refl _) _) (Nat.le_refl _) _, (Blk.new w cs 46).setRow _⟩
theorem Made.later {w w' w2 : World} {b k : Nat} {s : ByteArray} (h : Made w w' b k s) (hb : Below w'.heap.size w' w2) : Made w w2 b k s := ⟨h.bel.trans (hb.mono h.bel.size), h.blk.below hb h.blk.lt⟩
/-- a slice of one item, written out -/
theorem lit_one (w : World) (k : Nat) (s : ByteArray) : Told (w.alloc (.cells (itC k s) 46)) (.slice (some ⟨w.heap.size, 0, none⟩) 1 1) [(k, s)] := by
  refine ⟨rfl, .inr ⟨w.heap.size, 0, 1, rfl, fun j v hj => ?_⟩⟩
  rw [Nat.zero_add, (Blk.new w (itC k s) 46).cell j]
  rw [← hj]
  exact (Array.getElem?_toList ..).symm
abbrev bA : ByteArray := ⟨#[97]⟩
abbrev bB : ByteArray := ⟨#[98]⟩
abbrev bC : ByteArray := ⟨#[99]⟩
theorem put1 {B : Nat} {w0 w : World} {g : Nat} (h : Has B w0 w g []) : Calls Try.prog 15 #[.pointer (some ⟨g, 0, none⟩), .int .u64 5, .string ⟨#[97]⟩] w fun e w' => e = .returned (.tuple #[.string ⟨#[]⟩, .bool false, .int .i64 0]) ∧ Has B w0 w' g [(5, bA)] :=
  has_put h 5 bA (by decide) (by decide) (by decide)
theorem put2 {B : Nat} {w0 w : World} {g : Nat} (h : Has B w0 w g [(5, bA)]) : Calls Try.prog 15 #[.pointer (some ⟨g, 0, none⟩), .int .u64 3, .string ⟨#[98]⟩] w fun e w' => e = .returned (.tuple #[.string ⟨#[]⟩, .bool false, .int .i64 0]) ∧ Has B w0 w' g [(3, bB), (5, bA)] :=
  has_put h 3 bB (by decide) (by decide) (by decide)
theorem put3 {B : Nat} {w0 w : World} {g : Nat} (h : Has B w0 w g [(3, bB), (5, bA)]) : Calls Try.prog 15 #[.pointer (some ⟨g, 0, none⟩), .int .u64 5, .string ⟨#[99]⟩] w fun e w' => e = .returned (.tuple #[.string ⟨#[97]⟩, .bool true, .int .i64 0]) ∧ Has B w0 w' g [(3, bB), (5, bC)] :=
  has_put h 5 bC (by decide) (by decide) (by decide)
theorem range4 {B : Nat} {w0 w : World} {g : Nat} (h : Has B w0 w g [(3, bB), (5, bC)]) : Calls Try.prog 16 #[.pointer (some ⟨g, 0, none⟩), .int .u64 4, .int .u64 9, .int .i64 7] w (HadRows B w0 w g [(3, bB), (5, bC)] [(5, bC)]) :=
  has_range h 4 9 7 (by decide)
theorem min5 {B : Nat} {w0 w : World} {g : Nat} (h : Has B w0 w g [(3, bB), (5, bC)]) : Calls Try.prog 20 #[.pointer (some ⟨g, 0, none⟩)] w fun e w' => e = .returned (.tuple #[.agg (itC 3 bB), .bool true]) ∧ Has B w0 w' g [(3, bB), (5, bC)] ∧ Below w.heap.size w w' :=
  has_min h
theorem rank6 {B : Nat} {w0 w : World} {g : Nat} (h : Has B w0 w g [(3, bB), (5, bC)]) : Calls Try.prog 17 #[.pointer (some ⟨g, 0, none⟩), .int .u64 4] w fun e w' => e = .returned (.int .i64 1) ∧ Has B w0 w' g [(3, bB), (5, bC)] ∧ Below w.heap.size w w' :=
  has_rank h 4
theorem size7 {B : Nat} {w0 w : World} {g : Nat} (h : Has B w0 w g [(3, bB), (5, bC)]) : Calls Try.prog 11 #[.pointer (some ⟨g, 0, none⟩)] w fun e w' => e = .returned (.int .i64 2) ∧ w = w' :=
  has_size h
/-- of two rows that are told: are they the same? -/
theorem told_same {w : World} {u v : Value} {L K : List It} (hA : Told w u L) (hB : Told w v K) (hl : L.length ≤ 1000000) :
    Calls Try.prog 19 #[u, v] w fun e w' => e = .returned (.bool (decide (L = K))) ∧ Below w.heap.size w w' := same_any hA hB hl
theorem same8 {w : World} {u v : Value} (hA : Told w u [(5, bC)]) (hB : Told w v [(5, bC)]) : Calls Try.prog 19 #[u, v] w fun e w' => e = .returned (.bool true) ∧ Below w.heap.size w w' := by
  have := told_same hA hB (by decide)
  rwa [decide_eq_true rfl] at this

set_option maxRecDepth 100000 in
set_option maxHeartbeats 2000000 in
theorem ordered_any (w : World) : Calls Try.prog 12 #[] w fun e w' => e = .returned (.bool true) ∧ Below w.heap.size w w' := by
  have HW := Lib.hid (has_new w)
  go_enter Try.func12, Try.ntmps12
  go_upto_region 4 with (go_at_call 9; (with_reducible refine HW.out.mono ?_); rintro e w1 ⟨rfl, h1⟩; have H1 := Lib.hid (put1 h1))
  go_upto_region 5 with (go_at_call 15; (with_reducible refine H1.out.mono ?_); rintro e w2 ⟨rfl, h2⟩; have H2 := Lib.hid (put2 h2))
  go_upto_region 6 with (go_at_call 15; (with_reducible refine H2.out.mono ?_); rintro e w3 ⟨rfl, h3⟩; have H3 := Lib.hid (put3 h3))
  go_upto_region 7 with (go_at_call 15; (with_reducible refine H3.out.mono ?_); rintro e w4 ⟨rfl, h4⟩; have H4 := Lib.hid (range4 h4))
  go_upto_region 8 with (go_at_call 16; (with_reducible refine H4.out.mono ?_); rintro e w5 ⟨ra, rc, rfl, ht5, h5, hb5⟩; have H5 := Lib.hid (min5 h5))
  go_upto_region 9 with (first
    | (go_at_call 20; (with_reducible refine H5.out.mono ?_); rintro e w6 ⟨rfl, h6, hb6⟩)
    | (refine p_storeA rfl _ _ rfl w6.heap.size rfl 3 bB rfl #[.int .u64 0, .string ⟨#[]⟩] rfl (Blk.new _ _ _) ?_))
  have hM := made w6 3 bB #[.int .u64 0, .string ⟨#[]⟩]
  have h7 := h6.bel hM.bel
  have ht7 := (ht5.bel hb6).bel hM.bel
  clear h1 h2 h3 h4 ht5 h5 hb5 h6 hb6 H1 H2 H3 H4 H5 HW
  generalize World.setRow _ _ _ = W at *
  have hL := lit_one W 5 bC
  have hbl := (Below.refl W.heap.size W).alloc (Nat.le_refl _) (.cells (itC 5 bC) 46)
  have h8 := h7.bel hbl
  have hM8 := hM.later hbl
  have HS : Hid (Calls Try.prog 19 #[.slice ra 1 rc, .slice (some ⟨W.heap.size, 0, none⟩) 1 1] (W.alloc (.cells #[.int .u64 5, .string ⟨#[99]⟩] 46)) fun e w' => e = .returned (.bool true) ∧ Below (W.alloc (.cells (itC 5 bC) 46)).heap.size (W.alloc (.cells (itC 5 bC) 46)) w') := same8 (ht7.bel hbl) hL
  have he : eqI (3, bB) (3, bB) = true := eqI_iff.2 rfl
  clear hL h7 hM ht7 hbl
  go_wp2_with (first
    | (go_at_call 19; (with_reducible refine HS.out.mono ?_); rintro e w9 ⟨rfl, hb9⟩; have h9 := h8.bel hb9; have hM9 := hM8.later hb9; have HR := Lib.hid (rank6 h9); clear hb9 h8 hM8)
    | (go_at_call 17; (with_reducible refine HR.out.mono ?_); rintro e w10 ⟨rfl, h10, hb10⟩; have hM10 := hM9.later hb10; have HZ := Lib.hid (size7 h10); clear hM9 hb10)
    | (go_guarded; refine o_loadA _ rfl _ rfl 3 bB (by with_reducible exact hM10.blk) ?_; simp only [Act.put, List.setIfInBounds_toArray, List.set_cons_succ, List.set_cons_zero])
    | (go_guarded; refine o_eqlI _ _ rfl (3, bB) (3, bB) rfl rfl he ?_; simp only [Act.put, List.setIfInBounds_toArray, List.set_cons_succ, List.set_cons_zero])
    | (go_at_call 11; (with_reducible refine HZ.out.mono ?_); rintro e w11 ⟨rfl, rfl⟩))
  go_ret
  exact ⟨rfl, h10.below⟩
end Go.Proofs.Ytbjlappppbaohaa
