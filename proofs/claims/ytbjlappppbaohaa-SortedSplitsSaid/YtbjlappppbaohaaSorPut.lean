/- Put and Drop. -/
import Derived.Test.YtbjlappppbaohaaSorIns2
import Derived.Test.YtbjlappppbaohaaSorDel
import Derived.Test.YtbjlappppbaohaaSorLook
import Derived.Test.YtbjlappppbaohaaSorClone
namespace Go.Proofs.Ytbjlappppbaohaa
open Go Go.RowKit Go.Sort

theorem ins_any (v : Value) (i : Nat) (L : List It) (k : Nat) (s : ByteArray) (vb : Nat) (w : World) (hO : w.ownsRow 0 61 2 v L.length (flat L)) (hi : i ≤ L.length) (hn : L.length ≤ 1000000) (hv : Blk w vb (itC k s) 61) (hne : v.ownBlock ≠ some vb) :
    Calls Try.prog 38 #[v, .int .i64 i, .slice (some ⟨vb, 0, none⟩) 1 1] w fun e w' => ∃ v', e = .returned v' ∧ Put w w' v v' (L.take i ++ (k, s) :: L.drop i) := by
  rcases Nat.lt_or_ge i L.length with h | h
  · rcases own_shape hO with ⟨rfl, h0⟩ | ⟨b, c, rfl, _, _, _, _⟩
    · omega
    · rcases Nat.lt_or_ge c (L.length + 1) with hc | hc
      · exact ins_full b c i L k s vb w hO h hn hc hv
      · exact ins_mid b c i L k s vb w hO h hn hc hv (fun e => hne (by rw [e]; rfl))
  · obtain rfl : i = L.length := by omega
    rw [List.take_length, List.drop_length]
    exact ins_end v L k s vb w hO hn hv

/-- behind a change of the map in g, whose slice was v -/
def After (w w' : World) (g : Nat) (v v' : Value) (L : List It) : Prop := Mp w' 57 61 g v' L ∧ Chg w w' g v ∧ (v'.ownBlock = v.ownBlock ∨ ∃ f, v'.ownBlock = some f ∧ w.heap.size ≤ f)
theorem put_back {w w2 w3 : World} {g : Nat} {v v' : Value} {L K : List It} (h : Mp w 57 61 g v L) (hb : Below w.heap.size w w2) (hP : Put w2 w3 v v' K) (hS : Sorted K) (hl : K.length ≤ 1000000) (hk : ∀ x ∈ K, x.1 < 18446744073709551616) :
    After w (w3.setCell ⟨g, 0, none⟩ v') g v v' K := by
  obtain ⟨h1, h2, h3⟩ := hP
  have hB2 := h.blk.below hb h.lt
  have hB3 : Blk w3 g #[v] 57 := (h2.block g hB2.lt fun e => h.ne e.symm).trans hB2
  have hne : v'.ownBlock ≠ some g := by
    rcases h3 with h3 | ⟨f, h3, hf⟩
    · rw [h3]; exact h.ne
    · rw [h3]; intro e; injection e; have := hB2.lt; omega
  refine ⟨⟨hB3.put 0 v', own_keep h1 fun k hk => Below.heap_setCell _ _ _ _ (by intro e; exact hne (by rw [hk]; simpa using e)), hne, hS, hl, hk⟩, ((Chg.of hb g v).trans (Chg.grownBy h2)).setCell 0 v', h3.imp id ?_⟩
  rintro ⟨f, h4, h5⟩
  exact ⟨f, h4, Nat.le_trans hb.size h5⟩
theorem new_len {L : List It} {r : Nat} {x : It} (hr : r ≤ L.length) : (L.take r ++ x :: L.drop r).length = L.length + 1 := by simp; omega

set_option maxHeartbeats 2000000 in
theorem insert_any {w : World} {g : Nat} {v : Value} {L : List It} (h : Mp w 57 61 g v L) (r k : Nat) (s : ByteArray) (hr : r ≤ L.length) (hS : Sorted (L.take r ++ (k, s) :: L.drop r)) (hl : L.length + 1 ≤ 1000000) (hk : k < 18446744073709551616) :
    Calls Try.prog 32 #[.pointer (some ⟨g, 0, none⟩), .int .i64 r, .agg (itC k s)] w fun e w' => e = .returned (.tuple #[]) ∧ ∃ v', After w w' g v v' (L.take r ++ (k, s) :: L.drop r) := by
  have hM := h.alloc (.cells (itC k s) 61)
  have B0 := (Below.refl w.heap.size w).alloc (Nat.le_refl _) (.cells (itC k s) 61)
  have A0 := Blk.new w (itC k s) 61
  have hs0 : (w.alloc (.cells (itC k s) 61)).heap.size = w.heap.size + 1 := World.size_alloc ..
  have H := Lib.hid h
  have c0 := hM.cell
  have f0 : (w.alloc (.cells (itC k s) 61)).frozen? ⟨g, 0, none⟩ = false := hM.blk.free 0
  have hnb : v.ownBlock ≠ some (w.heap.size + 1) := fun e => by have := h.own_lt _ e; omega
  clear h
  go_enter Try.func32, Try.ntmps32
  go_upto_region 1 with (fail)
  generalize hW : w.alloc _ = W at *
  have i0 : W.cell? ⟨w.heap.size, 0, none⟩ = some (.int .u64 (k : Int)) := A0.cell 0
  have i1 : W.cell? ⟨w.heap.size, 1, none⟩ = some (.string s) := A0.cell 1
  have B1 : Below w.heap.size w (W.alloc (.cells #[.int .u64 (k : Int), .string s] 61)).drew := by
    exact (B0.alloc (by omega) _).trans ⟨rfl, rfl, rfl, Nat.le_refl _, fun _ _ => rfl⟩
  have hv : Blk (W.alloc (.cells #[.int .u64 (k : Int), .string s] 61)).drew W.heap.size (itC k s) 61 := (Blk.new W (itC k s) _).drew
  have HC := Lib.hid (ins_any v r L k s W.heap.size _ (own_bel (H.out.own) B1) hr H.out.len hv (by rw [hs0]; exact hnb))
  have HF : Hid (∀ v' w3, Put (W.alloc (.cells #[.int .u64 (k : Int), .string s] 61)).drew w3 v v' (L.take r ++ (k, s) :: L.drop r) → w3.frozen? ⟨g, 0, none⟩ = false ∧ w3.cell? ⟨g, 0, none⟩ = some v ∧ After w (w3.setCell ⟨g, 0, none⟩ v') g v v' (L.take r ++ (k, s) :: L.drop r) ∧ ∃ a n c, v' = .slice a n c) := by
    intro v' w3 hP
    have hB2 := H.out.blk.below B1 H.out.lt
    have hB3 : Blk w3 g #[v] 57 := (hP.2.1.block g hB2.lt fun e => H.out.ne e.symm).trans hB2
    refine ⟨hB3.free 0, hB3.cell 0, put_back H.out B1 hP hS (by rw [new_len hr]; exact hl) (fun x hx => ?_), ?_⟩
    · rcases List.mem_append.1 hx with hx | hx
      · exact H.out.key x (List.mem_of_mem_take hx)
      · rcases List.mem_cons.1 hx with rfl | hx
        · exact hk
        · exact H.out.key x (List.mem_of_mem_drop hx)
    · rcases own_shape hP.1 with ⟨rfl, _⟩ | ⟨_, _, rfl, _⟩
      · exact ⟨_, _, _, rfl⟩
      · exact ⟨_, _, _, rfl⟩
  have c1 := (hM.alloc (.cells #[.int .u64 (k : Int), .string s] 61)).cell
  obtain ⟨va, vc, rfl⟩ : ∃ va vc, v = .slice va L.length vc := by
    rcases own_shape H.out.own with ⟨rfl, h0⟩ | ⟨_, _, rfl, _⟩
    · rw [h0]; exact ⟨_, _, rfl⟩
    · exact ⟨_, _, rfl⟩
  clear hM B0 A0 hnb hv B1 hW hs0
  go_region_with (go_at_call 38; (with_reducible refine HC.out.mono ?_); rintro e w3 ⟨v', rfl, hP⟩; obtain ⟨f3, c3, hA, a', n', c', rfl⟩ := HF.out v' w3 hP; have HA := Lib.hid hA; clear hA hP)
  all_goals (go_end0; exact ⟨rfl, _, HA.out⟩)
theorem del_len {L : List It} {r : Nat} (hr : r < L.length) : (L.take r ++ L.drop (r + 1)).length = L.length - 1 := by simp; omega
set_option maxHeartbeats 1000000 in
theorem remove_any {w : World} {g : Nat} {v : Value} {L : List It} (h : Mp w 57 61 g v L) (r : Nat) (hr : r < L.length) (hS : Sorted (L.take r ++ L.drop (r + 1))) :
    Calls Try.prog 33 #[.pointer (some ⟨g, 0, none⟩), .int .i64 r] w fun e w' => e = .returned (.tuple #[]) ∧ ∃ v', After w w' g v v' (L.take r ++ L.drop (r + 1)) := by
  rcases h.shape with ⟨rfl, rfl⟩ | ⟨b, c, rfl, hlc, _, _, hb, hne⟩
  · simp at hr
  have hlen := h.len
  have HC := Lib.hid (del_any b c r L w h.own hr hlen)
  have HF : Hid (∀ w3, w3.ownsRow 0 61 2 (.slice (some ⟨b, 0, none⟩) (L.length - 1) c) (L.length - 1) (flat (L.take r ++ L.drop (r + 1))) → w.grownBy w3 (some b) → w3.frozen? ⟨g, 0, none⟩ = false ∧ w3.cell? ⟨g, 0, none⟩ = some (.slice (some ⟨b, 0, none⟩) L.length c) ∧ After w (w3.setCell ⟨g, 0, none⟩ (.slice (some ⟨b, 0, none⟩) (L.length - 1) c)) g (.slice (some ⟨b, 0, none⟩) L.length c) (.slice (some ⟨b, 0, none⟩) (L.length - 1) c) (L.take r ++ L.drop (r + 1))) := by
    intro w3 h1 h2
    have hB3 : Blk w3 g #[.slice (some ⟨b, 0, none⟩) L.length c] 57 := (h2.block g h.lt fun e => hne (Option.some.inj e).symm).trans h.blk
    refine ⟨hB3.free 0, hB3.cell 0, put_back (v' := .slice (some ⟨b, 0, none⟩) (L.length - 1) c) h (Below.refl _ _) ⟨by rw [del_len hr]; exact h1, h2, .inl rfl⟩ hS (by rw [del_len hr]; omega) fun x hx => ?_⟩
    rcases List.mem_append.1 hx with hx | hx
    · exact h.key x (List.mem_of_mem_take hx)
    · exact h.key x (List.mem_of_mem_drop hx)
  have c0 := h.cell
  have hw1 : IntKind.i64.wrap ((r : Int) + 1) = (r : Int) + 1 := IntWalk.i64_in _ (by omega)
  clear h hlc hb hne hS
  go_enter Try.func33, Try.ntmps33
  go_wp2_with (go_at_call 39; (with_reducible refine HC.out.mono ?_); rintro e w3 ⟨rfl, h1, h2⟩; obtain ⟨f3, c3, hA⟩ := HF.out w3 h1 h2; have HA := Lib.hid hA; clear hA h1 h2)
  go_end0
  exact ⟨rfl, _, HA.out⟩

/-! Put and Drop -/
theorem put_nil (k : Nat) (s : ByteArray) (w : World) : Calls Try.prog 15 #[.pointer none, .int .u64 (k : Int), .string s] w fun e w' => e = .returned (.tuple #[.string ⟨#[]⟩, .bool false, .int .i64 6]) ∧ w = w' := by
  go_enter Try.func15, Try.ntmps15
  go_wp2
  go_ret3
  exact ⟨rfl, rfl⟩
theorem put_big (g k : Nat) (s : ByteArray) (hs : 64 < s.size) (w : World) : Calls Try.prog 15 #[.pointer (some ⟨g, 0, none⟩), .int .u64 (k : Int), .string s] w fun e w' => e = .returned (.tuple #[.string ⟨#[]⟩, .bool false, .int .i64 2]) ∧ w = w' := by
  have h1 : (64 : Int) < (s.size : Int) := by omega
  go_enter Try.func15, Try.ntmps15
  go_wp2
  go_ret3
  exact ⟨rfl, rfl⟩
theorem After.pre {w w1 w2 : World} {g : Nat} {v v' : Value} {L : List It} (hb : Below w.heap.size w w1) (h : After w1 w2 g v v' L) : After w w2 g v v' L :=
  ⟨h.1, Chg.after hb h.2.1, h.2.2.imp id fun ⟨f, h1, h2⟩ => ⟨f, h1, Nat.le_trans hb.size h2⟩⟩
set_option maxHeartbeats 2000000 in
theorem put_any {w : World} {g : Nat} {v : Value} {L : List It} (h : Mp w 57 61 g v L) (k : Nat) (s : ByteArray) (hs : s.size ≤ 64) (hl : L.length + 1 ≤ 1000000) (hk : k < 18446744073709551616) :
    Calls Try.prog 15 #[.pointer (some ⟨g, 0, none⟩), .int .u64 (k : Int), .string s] w fun e w' => e = .returned (.tuple #[.string (valL L k), .bool (hasL L k), .int .i64 0]) ∧ ∃ v', After w w' g v v' (putL L k s) := by
  have h1 : ¬ (64 : Int) < (s.size : Int) := by omega
  have HCL := Lib.hid fun w => clone_any s w (by omega)
  have HM := Lib.hid h
  cases hh : hasL L k with
  | false =>
    have hr := rank_le L k
    have hp := put_new h.sorted k s hh
    have hS : Sorted (L.take (rankL L k) ++ (k, s) :: L.drop (rankL L k)) := by rw [hp]; exact put_sorted h.sorted k s
    have HF : Hid (∀ w1, Below w.heap.size w w1 → Calls Try.prog 30 #[.pointer (some ⟨g, 0, none⟩), .int .u64 (k : Int)] w1 fun e w' => e = .returned (.tuple #[.int .i64 (rankL L k), .bool false]) ∧ Below w1.heap.size w1 w') := fun w1 hb => by
      have := find_any (h.bel hb) k
      rwa [hh] at this
    have HI : Hid (∀ w1, Below w.heap.size w w1 → Calls Try.prog 32 #[.pointer (some ⟨g, 0, none⟩), .int .i64 (rankL L k), .agg #[.int .u64 (k : Int), .string s]] w1 fun e w' => e = .returned (.tuple #[]) ∧ ∃ v', After w1 w' g v v' (putL L k s)) := fun w1 hb => by
      have := insert_any (h.bel hb) (rankL L k) k s hr hS hl hk
      rw [hp] at this
      exact this
    rw [val_no hh]
    clear h hS hp hh HM
    generalize rankL L k = r at *
    go_enter Try.func15, Try.ntmps15
    go_wp2_with (first
      | (go_at_call 31; (with_reducible refine (HCL.out _).mono ?_); rintro e w1 ⟨rfl, hb1⟩)
      | (go_at_call 30; (with_reducible refine (HF.out _ hb1).mono ?_); rintro e w2 ⟨rfl, hb2⟩; have hb3 := hb1.trans (hb2.mono hb1.size))
      | (go_at_call 32; (with_reducible refine (HI.out _ hb3).mono ?_); rintro e w3 ⟨rfl, hA⟩; have HA := Lib.hid hA; clear hA))
    go_ret3
    obtain ⟨v', hA⟩ := HA.out
    exact ⟨rfl, v', hA.pre hb3⟩
  | true =>
    have HX := Lib.hid (at_rank h.sorted hh)
    have HL := Lib.hid (rank_lt h.sorted hh)
    have hp := put_old h.sorted k s hh
    have hpl : (putL L k s).length = L.length := by rw [put_length h.sorted, if_pos hh]
    have HF : Hid (∀ w1, Below w.heap.size w w1 → Calls Try.prog 30 #[.pointer (some ⟨g, 0, none⟩), .int .u64 (k : Int)] w1 fun e w' => e = .returned (.tuple #[.int .i64 (rankL L k), .bool true]) ∧ Below w1.heap.size w1 w') := fun w1 hb => by
      have := find_any (h.bel hb) k
      rwa [hh] at this
    have HE : Hid (∀ w2 b c, Below w.heap.size w w2 → v = .slice (some ⟨b, 0, none⟩) L.length c → b ≠ g → After w (w2.setCell ⟨b, rankL L k * 2 + 1, none⟩ (.string s)) g v v (putL L k s)) := fun w2 b c hb hv hne => by
      have hm := h.bel hb
      have ho := hm.own
      rw [hv] at ho
      obtain ⟨o1, o2⟩ := ho.stored (rankL L k * 2 + 1) (.string s)
      rw [flat_set s HX.out, hp] at o1
      rw [← hv] at o1
      refine ⟨⟨hm.blk.other _ _ _ (fun e => hne e.symm), by rw [hpl]; exact o1, h.ne, put_sorted h.sorted k s, by rw [hpl]; exact h.len, put_bound h.key hk⟩, ?_, .inl rfl⟩
      refine (Chg.of hb g v).trans (Chg.grownBy ?_)
      rw [hv]
      exact o2
    have hlen := h.len
    clear h hp hh hpl
    generalize valL L k = s0 at *
    generalize rankL L k = r at *
    go_enter Try.func15, Try.ntmps15
    go_upto_region 10 with (first
      | (go_at_call 31; (with_reducible refine (HCL.out _).mono ?_); rintro e w1 ⟨rfl, hb1⟩)
      | (go_at_call 30; (with_reducible refine (HF.out _ hb1).mono ?_); rintro e w2 ⟨rfl, hb2⟩; have hb3 := hb1.trans (hb2.mono hb1.size)))
    obtain ⟨b, c, hv, hbl, hn, c0, c1, c2, _⟩ := HM.out.item hb3 HX.out
    have hE := HE.out w2 b c hb3 hv hn
    have hrl := HL.out
    have f2 : w2.frozen? ⟨b, r * 2 + 1, none⟩ = false := by
      have := (HM.out.bel hb3).own
      rw [hv] at this
      exact this.frozenAt _
    have HE2 := Lib.hid hE
    have HV := Lib.hid hv
    clear hE hv
    go_wp2
    go_ret3
    exact ⟨rfl, v, HE2.out⟩
set_option maxHeartbeats 2000000 in
theorem drop_any {w : World} {g : Nat} {v : Value} {L : List It} (h : Mp w 57 61 g v L) (k : Nat) :
    Calls Try.prog 18 #[.pointer (some ⟨g, 0, none⟩), .int .u64 (k : Int)] w fun e w' => e = .returned (.tuple #[.string (valL L k), .bool (hasL L k)]) ∧ ∃ v', After w w' g v v' (dropL L k) := by
  have HM := Lib.hid h
  cases hh : hasL L k with
  | false =>
    have HF : Hid (Calls Try.prog 30 #[.pointer (some ⟨g, 0, none⟩), .int .u64 (k : Int)] w fun e w' => e = .returned (.tuple #[.int .i64 (rankL L k), .bool false]) ∧ Below w.heap.size w w') := by
      have := find_any h k
      rwa [hh] at this
    rw [val_no hh, drop_no h.sorted k hh]
    clear h hh
    generalize rankL L k = r at *
    go_enter Try.func18, Try.ntmps18
    go_wp2_with (go_at_call 30; (with_reducible refine HF.out.mono ?_); rintro e w2 ⟨rfl, hb2⟩)
    go_ret2
    exact ⟨rfl, v, HM.out.bel hb2, Chg.of hb2 g v, .inl rfl⟩
  | true =>
    have HX := Lib.hid (at_rank h.sorted hh)
    have HL := Lib.hid (rank_lt h.sorted hh)
    have hp := drop_old h.sorted k hh
    have HF : Hid (Calls Try.prog 30 #[.pointer (some ⟨g, 0, none⟩), .int .u64 (k : Int)] w fun e w' => e = .returned (.tuple #[.int .i64 (rankL L k), .bool true]) ∧ Below w.heap.size w w') := by
      have := find_any h k
      rwa [hh] at this
    have HR : Hid (∀ w1, Below w.heap.size w w1 → Calls Try.prog 33 #[.pointer (some ⟨g, 0, none⟩), .int .i64 (rankL L k)] w1 fun e w' => e = .returned (.tuple #[]) ∧ ∃ v', After w1 w' g v v' (dropL L k)) := fun w1 hb => by
      have := remove_any (h.bel hb) (rankL L k) (rank_lt h.sorted hh) (by rw [hp]; exact drop_sorted h.sorted k)
      rwa [hp] at this
    have hlen := h.len
    clear h hp hh
    generalize valL L k = s0 at *
    generalize rankL L k = r at *
    go_enter Try.func18, Try.ntmps18
    go_upto_region 4 with (go_at_call 30; (with_reducible refine HF.out.mono ?_); rintro e w2 ⟨rfl, hb2⟩)
    obtain ⟨b, c, hv, hbl, hn, c0, c1, c2, _⟩ := HM.out.item hb2 HX.out
    have HV := Lib.hid hv
    have hrl := HL.out
    clear hv
    go_wp2_with (go_at_call 33; (with_reducible refine (HR.out _ hb2).mono ?_); rintro e w3 ⟨rfl, hA⟩; have HA := Lib.hid hA; clear hA)
    go_ret2
    obtain ⟨v', hA⟩ := HA.out
    exact ⟨rfl, v', hA.pre hb2⟩
theorem drop_nil (k : Nat) (w : World) : Calls Try.prog 18 #[.pointer none, .int .u64 (k : Int)] w fun e w' => e = .returned (.tuple #[.string ⟨#[]⟩, .bool false]) ∧ w = w' := by
  have HF := Lib.hid (find_nil k w)
  go_enter Try.func18, Try.ntmps18
  go_wp2_with (go_at_call 30; (with_reducible refine HF.out.mono ?_); rintro e w2 ⟨rfl, rfl⟩)
  go_ret2
  exact ⟨rfl, rfl⟩
end Go.Proofs.Ytbjlappppbaohaa
