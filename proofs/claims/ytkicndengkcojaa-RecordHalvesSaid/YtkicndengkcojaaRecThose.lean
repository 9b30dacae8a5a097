/- The items of some keys, in a list of their own. -/
import Derived.Test.YtkicndengkcojaaRecIs
import Derived.Test.YtkicndengkcojaaPkB
namespace Go.Proofs.Ytkicndengkcojaa
set_option maxRecDepth 100000
open Go Go.RowKit Go.Sort

/-- the items of some keys -/
def those (L : List It) (p : Nat → Bool) : List It := L.filter fun x => p x.1
theorem those_take {L : List It} {i : Nat} {x : It} (p : Nat → Bool) (hx : L[i]? = some x) : those (L.take (i + 1)) p = if p x.1 = true then those (L.take i) p ++ [x] else those (L.take i) p := by
  obtain ⟨hp, rfl⟩ := List.getElem?_eq_some_iff.1 hx
  unfold those
  rw [List.take_succ_eq_append_getElem hp, List.filter_append]
  by_cases h : p L[i].1 = true
  · rw [if_pos h, List.filter_cons_of_pos (by simpa using h)]; rfl
  · rw [if_neg h, List.filter_cons_of_neg (by simpa using h)]; simp
theorem p_rowA {ops : Array Oper} {rest : List Oper} {o : Oper} {a : Act} {w : World} {Q : Exit → Act → World → Prop} (hgd : o.guard = none) (x : Operand) (ho : o.op = .load 53 x)
    (g : Nat) (hx : a.eval x = .pointer (some ⟨g, 0, none⟩)) (k : Nat) (s : ByteArray) (hg : Blk w g (itC k s) 53)
    (h : wpList Try.prog ops Q rest (a.put o.dst (.agg #[.int .u64 (k : Int), .string s])) w) : wpList Try.prog ops Q (o :: rest) a w :=
  wpList_load_row hgd 53 x ho g hx 53 (itC k s) (0, 0) _ hg Try.underlying53 rfl sizeA h
theorem those_le (L : List It) (p : Nat → Bool) : (those L p).length ≤ L.length := List.length_filter_le ..

set_option maxHeartbeats 2000000 in
theorem thoseLo_any {w : World} {u : Value} {L : List It} (hT0 : Told w u L) (hl : L.length ≤ 1000000) (hkey : ∀ x ∈ L, x.1 < 18446744073709551616) (cap : Value) (p : Nat → Bool)
    (HF : Hid (∀ (w1 : World) (k : Nat), k < 18446744073709551616 → Below w.heap.size w w1 → Calls Try.prog 55 #[.int .u64 (k : Int), cap] w1 fun e w' => e = .returned (.bool (p k)) ∧ Below w1.heap.size w1 w')) :
    Calls Try.prog 54 #[u, .func (.func 55) #[] #[cap]] w fun e w' => ∃ v, e = .returned v ∧ w'.ownsRow w.heap.size 53 2 v (those L p).length (flat (those L p)) ∧ Below w.heap.size w w' := by
  obtain ⟨a, c, rfl⟩ := told_shape hT0
  obtain ⟨n, hn⟩ : ∃ n, n = L.length := ⟨_, rfl⟩
  rw [← hn] at hT0 hl ⊢
  have HN := Lib.hid hn
  have HT := Lib.hid hT0
  have HK := Lib.hid hkey
  clear hT0 hn hkey
  go_enter Try.func54, Try.ntmps54
  go_wp2
  go_loopw [5, 7, 10] (fun v _ i wr => ∃ q : Nat, q ≤ n ∧ i = .int .i64 (q : Int) ∧ Below w.heap.size w wr ∧ wr.ownsRow w.heap.size 53 2 v (those (L.take q) p).length (flat (those (L.take q) p))) (fun _ _ i _ => n - (intOf i).toNat)
  case atStart => exact ⟨0, by omega, rfl, Below.refl _ _, World.ownsRow_nil _ _ _ _⟩
  case round =>
    obtain ⟨q, hq, rfl, hB, hO⟩ := hrel
    have HB := Lib.hid hB
    have HO := Lib.hid hO
    clear hB hO
    by_cases hlt : q < n
    · obtain ⟨x, hx⟩ : ∃ x, L[q]? = some x := ⟨_, List.getElem?_eq_getElem (by have := HN.out; omega)⟩
      have hT : Told wr (.slice a n c) L := HT.out.bel HB.out
      obtain ⟨b1, o1, rfl, _, _, hr⟩ := told_at hT hx
      have hk := HK.out x (List.mem_of_getElem? hx)
      have hdt := those_take p hx
      have hdl : (those (L.take q) p).length ≤ q := Nat.le_trans (those_le _ _) (by rw [List.length_take]; omega)
      clear hx hT
      have HM := Lib.hid (made wr x.1 x.2 #[.int .u64 0, .string ⟨#[]⟩])
      have HR := Lib.hid hr
      have HDT := Lib.hid hdt
      clear hr hdt
      go_upto_region 5 with (first
        | (refine p_midA rfl _ rfl _ _ rfl x.1 x.2 HR.out ?_)
        | (refine p_storeA rfl _ _ rfl wr.heap.size rfl x.1 x.2 rfl #[.int .u64 0, .string ⟨#[]⟩] rfl (Blk.new _ _ _) ?_))
      generalize (wr.alloc _).setRow _ _ = W at *
      have d1 : W.cell? ⟨wr.heap.size, 0, none⟩ = some (.int .u64 (x.1 : Int)) := HM.out.blk.cell 0
      have HB2 := Lib.hid (rstep HB.out HM.out.bel)
      have HO2 := Lib.hid (own_bel HO.out HM.out.bel)
      have HC := Lib.hid (HF.out W x.1 hk HB2.out)
      clear hk HO HB
      obtain ⟨m, hm⟩ : ∃ m, m = (those (L.take q) p).length := ⟨_, rfl⟩
      rw [← hm] at hdl HO2
      have HMm := Lib.hid hm
      clear hm
      cases hp : p x.1
      · have HD : Hid (those (L.take (q + 1)) p = those (L.take q) p) := by have := HDT.out; rwa [if_neg (by simp [hp])] at this
        rw [hp] at HC
        clear HDT hp
        go_wp2_with (go_at_call 55; (with_reducible refine HC.out.mono ?_); rintro e w1 ⟨rfl, hb1⟩)
        refine ⟨⟨q + 1, by omega, by go_num, rstep HB2.out hb1, ?_⟩, by simp [intOf]; omega⟩
        rw [HD.out, ← HMm.out]
        exact own_bel HO2.out hb1
      · have HD : Hid (those (L.take (q + 1)) p = those (L.take q) p ++ [x]) := by have := HDT.out; rwa [if_pos hp] at this
        rw [hp] at HC
        clear HDT hp
        have HM3 := Lib.hid (fun w1 (hb : Below W.heap.size W w1) => HM.out.later hb)
        clear d1
        have d1 : W.cell? ⟨wr.heap.size, 0, none⟩ = some (.int .u64 (x.1 : Int)) := HM.out.blk.cell 0
        go_upto_region 6 with (go_at_call 55; (with_reducible refine HC.out.mono ?_); rintro e w1 ⟨rfl, hb1⟩)
        have HO3 := Lib.hid (own_bel HO2.out hb1)
        have HB3 := Lib.hid (rstep HB2.out hb1)
        have hbk := (HM3.out w1 hb1).blk
        have hs2 := HB3.out.size
        clear hb1 d1
        go_wp2_with (first
          | (refine p_rowA rfl _ rfl wr.heap.size rfl x.1 x.2 hbk ?_)
          | (at_builtin; refine wpList_snocA rfl _ _ rfl w.heap.size _ (those (L.take q) p) m rfl HO3.out HMm.out x.1 x.2 rfl (by omega) HB3.out hs2 ?_; intro v' w' h1 h2 h3; have H1 := Lib.hid h1; have H2 := Lib.hid h2; clear h1 h2 h3))
        refine ⟨⟨q + 1, by omega, by go_num, H2.out, ?_⟩, by simp [intOf]; omega⟩
        rw [HD.out, List.length_append, ← HMm.out]
        exact H1.out
    · obtain rfl : n = q := by omega
      have hall : L.take n = L := by rw [HN.out, List.take_length]
      rw [hall] at HO
      go_wp2
      go_ret
      exact ⟨_, rfl, HO.out, HB.out⟩

set_option maxHeartbeats 2000000 in
theorem thoseHi_any {w : World} {u : Value} {L : List It} (hT0 : Told w u L) (hl : L.length ≤ 1000000) (hkey : ∀ x ∈ L, x.1 < 18446744073709551616) (cap : Value) (p : Nat → Bool)
    (HF : Hid (∀ (w1 : World) (k : Nat), k < 18446744073709551616 → Below w.heap.size w w1 → Calls Try.prog 56 #[.int .u64 (k : Int), cap] w1 fun e w' => e = .returned (.bool (p k)) ∧ Below w1.heap.size w1 w')) :
    Calls Try.prog 54 #[u, .func (.func 56) #[] #[cap]] w fun e w' => ∃ v, e = .returned v ∧ w'.ownsRow w.heap.size 53 2 v (those L p).length (flat (those L p)) ∧ Below w.heap.size w w' := by
  obtain ⟨a, c, rfl⟩ := told_shape hT0
  obtain ⟨n, hn⟩ : ∃ n, n = L.length := ⟨_, rfl⟩
  rw [← hn] at hT0 hl ⊢
  have HN := Lib.hid hn
  have HT := Lib.hid hT0
  have HK := Lib.hid hkey
  clear hT0 hn hkey
  go_enter Try.func54, Try.ntmps54
  go_wp2
  go_loopw [5, 7, 10] (fun v _ i wr => ∃ q : Nat, q ≤ n ∧ i = .int .i64 (q : Int) ∧ Below w.heap.size w wr ∧ wr.ownsRow w.heap.size 53 2 v (those (L.take q) p).length (flat (those (L.take q) p))) (fun _ _ i _ => n - (intOf i).toNat)
  case atStart => exact ⟨0, by omega, rfl, Below.refl _ _, World.ownsRow_nil _ _ _ _⟩
  case round =>
    obtain ⟨q, hq, rfl, hB, hO⟩ := hrel
    have HB := Lib.hid hB
    have HO := Lib.hid hO
    clear hB hO
    by_cases hlt : q < n
    · obtain ⟨x, hx⟩ : ∃ x, L[q]? = some x := ⟨_, List.getElem?_eq_getElem (by have := HN.out; omega)⟩
      have hT : Told wr (.slice a n c) L := HT.out.bel HB.out
      obtain ⟨b1, o1, rfl, _, _, hr⟩ := told_at hT hx
      have hk := HK.out x (List.mem_of_getElem? hx)
      have hdt := those_take p hx
      have hdl : (those (L.take q) p).length ≤ q := Nat.le_trans (those_le _ _) (by rw [List.length_take]; omega)
      clear hx hT
      have HM := Lib.hid (made wr x.1 x.2 #[.int .u64 0, .string ⟨#[]⟩])
      have HR := Lib.hid hr
      have HDT := Lib.hid hdt
      clear hr hdt
      go_upto_region 5 with (first
        | (refine p_midA rfl _ rfl _ _ rfl x.1 x.2 HR.out ?_)
        | (refine p_storeA rfl _ _ rfl wr.heap.size rfl x.1 x.2 rfl #[.int .u64 0, .string ⟨#[]⟩] rfl (Blk.new _ _ _) ?_))
      generalize (wr.alloc _).setRow _ _ = W at *
      have d1 : W.cell? ⟨wr.heap.size, 0, none⟩ = some (.int .u64 (x.1 : Int)) := HM.out.blk.cell 0
      have HB2 := Lib.hid (rstep HB.out HM.out.bel)
      have HO2 := Lib.hid (own_bel HO.out HM.out.bel)
      have HC := Lib.hid (HF.out W x.1 hk HB2.out)
      clear hk HO HB
      obtain ⟨m, hm⟩ : ∃ m, m = (those (L.take q) p).length := ⟨_, rfl⟩
      rw [← hm] at hdl HO2
      have HMm := Lib.hid hm
      clear hm
      cases hp : p x.1
      · have HD : Hid (those (L.take (q + 1)) p = those (L.take q) p) := by have := HDT.out; rwa [if_neg (by simp [hp])] at this
        rw [hp] at HC
        clear HDT hp
        go_wp2_with (go_at_call 56; (with_reducible refine HC.out.mono ?_); rintro e w1 ⟨rfl, hb1⟩)
        refine ⟨⟨q + 1, by omega, by go_num, rstep HB2.out hb1, ?_⟩, by simp [intOf]; omega⟩
        rw [HD.out, ← HMm.out]
        exact own_bel HO2.out hb1
      · have HD : Hid (those (L.take (q + 1)) p = those (L.take q) p ++ [x]) := by have := HDT.out; rwa [if_pos hp] at this
        rw [hp] at HC
        clear HDT hp
        have HM3 := Lib.hid (fun w1 (hb : Below W.heap.size W w1) => HM.out.later hb)
        clear d1
        have d1 : W.cell? ⟨wr.heap.size, 0, none⟩ = some (.int .u64 (x.1 : Int)) := HM.out.blk.cell 0
        go_upto_region 6 with (go_at_call 56; (with_reducible refine HC.out.mono ?_); rintro e w1 ⟨rfl, hb1⟩)
        have HO3 := Lib.hid (own_bel HO2.out hb1)
        have HB3 := Lib.hid (rstep HB2.out hb1)
        have hbk := (HM3.out w1 hb1).blk
        have hs2 := HB3.out.size
        clear hb1 d1
        go_wp2_with (first
          | (refine p_rowA rfl _ rfl wr.heap.size rfl x.1 x.2 hbk ?_)
          | (at_builtin; refine wpList_snocA rfl _ _ rfl w.heap.size _ (those (L.take q) p) m rfl HO3.out HMm.out x.1 x.2 rfl (by omega) HB3.out hs2 ?_; intro v' w' h1 h2 h3; have H1 := Lib.hid h1; have H2 := Lib.hid h2; clear h1 h2 h3))
        refine ⟨⟨q + 1, by omega, by go_num, H2.out, ?_⟩, by simp [intOf]; omega⟩
        rw [HD.out, List.length_append, ← HMm.out]
        exact H1.out
    · obtain rfl : n = q := by omega
      have hall : L.take n = L := by rw [HN.out, List.take_length]
      rw [hall] at HO
      go_wp2
      go_ret
      exact ⟨_, rfl, HO.out, HB.out⟩

set_option maxHeartbeats 2000000 in
theorem thoseNot_any {w : World} {u : Value} {L : List It} (hT0 : Told w u L) (hl : L.length ≤ 1000000) (hkey : ∀ x ∈ L, x.1 < 18446744073709551616) (cap : Value) (p : Nat → Bool)
    (HF : Hid (∀ (w1 : World) (k : Nat), k < 18446744073709551616 → Below w.heap.size w w1 → Calls Try.prog 61 #[.int .u64 (k : Int), cap] w1 fun e w' => e = .returned (.bool (p k)) ∧ Below w1.heap.size w1 w')) :
    Calls Try.prog 54 #[u, .func (.func 61) #[] #[cap]] w fun e w' => ∃ v, e = .returned v ∧ w'.ownsRow w.heap.size 53 2 v (those L p).length (flat (those L p)) ∧ Below w.heap.size w w' := by
  obtain ⟨a, c, rfl⟩ := told_shape hT0
  obtain ⟨n, hn⟩ : ∃ n, n = L.length := ⟨_, rfl⟩
  rw [← hn] at hT0 hl ⊢
  have HN := Lib.hid hn
  have HT := Lib.hid hT0
  have HK := Lib.hid hkey
  clear hT0 hn hkey
  go_enter Try.func54, Try.ntmps54
  go_wp2
  go_loopw [5, 7, 10] (fun v _ i wr => ∃ q : Nat, q ≤ n ∧ i = .int .i64 (q : Int) ∧ Below w.heap.size w wr ∧ wr.ownsRow w.heap.size 53 2 v (those (L.take q) p).length (flat (those (L.take q) p))) (fun _ _ i _ => n - (intOf i).toNat)
  case atStart => exact ⟨0, by omega, rfl, Below.refl _ _, World.ownsRow_nil _ _ _ _⟩
  case round =>
    obtain ⟨q, hq, rfl, hB, hO⟩ := hrel
    have HB := Lib.hid hB
    have HO := Lib.hid hO
    clear hB hO
    by_cases hlt : q < n
    · obtain ⟨x, hx⟩ : ∃ x, L[q]? = some x := ⟨_, List.getElem?_eq_getElem (by have := HN.out; omega)⟩
      have hT : Told wr (.slice a n c) L := HT.out.bel HB.out
      obtain ⟨b1, o1, rfl, _, _, hr⟩ := told_at hT hx
      have hk := HK.out x (List.mem_of_getElem? hx)
      have hdt := those_take p hx
      have hdl : (those (L.take q) p).length ≤ q := Nat.le_trans (those_le _ _) (by rw [List.length_take]; omega)
      clear hx hT
      have HM := Lib.hid (made wr x.1 x.2 #[.int .u64 0, .string ⟨#[]⟩])
      have HR := Lib.hid hr
      have HDT := Lib.hid hdt
      clear hr hdt
      go_upto_region 5 with (first
        | (refine p_midA rfl _ rfl _ _ rfl x.1 x.2 HR.out ?_)
        | (refine p_storeA rfl _ _ rfl wr.heap.size rfl x.1 x.2 rfl #[.int .u64 0, .string ⟨#[]⟩] rfl (Blk.new _ _ _) ?_))
      generalize (wr.alloc _).setRow _ _ = W at *
      have d1 : W.cell? ⟨wr.heap.size, 0, none⟩ = some (.int .u64 (x.1 : Int)) := HM.out.blk.cell 0
      have HB2 := Lib.hid (rstep HB.out HM.out.bel)
      have HO2 := Lib.hid (own_bel HO.out HM.out.bel)
      have HC := Lib.hid (HF.out W x.1 hk HB2.out)
      clear hk HO HB
      obtain ⟨m, hm⟩ : ∃ m, m = (those (L.take q) p).length := ⟨_, rfl⟩
      rw [← hm] at hdl HO2
      have HMm := Lib.hid hm
      clear hm
      cases hp : p x.1
      · have HD : Hid (those (L.take (q + 1)) p = those (L.take q) p) := by have := HDT.out; rwa [if_neg (by simp [hp])] at this
        rw [hp] at HC
        clear HDT hp
        go_wp2_with (go_at_call 61; (with_reducible refine HC.out.mono ?_); rintro e w1 ⟨rfl, hb1⟩)
        refine ⟨⟨q + 1, by omega, by go_num, rstep HB2.out hb1, ?_⟩, by simp [intOf]; omega⟩
        rw [HD.out, ← HMm.out]
        exact own_bel HO2.out hb1
      · have HD : Hid (those (L.take (q + 1)) p = those (L.take q) p ++ [x]) := by have := HDT.out; rwa [if_pos hp] at this
        rw [hp] at HC
        clear HDT hp
        have HM3 := Lib.hid (fun w1 (hb : Below W.heap.size W w1) => HM.out.later hb)
        clear d1
        have d1 : W.cell? ⟨wr.heap.size, 0, none⟩ = some (.int .u64 (x.1 : Int)) := HM.out.blk.cell 0
        go_upto_region 6 with (go_at_call 61; (with_reducible refine HC.out.mono ?_); rintro e w1 ⟨rfl, hb1⟩)
        have HO3 := Lib.hid (own_bel HO2.out hb1)
        have HB3 := Lib.hid (rstep HB2.out hb1)
        have hbk := (HM3.out w1 hb1).blk
        have hs2 := HB3.out.size
        clear hb1 d1
        go_wp2_with (first
          | (refine p_rowA rfl _ rfl wr.heap.size rfl x.1 x.2 hbk ?_)
          | (at_builtin; refine wpList_snocA rfl _ _ rfl w.heap.size _ (those (L.take q) p) m rfl HO3.out HMm.out x.1 x.2 rfl (by omega) HB3.out hs2 ?_; intro v' w' h1 h2 h3; have H1 := Lib.hid h1; have H2 := Lib.hid h2; clear h1 h2 h3))
        refine ⟨⟨q + 1, by omega, by go_num, H2.out, ?_⟩, by simp [intOf]; omega⟩
        rw [HD.out, List.length_append, ← HMm.out]
        exact H1.out
    · obtain rfl : n = q := by omega
      have hall : L.take n = L := by rw [HN.out, List.take_length]
      rw [hall] at HO
      go_wp2
      go_ret
      exact ⟨_, rfl, HO.out, HB.out⟩

set_option maxHeartbeats 2000000 in
theorem thoseCov_any {w : World} {u : Value} {L : List It} (hT0 : Told w u L) (hl : L.length ≤ 1000000) (hkey : ∀ x ∈ L, x.1 < 18446744073709551616) (cap : Value) (p : Nat → Bool)
    (HF : Hid (∀ (w1 : World) (k : Nat), k < 18446744073709551616 → Below w.heap.size w w1 → Calls Try.prog 100 #[.int .u64 (k : Int), cap] w1 fun e w' => e = .returned (.bool (p k)) ∧ Below w1.heap.size w1 w')) :
    Calls Try.prog 54 #[u, .func (.func 100) #[] #[cap]] w fun e w' => ∃ v, e = .returned v ∧ w'.ownsRow w.heap.size 53 2 v (those L p).length (flat (those L p)) ∧ Below w.heap.size w w' := by
  obtain ⟨a, c, rfl⟩ := told_shape hT0
  obtain ⟨n, hn⟩ : ∃ n, n = L.length := ⟨_, rfl⟩
  rw [← hn] at hT0 hl ⊢
  have HN := Lib.hid hn
  have HT := Lib.hid hT0
  have HK := Lib.hid hkey
  clear hT0 hn hkey
  go_enter Try.func54, Try.ntmps54
  go_wp2
  go_loopw [5, 7, 10] (fun v _ i wr => ∃ q : Nat, q ≤ n ∧ i = .int .i64 (q : Int) ∧ Below w.heap.size w wr ∧ wr.ownsRow w.heap.size 53 2 v (those (L.take q) p).length (flat (those (L.take q) p))) (fun _ _ i _ => n - (intOf i).toNat)
  case atStart => exact ⟨0, by omega, rfl, Below.refl _ _, World.ownsRow_nil _ _ _ _⟩
  case round =>
    obtain ⟨q, hq, rfl, hB, hO⟩ := hrel
    have HB := Lib.hid hB
    have HO := Lib.hid hO
    clear hB hO
    by_cases hlt : q < n
    · obtain ⟨x, hx⟩ : ∃ x, L[q]? = some x := ⟨_, List.getElem?_eq_getElem (by have := HN.out; omega)⟩
      have hT : Told wr (.slice a n c) L := HT.out.bel HB.out
      obtain ⟨b1, o1, rfl, _, _, hr⟩ := told_at hT hx
      have hk := HK.out x (List.mem_of_getElem? hx)
      have hdt := those_take p hx
      have hdl : (those (L.take q) p).length ≤ q := Nat.le_trans (those_le _ _) (by rw [List.length_take]; omega)
      clear hx hT
      have HM := Lib.hid (made wr x.1 x.2 #[.int .u64 0, .string ⟨#[]⟩])
      have HR := Lib.hid hr
      have HDT := Lib.hid hdt
      clear hr hdt
      go_upto_region 5 with (first
        | (refine p_midA rfl _ rfl _ _ rfl x.1 x.2 HR.out ?_)
        | (refine p_storeA rfl _ _ rfl wr.heap.size rfl x.1 x.2 rfl #[.int .u64 0, .string ⟨#[]⟩] rfl (Blk.new _ _ _) ?_))
      generalize (wr.alloc _).setRow _ _ = W at *
      have d1 : W.cell? ⟨wr.heap.size, 0, none⟩ = some (.int .u64 (x.1 : Int)) := HM.out.blk.cell 0
      have HB2 := Lib.hid (rstep HB.out HM.out.bel)
      have HO2 := Lib.hid (own_bel HO.out HM.out.bel)
      have HC := Lib.hid (HF.out W x.1 hk HB2.out)
      clear hk HO HB
      obtain ⟨m, hm⟩ : ∃ m, m = (those (L.take q) p).length := ⟨_, rfl⟩
      rw [← hm] at hdl HO2
      have HMm := Lib.hid hm
      clear hm
      cases hp : p x.1
      · have HD : Hid (those (L.take (q + 1)) p = those (L.take q) p) := by have := HDT.out; rwa [if_neg (by simp [hp])] at this
        rw [hp] at HC
        clear HDT hp
        go_wp2_with (go_at_call 100; (with_reducible refine HC.out.mono ?_); rintro e w1 ⟨rfl, hb1⟩)
        refine ⟨⟨q + 1, by omega, by go_num, rstep HB2.out hb1, ?_⟩, by simp [intOf]; omega⟩
        rw [HD.out, ← HMm.out]
        exact own_bel HO2.out hb1
      · have HD : Hid (those (L.take (q + 1)) p = those (L.take q) p ++ [x]) := by have := HDT.out; rwa [if_pos hp] at this
        rw [hp] at HC
        clear HDT hp
        have HM3 := Lib.hid (fun w1 (hb : Below W.heap.size W w1) => HM.out.later hb)
        clear d1
        have d1 : W.cell? ⟨wr.heap.size, 0, none⟩ = some (.int .u64 (x.1 : Int)) := HM.out.blk.cell 0
        go_upto_region 6 with (go_at_call 100; (with_reducible refine HC.out.mono ?_); rintro e w1 ⟨rfl, hb1⟩)
        have HO3 := Lib.hid (own_bel HO2.out hb1)
        have HB3 := Lib.hid (rstep HB2.out hb1)
        have hbk := (HM3.out w1 hb1).blk
        have hs2 := HB3.out.size
        clear hb1 d1
        go_wp2_with (first
          | (refine p_rowA rfl _ rfl wr.heap.size rfl x.1 x.2 hbk ?_)
          | (at_builtin; refine wpList_snocA rfl _ _ rfl w.heap.size _ (those (L.take q) p) m rfl HO3.out HMm.out x.1 x.2 rfl (by omega) HB3.out hs2 ?_; intro v' w' h1 h2 h3; have H1 := Lib.hid h1; have H2 := Lib.hid h2; clear h1 h2 h3))
        refine ⟨⟨q + 1, by omega, by go_num, H2.out, ?_⟩, by simp [intOf]; omega⟩
        rw [HD.out, List.length_append, ← HMm.out]
        exact H1.out
    · obtain rfl : n = q := by omega
      have hall : L.take n = L := by rw [HN.out, List.take_length]
      rw [hall] at HO
      go_wp2
      go_ret
      exact ⟨_, rfl, HO.out, HB.out⟩
end Go.Proofs.Ytkicndengkcojaa
