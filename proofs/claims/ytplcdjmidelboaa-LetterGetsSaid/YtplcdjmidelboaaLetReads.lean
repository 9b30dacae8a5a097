/- What the document reads bytes as, whole: its reader, its steps, its letters. -/
import Derived.Test.YtplcdjmidelboaaLetRef
import Derived.Test.YtplcdjmidelboaaLetGet
import Derived.Test.YtplcdjmidelboaaWirGetL
import Derived.Test.YtplcdjmidelboaaLetGet3
import Derived.Test.YtplcdjmidelboaaLetOnly
import Derived.Test.YtplcdjmidelboaaLetGet4
import Derived.Deep.CutRange
import Derived.Deep.Upon
namespace Go.Proofs.Ytplcdjmidelboaa.Q
set_option maxRecDepth 100000
open Go Go.RowKit Go.Sort

/-- the reader lies in block g, has these bytes left, and this error -/
def Sr (ec : Nat) (w : World) (g : Nat) (l : List Nat) : Prop := Blk w g #[.string (txt l), .int .i64 (ec : Int)] 75
theorem Sr.cell {ec : Nat} {w : World} {g : Nat} {l : List Nat} (k : Sr ec w g l) : w.cell? ⟨g, 0, none⟩ = some (.string (txt l)) := Blk.cell k 0
theorem Sr.code {ec : Nat} {w : World} {g : Nat} {l : List Nat} (k : Sr ec w g l) : w.cell? ⟨g, 1, none⟩ = some (.int .i64 (ec : Int)) := Blk.cell k 1
theorem Sr.free {ec : Nat} {w : World} {g : Nat} {l : List Nat} (k : Sr ec w g l) : w.frozen? ⟨g, 0, none⟩ = false := Blk.free k 0
theorem Sr.free1 {ec : Nat} {w : World} {g : Nat} {l : List Nat} (k : Sr ec w g l) : w.frozen? ⟨g, 1, none⟩ = false := Blk.free k 1
theorem Sr.put {ec : Nat} {w : World} {g : Nat} {l : List Nat} (k : Sr ec w g l) (m : List Nat) : Sr ec (w.setCell ⟨g, 0, none⟩ (.string (txt m))) g m := Blk.put k 0 (.string (txt m))
theorem Sr.err {ec : Nat} {w : World} {g : Nat} {l : List Nat} (k : Sr ec w g l) (e' : Nat) : Sr e' (w.setCell ⟨g, 1, none⟩ (.int .i64 (e' : Int))) g l := Blk.put k 1 (.int .i64 (e' : Int))
theorem Sr.below {ec : Nat} {w w' : World} {g : Nat} {l : List Nat} (k : Sr ec w g l) (hb : Below w.heap.size w w') : Sr ec w' g l := Blk.below k hb (Blk.lt k)
theorem Sr.belowB {ec : Nat} {w w' : World} {g B : Nat} {l : List Nat} (k : Sr ec w g l) (hb : Below B w w') (hg : g < B) : Sr ec w' g l := Blk.below k hb hg
theorem Sr.lt {ec : Nat} {w : World} {g : Nat} {l : List Nat} (k : Sr ec w g l) : g < w.heap.size := Blk.lt k
theorem Sr.own {ec : Nat} {w wr : World} {g : Nat} {l : List Nat} (k : Sr ec w g l) (hb : Below w.heap.size w wr) : Sr ec wr g l := k.below hb
/-- a call of the document's reader: it answers, and has these bytes left -/
def Gets (ec : Nat) (f : FuncId) (g : Nat) (l : List Nat) (v : Value) (m : List Nat) : Prop :=
  ∀ w : World, Sr ec w g l → Calls Try.prog f #[.pointer (some ⟨g, 0, none⟩)] w fun e w' => e = .returned v ∧ Sr ec w' g m ∧ Keep w w' g g

theorem refNumM_any (ec : Nat) (g : Nat) (l : List Nat) (hl : ∀ b ∈ l, b < 256) (hz : l.length ≤ 1000000) :
    Gets ec 68 g l (.tuple #[.int .u64 ((rNum l).1 : Int), .int .i64 ((rNum l).2.2 : Int)]) (l.drop (rNum l).2.1) := by
  intro w hS
  have HG := Lib.hid (fun w => refGet_any l w hl hz)
  have hle := (rNum_lt hl).2
  have HC := Lib.hid (fun w => cut_from l (rNum l).2.1 hle w)
  have hcd := rNum_code l
  generalize rNum l = r at *
  obtain ⟨v, n, e⟩ := r
  simp only [numv] at *
  have c0 := hS.cell
  have HS := Lib.hid hS
  clear hS
  go_enter Try.func68, Try.ntmps68
  go_upto_region 2 with (go_at_call 77; (with_reducible refine (HG.out _).mono ?_); rintro e1 w1 ⟨rfl, hb1⟩)
  have HK := Lib.hid (Keep.of hb1 g g)
  replace HS := Lib.hid (HS.out.below hb1)
  clear hb1 c0 HG
  rcases hcd with rfl | ⟨rfl, rfl, rfl⟩ | ⟨rfl, rfl, rfl⟩
  · have c0 := HS.out.cell
    have f0 := HS.out.free
    have hc := HC.out
    clear HC
    go_wp2
    go_ret2
    exact ⟨rfl, HS.out.put _, HK.out.setCell 0 _⟩
  · go_wp2
    go_ret2
    exact ⟨rfl, HS.out, HK.out⟩
  · go_wp2
    go_ret2
    exact ⟨rfl, HS.out, HK.out⟩

set_option maxHeartbeats 1000000 in
theorem refPlM_any (ec : Nat) (g : Nat) (l : List Nat) (hl : ∀ b ∈ l, b < 256) (hz : l.length ≤ 1000000) :
    Gets ec 69 g l (.tuple #[idv (rPl l).1, .int .i64 ((rPl l).2.2 : Int)]) (l.drop (rPl l).2.1) := by
  intro w hS
  have HS := Lib.hid hS
  have hsz := txt_size l
  have hg := hS.lt
  clear hS
  by_cases h : l.length < 20
  · have HE : Hid (rPl l = (0, 0, 4)) := by unfold Hid rPl; rw [if_pos h]
    have hd : decide ((l.length : Int) < 20) = true := by simp; omega
    go_enter Try.func69, Try.ntmps69
    go_upto_region 2 with (fail)
    rw [zeros]
    have K := Lib.hid (MemO.made w (row (List.replicate 20 0)) (row (List.replicate 20 0)) 23)
    generalize (w.alloc _).alloc _ = W at *
    have c0 := (HS.out.own K.out.below).cell
    go_wp2_with (first | (refine wpList_load_row rfl 23 _ rfl (w.heap.size + 1) rfl 23 _ (0, 0) _ K.out.o Try.underlying23 rfl (info_id _ rfl) ?_) | (refine wpList_store_row rfl 23 _ _ rfl w.heap.size _ rfl rfl 23 _ K.out.z (info_id _ rfl) (size_id _ rfl _ rfl) (row8_one _) ?_))
    refine bodyPost_ret (results_idv2 Try.results69 _ _ w.heap.size (List.replicate 20 0) (.int .i64 4) rfl rfl (K.out.z.setRow _) rfl) rfl ?_
    rw [HE.out]
    exact ⟨rfl, HS.out.own (bel_setRow K.out.below (Nat.le_refl _) _), Keep.of (bel_setRow K.out.below (Nat.le_refl _) _) _ _⟩
  · have HV : Hid (row (tab 20 (gf l 20)) = row (dig 20 (valN (l.take 20)))) := by unfold Hid; rw [gf_full l 20 (by omega), (rPl_only hl h).1]
    have HE : Hid (rPl l = (valN (l.take 20), 20, 0)) := by unfold Hid rPl; rw [if_neg h]
    have hd : decide ((l.length : Int) < 20) = false := by simp; omega
    have HI := Lib.hid (fun (k : Nat) (hk : k < l.length) w => run_at l hl k hk w)
    have HC := Lib.hid (fun w => cut_from l 20 (by omega) w)
    go_enter Try.func69, Try.ntmps69
    go_upto_region 2 with (fail)
    rw [zeros]
    have K := Lib.hid (MemO.made w (row (List.replicate 20 0)) (row (List.replicate 20 0)) 23)
    generalize (w.alloc _).alloc _ = W at *
    have c0 := (HS.out.own K.out.below).cell
    go_wp2
    clear c0
    go_loopw [5] (fun i wr => ∃ k : Nat, k ≤ 20 ∧ i = .int .i64 (k : Int) ∧ MemO w wr (row (List.replicate 20 0)) (row (tab 20 (gf l k))) 23) (fun i _ => 20 - (intOf i).toNat)
    case atStart => exact ⟨0, by omega, rfl, by rw [gf_zero]; exact K.out⟩
    case round =>
      clear K
      obtain ⟨k, hk, rfl, K⟩ := hrel
      have c0 := (HS.out.own K.below).cell
      by_cases hlt : k < 20
      · have hi := HI.out k (by omega)
        have hx := hl l[k] (List.getElem_mem _)
        have HS2 := Lib.hid (gf_step l 20 k)
        have HG := Lib.hid (getD_at l k (by omega))
        have c1 : wr.cell? ⟨w.heap.size + 1, k, none⟩ = some (.int .u8 (gf l k k : Nat)) := by rw [K.o.cell, row_tab _ _ _ hlt]
        have f1 := K.o.free k
        have HK := Lib.hid K
        clear K HI
        generalize hX : l[k] = x at *
        clear hX
        go_wp2
        refine ⟨⟨k + 1, by omega, by go_num, ?_⟩, by simp [intOf]; omega⟩
        rw [← HS2.out, ← row8_set, HG.out]
        exact HK.out.put _ _
      · obtain rfl : k = 20 := by omega
        have HK := Lib.hid K
        clear K HI
        have f0 := (HS.out.own HK.out.below).free
        have hc : ∀ w, (Instr.slice 9 (.string (txt l)) (some (.int .i64 20)) none none).run Try.prog w = .ok (.string (txt (l.drop 20))) w := HC.out
        clear HC
        have ht : (tab 20 (gf l 20)).length = 20 := tab_length _ _
        have HZ : Hid (Blk (wr.setCell ⟨g, 0, none⟩ (.string (txt (l.drop 20)))) w.heap.size (row (List.replicate 20 0)) 23) := HK.out.z.other _ _ _ (by omega)
        have HO : Hid (Blk (wr.setCell ⟨g, 0, none⟩ (.string (txt (l.drop 20)))) (w.heap.size + 1) (row (tab 20 (gf l 20))) 23) := HK.out.o.other _ _ _ (by omega)
        go_wp2_with (first | (refine wpList_load_row rfl 23 _ rfl (w.heap.size + 1) rfl 23 _ (0, 0) _ HO.out Try.underlying23 rfl (info_id _ ht) ?_) | (refine wpList_store_row rfl 23 _ _ rfl w.heap.size _ rfl rfl 23 _ HZ.out (info_id _ ht) (size_id _ ht _ rfl) (row8_one _) ?_))
        refine bodyPost_ret (results_idv2 Try.results69 _ _ w.heap.size (tab 20 (gf l 20)) (.int .i64 0) rfl rfl (HZ.out.setRow _) ht) rfl ?_
        rw [HE.out, HV.out]
        have KK : Keep w (wr.setCell ⟨g, 0, none⟩ (.string (txt (l.drop 20)))) g g := (Keep.of HK.out.below g g).setCell 0 _
        refine ⟨rfl, Blk.setRow_other ((HS.out.own HK.out.below).put _) _ _ (by omega), ?_⟩
        exact ⟨KK.os, KK.tape, KK.output, by simpa [World.setRow] using KK.size, fun j hj h1 h2 => (Go.setRow_other _ _ j _ (by omega)).trans (KK.block j hj h1 h2)⟩


/-! what each call answers, with an error or without one -/
def numE (lo hi : Nat) (b : List Nat) (p e : Nat) : Nat × Nat × Nat := if e ≠ 0 then (lo, p, e) else match rdN b p with
  | .error c => (lo, p, c)
  | .ok (v, q) => if v < lo ∨ hi < v then (lo, q, 3) else (v, q, 0)
def plE (b : List Nat) (p e : Nat) : Nat × Nat × Nat := if e ≠ 0 then (0, p, e) else match rdP b p with
  | .error c => (0, p, c)
  | .ok (v, q) => (v, q, 0)
def peE (b : List Nat) (p e : Nat) : Pe × Nat × Nat := ((((numE 0 999 b p e).1 : Int), (plE b (numE 0 999 b p e).2.1 (numE 0 999 b p e).2.2).1), (plE b (numE 0 999 b p e).2.1 (numE 0 999 b p e).2.2).2)
theorem rdN_err {b : List Nat} {p c : Nat} (h : rdN b p = .error c) : c ≠ 0 ∧ (rNum (b.drop p)).2.2 = c ∧ (rNum (b.drop p)).2.1 = 0 := by
  unfold rdN at h
  split at h
  · cases h
  · rename_i h0
    injection h with h
    rcases rNum_code (b.drop p) with k | ⟨k, _, k2⟩ | ⟨k, _, k2⟩
    · exact absurd k h0
    · exact ⟨by omega, h, k2⟩
    · exact ⟨by omega, h, k2⟩
theorem rdN_yes {b : List Nat} {p v q : Nat} (h : rdN b p = .ok (v, q)) : (rNum (b.drop p)).2.2 = 0 ∧ (rNum (b.drop p)).1 = v ∧ p + (rNum (b.drop p)).2.1 = q := by
  unfold rdN at h
  split at h
  · rename_i h0
    simp only [Except.ok.injEq, Prod.mk.injEq] at h
    exact ⟨h0, h.1, h.2⟩
  · cases h
theorem rdP_err {b : List Nat} {p c : Nat} (h : rdP b p = .error c) : c ≠ 0 ∧ (rPl (b.drop p)).2.2 = c ∧ (rPl (b.drop p)).2.1 = 0 ∧ (rPl (b.drop p)).1 = 0 := by
  unfold rdP at h
  by_cases h1 : (b.drop p).length < 20
  · rw [show rPl (b.drop p) = (0, 0, 4) by unfold rPl; rw [if_pos h1]] at h ⊢
    cases h
    exact ⟨by decide, rfl, rfl, rfl⟩
  · rw [show rPl (b.drop p) = (valN ((b.drop p).take 20), 20, 0) by unfold rPl; rw [if_neg h1]] at h
    cases h
theorem rdP_yes {b : List Nat} {p v q : Nat} (h : rdP b p = .ok (v, q)) : (rPl (b.drop p)).2.2 = 0 ∧ (rPl (b.drop p)).1 = v ∧ p + (rPl (b.drop p)).2.1 = q := by
  unfold rdP at h
  split at h
  · rename_i h0
    simp only [Except.ok.injEq, Prod.mk.injEq] at h
    exact ⟨h0, h.1, h.2⟩
  · cases h
theorem drop_lt {b : List Nat} (h : ∀ x ∈ b, x < 256) (p : Nat) : ∀ x ∈ b.drop p, x < 256 := fun x hx => h x (List.mem_of_mem_drop hx)
theorem getsN_err {b : List Nat} {p c : Nat} (g ec : Nat) (hb : ∀ x ∈ b, x < 256) (hz : b.length ≤ 1000000) (h : rdN b p = .error c) : ∃ v : Nat, Gets ec 68 g (b.drop p) (.tuple #[.int .u64 (v : Int), .int .i64 (c : Int)]) (b.drop p) := by
  obtain ⟨_, h1, h2⟩ := rdN_err h
  have := refNumM_any ec g (b.drop p) (drop_lt hb p) (by rw [List.length_drop]; omega)
  rw [h1, h2, List.drop_zero] at this
  exact ⟨_, this⟩
theorem getsN_yes {b : List Nat} {p v q : Nat} (g ec : Nat) (hb : ∀ x ∈ b, x < 256) (hz : b.length ≤ 1000000) (h : rdN b p = .ok (v, q)) : Gets ec 68 g (b.drop p) (.tuple #[.int .u64 (v : Int), .int .i64 0]) (b.drop q) := by
  obtain ⟨h1, h2, h3⟩ := rdN_yes h
  have := refNumM_any ec g (b.drop p) (drop_lt hb p) (by rw [List.length_drop]; omega)
  rw [h1, h2, List.drop_drop, h3] at this
  exact this
theorem getsP_err {b : List Nat} {p c : Nat} (g ec : Nat) (hb : ∀ x ∈ b, x < 256) (hz : b.length ≤ 1000000) (h : rdP b p = .error c) : Gets ec 69 g (b.drop p) (.tuple #[idv 0, .int .i64 (c : Int)]) (b.drop p) := by
  obtain ⟨_, h1, h2, h3⟩ := rdP_err h
  have := refPlM_any ec g (b.drop p) (drop_lt hb p) (by rw [List.length_drop]; omega)
  rw [h1, h2, h3, List.drop_zero] at this
  exact this
theorem getsP_yes {b : List Nat} {p v q : Nat} (g ec : Nat) (hb : ∀ x ∈ b, x < 256) (hz : b.length ≤ 1000000) (h : rdP b p = .ok (v, q)) : Gets ec 69 g (b.drop p) (.tuple #[idv v, .int .i64 0]) (b.drop q) := by
  obtain ⟨h1, h2, h3⟩ := rdP_yes h
  have := refPlM_any ec g (b.drop p) (drop_lt hb p) (by rw [List.length_drop]; omega)
  rw [h1, h2, List.drop_drop, h3] at this
  exact this
/-- a call of the document's reader of letters -/
def Says (f : FuncId) (args : Array Value) (g : Nat) (b : List Nat) (p e : Nat) (v : Value) (p' e' : Nat) : Prop :=
  ∀ w : World, Sr e w g (b.drop p) → Calls Try.prog f (#[.pointer (some ⟨g, 0, none⟩)] ++ args) w fun r w' => r = .returned v ∧ Sr e' w' g (b.drop p') ∧ Keep w w' g g
set_option maxHeartbeats 2000000 in
theorem number_any (lo hi g : Nat) {b : List Nat} (hb : ∀ x ∈ b, x < 256) (hz : b.length ≤ 1000000) (p e : Nat) :
    ∀ w : World, Sr e w g (b.drop p) → Calls Try.prog 44 #[.pointer (some ⟨g, 0, none⟩), .int .u64 (lo : Int), .int .u64 (hi : Int)] w fun r w' => r = .returned (.int .u64 ((numE lo hi b p e).1 : Int)) ∧ Sr (numE lo hi b p e).2.2 w' g (b.drop (numE lo hi b p e).2.1) ∧ Keep w w' g g := by
  intro w hS
  have c1 := hS.code
  have HS := Lib.hid hS
  clear hS
  by_cases he : e = 0
  · subst he
    cases hn : rdN b p with
    | error c =>
      rw [show numE lo hi b p 0 = (lo, p, c) by unfold numE; rw [if_neg (by decide), hn]]
      obtain ⟨hc, _⟩ := rdN_err hn
      obtain ⟨v, hG⟩ := getsN_err g 0 hb hz hn
      have HC := Lib.hid (hG w HS.out)
      have d1 : ((c : Int) == 0) = false := by simp; omega
      have d2 : ((c : Int) != 0) = true := by simp; omega
      clear hn hG hc hb
      generalize b.drop p = m at *
      go_enter Try.func44, Try.ntmps44
      go_wp2_with (first
        | go_big_skip
        | (go_at_call 68; (with_reducible refine HC.out.mono ?_); rintro e1 w1 ⟨rfl, s1, k1⟩; have S1 := Lib.hid s1; have c2 := s1.code; have f2 := s1.free1; have K1 := Lib.hid k1; clear s1 k1))
      go_ret
      exact ⟨rfl, S1.out.err c, K1.out.setCell 1 _⟩
    | ok r =>
      obtain ⟨v, q⟩ := r
      have HC := Lib.hid (getsN_yes g 0 hb hz hn w HS.out)
      have hv : v < 18446744073709551616 := by
        have := rNum_lt (drop_lt hb p)
        rw [(rdN_yes hn).2.1] at this
        exact this.1
      by_cases h1 : v < lo ∨ hi < v
      · rw [show numE lo hi b p 0 = (lo, q, 3) by unfold numE; rw [if_neg (by decide), hn]; simp only; rw [if_pos h1]]
        clear hn hb HS
        generalize b.drop q = m at *
        generalize b.drop p = m0 at *
        by_cases h2 : v < lo
        · have d1 : decide ((v : Int) < (lo : Int)) = true := decide_eq_true (by omega)
          have d2 : decide (v < lo) = true := decide_eq_true h2
          clear h1 h2
          go_enter Try.func44, Try.ntmps44
          go_wp2_with (first
            | go_big_skip
            | (go_at_call 68; (with_reducible refine HC.out.mono ?_); rintro e1 w1 ⟨rfl, s1, k1⟩; have S1 := Lib.hid s1; have c2 := s1.code; have f2 := s1.free1; have K1 := Lib.hid k1; clear s1 k1))
          go_ret
          exact ⟨rfl, S1.out.err 3, K1.out.setCell 1 _⟩
        · have d1 : decide ((v : Int) < (lo : Int)) = false := decide_eq_false (by omega)
          have d2 : decide (v < lo) = false := decide_eq_false h2
          have d3 : decide ((hi : Int) < (v : Int)) = true := decide_eq_true (by omega)
          have d4 : decide (hi < v) = true := decide_eq_true (by omega)
          clear h1 h2
          go_enter Try.func44, Try.ntmps44
          go_wp2_with (first
            | go_big_skip
            | (go_at_call 68; (with_reducible refine HC.out.mono ?_); rintro e1 w1 ⟨rfl, s1, k1⟩; have S1 := Lib.hid s1; have c2 := s1.code; have f2 := s1.free1; have K1 := Lib.hid k1; clear s1 k1))
          go_ret
          exact ⟨rfl, S1.out.err 3, K1.out.setCell 1 _⟩
      · rw [show numE lo hi b p 0 = (v, q, 0) by unfold numE; rw [if_neg (by decide), hn]; simp only; rw [if_neg h1]]
        clear hn hb HS
        generalize b.drop q = m at *
        generalize b.drop p = m0 at *
        have d1 : decide ((v : Int) < (lo : Int)) = false := decide_eq_false (by omega)
        have d2 : decide (v < lo) = false := decide_eq_false (by omega)
        have d3 : decide ((hi : Int) < (v : Int)) = false := decide_eq_false (by omega)
        have d4 : decide (hi < v) = false := decide_eq_false (by omega)
        clear h1
        go_enter Try.func44, Try.ntmps44
        go_wp2_with (first
          | go_big_skip
          | (go_at_call 68; (with_reducible refine HC.out.mono ?_); rintro e1 w1 ⟨rfl, s1, k1⟩; have S1 := Lib.hid s1; have K1 := Lib.hid k1; clear s1 k1))
        go_ret
        exact ⟨rfl, S1.out, K1.out⟩
  · rw [show numE lo hi b p e = (lo, p, e) by unfold numE; rw [if_pos he]]
    have d1 : ((e : Int) != 0) = true := by simp; omega
    clear hb he
    generalize b.drop p = m at *
    go_enter Try.func44, Try.ntmps44
    go_wp2_with (first | go_big_skip)
    go_ret
    exact ⟨rfl, HS.out, Keep.refl _ _ _⟩
end Go.Proofs.Ytplcdjmidelboaa.Q

namespace Go.Proofs.Ytplcdjmidelboaa.Q
set_option maxRecDepth 100000
open Go Go.RowKit Go.Sort

theorem Sr.keepO {ec : Nat} {w w' : World} {g : Nat} {l : List Nat} (k : Sr ec w g l) (b : Nat) (cs : Array Value) (h : g ≠ b) (e : w' = w.setRow b cs) : Sr ec w' g l := e ▸ Blk.setRow_other k b cs h
theorem idsz (n : Nat) : (row (dig 20 n)).size = 20 := by rw [row_size, dig_length]
theorem idone (n : Nat) : (row (dig 20 n)).all (·.oneCell') = true := by rw [Array.all_eq_true_iff_forall_mem]; intro y hy; exact id_one n y (by simpa using hy)
theorem p_storeI {ops : Array Oper} {rest : List Oper} {op : Oper} {a : Act} {w : World} {Q : Exit → Act → World → Prop} (hgd : op.guard = none) (x y : Operand) (ho : op.op = .store 23 x y)
    (g : Nat) (hx : a.eval x = .pointer (some ⟨g, 0, none⟩)) (r : Nat) (hy : a.eval y = idv r) {q : Nat} (hg : Blk w g (row (dig 20 q)) 23)
    (h : wpList Try.prog ops Q rest (a.put op.dst undef) (w.setRow g (row (dig 20 r)))) : wpList Try.prog ops Q (op :: rest) a w :=
  wpList_store_row hgd 23 x y ho g (row (dig 20 r)) hx hy 23 (row (dig 20 q)) hg (by rw [idsz]; exact sizeId20) (by rw [idsz, idsz]) (idone r) h
theorem results_I1 {fn : Func} {c : Tmp} (h : fn.results = #[.cell c 23]) (tmps : Array Value) (w : World) (g : Nat) {n : Nat}
    (hp : tmps.getD c undef = .pointer (some ⟨g, 0, none⟩)) (hg : Blk w g (row (dig 20 n)) 23) : (results fn tmps).run Try.prog w = .ok (idv n) w :=
  results_cell_row h tmps w g 23 (row (dig 20 n)) (0, 0) _ hp hg Try.underlying23 rfl (by rw [idsz]; exact sizeId20)
set_option maxHeartbeats 2000000 in
theorem place_any (g : Nat) {b : List Nat} (hb : ∀ x ∈ b, x < 256) (hz : b.length ≤ 1000000) (p e : Nat) :
    ∀ w : World, Sr e w g (b.drop p) → Calls Try.prog 46 #[.pointer (some ⟨g, 0, none⟩)] w fun r w' => r = .returned (idv (plE b p e).1) ∧ Sr (plE b p e).2.2 w' g (b.drop (plE b p e).2.1) ∧ Keep w w' g g := by
  intro w hS
  have hgl := hS.lt
  have Z0 := Blk.new w (row (dig 20 0)) 23
  have B0 := (Below.refl w.heap.size w).alloc (Nat.le_refl _) (.cells (row (dig 20 0)) 23)
  have S0 := hS.below B0
  have c1 := S0.code
  have HS := Lib.hid S0
  have HB := Lib.hid (Keep.of B0 g g)
  clear hS S0
  by_cases he : e = 0
  · subst he
    have main : ∀ (v c q : Nat), Gets 0 69 g (b.drop p) (.tuple #[idv v, .int .i64 (c : Int)]) (b.drop q) → Calls Try.prog 46 #[.pointer (some ⟨g, 0, none⟩)] w fun r w' => r = .returned (idv v) ∧ Sr c w' g (b.drop q) ∧ Keep w w' g g := by
      intro v c q hG
      have HC := Lib.hid (hG _ HS.out)
      clear hG hb
      generalize b.drop p = m at *
      generalize b.drop q = m2 at *
      generalize hgz : w.heap.size = z at *
      go_enter Try.func46, Try.ntmps46
      go_upto_region 1 with (fail)
      rw [zeroI]
      (try rw [hgz])
      generalize w.alloc _ = W at *
      go_upto_region 4 with (first
        | go_big_skip
        | (go_at_call 69; (with_reducible refine HC.out.mono ?_); rintro e1 w1 ⟨rfl, s1, k1⟩; have S1 := Lib.hid s1; have K1 := Lib.hid (HB.out.trans k1); have Z1 := Blk.keep Z0 k1 (by omega) (by omega); clear s1 k1)
        | ((with_reducible show wpList _ _ _ (Oper.mk _ (Op.store _ _ _) _ _ _ _ :: _) _ _); refine wpList_store_new (idsz 0) rfl _ _ rfl v rfl rfl ?_))
      (try simp only [Act.put])
      have A2 := At.new w1 v
      have b2 := (Below.refl w1.heap.size w1).alloc (Nat.le_refl _) (.cells (row (dig 20 v)) 23)
      have Z2 := Blk.below Z1 b2 Z1.lt
      have S2 := S1.out.below b2
      have K2 := Lib.hid (K1.out.trans (Keep.of b2 g g))
      have hq : z < w1.heap.size := Z1.lt
      have hgq : g < w1.heap.size := S1.out.lt
      clear S1 K1 Z1 b2
      generalize w1.heap.size = q2 at *
      generalize w1.alloc _ = W2 at *
      have c2 := S2.code
      have f2 := S2.free1
      have HS2 := Lib.hid S2
      have HA2 : Hid (At (W2.setCell ⟨g, 1, none⟩ (.int .i64 (c : Int))) q2 v) := Blk.other A2 g 1 _ (by omega)
      have HZ2 : Hid (Blk (W2.setCell ⟨g, 1, none⟩ (.int .i64 (c : Int))) z (row (dig 20 0)) 23) := Blk.other Z2 g 1 _ (by omega)
      clear S2 A2 Z2 Z0
      go_wp2_with (first
        | (refine p_load rfl _ rfl q2 rfl v HA2.out ?_)
        | ((with_reducible show wpList _ _ _ (Oper.mk _ (Op.store _ _ _) _ _ _ _ :: _) _ _); refine p_storeI rfl _ _ rfl z rfl v rfl HZ2.out ?_))
      refine bodyPost_ret (results_I1 Try.results46 _ _ z rfl (HZ2.out.setRow _)) rfl ⟨rfl, Blk.setRow_other (HS2.out.err c) z _ (by omega), ?_⟩
      have KK := K2.out.setCell 1 (.int .i64 (c : Int))
      exact KK.thenB (bel_setRow (Below.refl _ _) (by omega) _)
    cases hn : rdP b p with
    | error c =>
      rw [show plE b p 0 = (0, p, c) by unfold plE; rw [if_neg (by decide), hn]]
      exact main 0 c p (getsP_err g 0 hb hz hn)
    | ok r =>
      obtain ⟨v, q⟩ := r
      rw [show plE b p 0 = (v, q, 0) by unfold plE; rw [if_neg (by decide), hn]]
      exact main v 0 q (getsP_yes g 0 hb hz hn)
  · rw [show plE b p e = (0, p, e) by unfold plE; rw [if_pos he]]
    have d1 : ((e : Int) != 0) = true := by simp; omega
    have hz0 : Try.prog.built 23 [] = some (row (dig 20 0)) := builtAddr
    clear hb he
    generalize b.drop p = m at *
    generalize hgz : w.heap.size = z at *
    go_enter Try.func46, Try.ntmps46
    go_upto_region 1 with (fail)
    rw [zeroI]
    (try rw [hgz])
    generalize w.alloc _ = W at *
    go_wp2_with (first
      | go_big_skip
      | ((with_reducible show wpList _ _ _ (Oper.mk _ (Op.store _ _ _) _ _ _ _ :: _) _ _); refine p_storeI rfl _ _ rfl z rfl 0 rfl Z0 ?_))
    refine bodyPost_ret (results_I1 Try.results46 _ _ z rfl (Z0.setRow _)) rfl ⟨rfl, Blk.setRow_other HS.out z _ (by omega), ?_⟩
    exact HB.out.thenB (bel_setRow (Below.refl _ _) (by omega) _)
theorem numE_le (lo hi : Nat) (h : lo ≤ hi) (b : List Nat) (p e : Nat) : (numE lo hi b p e).1 ≤ hi := by
  unfold numE
  split
  · exact h
  · split
    · exact h
    · split
      · exact h
      · simp only; omega
set_option maxHeartbeats 2000000 in
theorem peer_any (g : Nat) {b : List Nat} (hb : ∀ x ∈ b, x < 256) (hz : b.length ≤ 1000000) (p e : Nat) :
    ∀ w : World, Sr e w g (b.drop p) → Calls Try.prog 45 #[.pointer (some ⟨g, 0, none⟩)] w fun r w' => r = .returned (.agg (peA (peE b p e).1)) ∧ Sr (peE b p e).2.2 w' g (b.drop (peE b p e).2.1) ∧ Keep w w' g g := by
  intro w hS
  have hgl := hS.lt
  have X0 := PB.new w (0, 0)
  have B0 := (Below.refl w.heap.size w).alloc (Nat.le_refl _) (.cells (peA (0, 0)) 25)
  have S0 := hS.below B0
  have HB := Lib.hid (Keep.of B0 g g)
  have HN : Calls Try.prog 44 #[.pointer (some ⟨g, 0, none⟩), .int .u64 0, .int .u64 999] (w.alloc (.cells (peA (0, 0)) 25)) _ := number_any 0 999 g hb hz p e _ S0
  have HP := Lib.hid (place_any g hb hz (numE 0 999 b p e).2.1 (numE 0 999 b p e).2.2)
  have hle := numE_le 0 999 (by decide) b p e
  unfold peE
  simp only at *
  clear hS S0 hb
  generalize numE 0 999 b p e = r1 at *
  obtain ⟨n, p1, e1⟩ := r1
  simp only at *
  generalize plE b p1 e1 = r2 at *
  obtain ⟨i, p2, e2⟩ := r2
  simp only at *
  have HC := Lib.hid HN
  clear HN
  have hcv : IntKind.i64.wrap (n : Int) = (n : Int) := IntWalk.i64_in _ (by omega)
  generalize b.drop p1 = m1 at *
  generalize b.drop p2 = m2 at *
  generalize hgz : w.heap.size = z at *
  go_enter Try.func45, Try.ntmps45
  go_upto_region 1 with (fail)
  rw [zeroPe]
  (try rw [hgz])
  generalize w.alloc _ = W at *
  go_upto_region 3 with (first
    | (go_at_call 44; (with_reducible refine HC.out.mono ?_); rintro e3 w1 ⟨rfl, s1, k1⟩; have S1 := Lib.hid s1; have K1 := Lib.hid (HB.out.trans k1); have X1 := Blk.keep X0 k1 (by omega) (by omega); clear s1 k1)
    | (go_at_call 46; (with_reducible refine (HP.out _ S1.out).mono ?_); rintro e4 w2 ⟨rfl, s2, k2⟩; have S2 := Lib.hid s2; have K2 := Lib.hid (K1.out.trans k2); have X2 := Blk.keep X1 k2 (by omega) (by omega); clear s2 k2)
    | ((with_reducible show wpList _ _ _ (Oper.mk _ (Op.store _ _ _) _ _ _ _ :: _) _ _); refine wpList_store_new (idsz 0) rfl _ _ rfl i rfl rfl ?_))
  (try simp only [Act.put])
  have A3 := At.new w2 i
  have b3 := (Below.refl w2.heap.size w2).alloc (Nat.le_refl _) (.cells (row (dig 20 i)) 23)
  have X3 := Blk.below X2 b3 X2.lt
  have S3 := Lib.hid (S2.out.below b3)
  have K3 := Lib.hid (K2.out.trans (Keep.of b3 g g))
  clear X0 X1 X2 S1 S2 K1 K2 b3 HC HP
  generalize w2.heap.size = q2 at *
  generalize w2.alloc _ = W2 at *
  go_wp2_with (first
    | (refine p_load rfl _ rfl q2 rfl i A3 ?_)
    | (refine p_buildP rfl _ _ rfl (n : Int) i rfl rfl ?_)
    | ((with_reducible show wpList _ _ _ (Oper.mk _ (Op.store _ _ _) _ _ _ _ :: _) _ _); refine p_putO rfl _ _ rfl z rfl ((n : Int), i) rfl X3 ?_))
  refine bodyPost_ret (results_P1 Try.results45 _ _ z rfl (Blk.setRow X3 _)) rfl ⟨rfl, Blk.setRow_other S3.out z _ (by omega), ?_⟩
  exact K3.out.thenB (bel_setRow (Below.refl _ _) (by omega) _)
end Go.Proofs.Ytplcdjmidelboaa.Q

namespace Go.Proofs.Ytplcdjmidelboaa.Q
set_option maxRecDepth 100000
open Go Go.RowKit Go.Sort

/-- X is what is still to be read of a letter, or the error -/
def Al (X : Except Nat St) (f : St → Except Nat St) (l : Lt) (p e : Nat) : Prop := (e = 0 → X = f (l, p)) ∧ (e ≠ 0 → X = .error e)
theorem al_skip {X : Except Nat St} {F G : St → Except Nat St} {l : Lt} {p e : Nat} (h : Al X (fun s => thn (F s) G) l p e) (hF : F (l, p) = .ok (l, p)) : Al X G l p e :=
  ⟨fun he => by rw [h.1 he]; simp only [hF, thn], h.2⟩
theorem opt_skip {α : Type} {c : Bool} (h : c = false) (Y : Except Nat (α × Nat)) (s : St) (put : α → Lt) : opt c Y s put = .ok s := opt_no h Y s put
/-- a part that is read -/
theorem al_read {α : Type} {X : Except Nat St} {F G : St → Except Nat St} {l : Lt} {p e : Nat} {c : Bool} (hc : c = true) {Y : Except Nat (α × Nat)} {put : α → Lt} (h : Al X (fun s => thn (F s) G) l p e) (hF : F (l, p) = opt c Y (l, p) put) (r : α × Nat × Nat)
    (he : e ≠ 0 → r.2.2 = e) (hok : e = 0 → ∀ v q, Y = .ok (v, q) → r = (v, q, 0)) (hno : e = 0 → ∀ d, Y = .error d → d ≠ 0 ∧ r.2.2 = d) : Al X G (put r.1) r.2.1 r.2.2 := by
  by_cases h0 : e = 0
  · have hX := h.1 h0
    simp only [hF] at hX
    cases hY : Y with
    | error d =>
      obtain ⟨hd, hr⟩ := hno h0 d hY
      rw [opt_err hc hY] at hX
      exact ⟨fun k => absurd (hr.symm.trans k) hd, fun _ => by rw [hr]; exact hX⟩
    | ok y =>
      obtain ⟨v, q⟩ := y
      rw [hok h0 v q hY]
      rw [opt_ok hc hY] at hX
      exact ⟨fun _ => hX, fun k => absurd rfl k⟩
  · have hr := he h0
    rw [hr]
    exact ⟨fun k => absurd k h0, h.2⟩
theorem thn_eta (X : Except Nat St) : thn X Except.ok = X := by cases X <;> rfl
theorem numE_e {lo hi : Nat} {b : List Nat} {p e : Nat} (h : e ≠ 0) : numE lo hi b p e = (lo, p, e) := by unfold numE; rw [if_pos h]
theorem plE_e {b : List Nat} {p e : Nat} (h : e ≠ 0) : plE b p e = (0, p, e) := by unfold plE; rw [if_pos h]
theorem numE_ok {m : Nat} {b : List Nat} {p v q : Nat} (h : rdM m b p = .ok (v, q)) : numE 0 m b p 0 = (v, q, 0) := by
  unfold rdM at h
  unfold numE
  rw [if_neg (by decide)]
  cases hn : rdN b p with
  | error c => rw [hn] at h; cases h
  | ok r =>
    rw [hn] at h
    simp only at h ⊢
    split at h
    · cases h
    · rename_i hm
      injection h with h; injection h with e1 e2
      subst e1; subst e2
      rw [if_neg (by omega)]
theorem numE_no {m : Nat} {b : List Nat} {p d : Nat} (h : rdM m b p = .error d) : d ≠ 0 ∧ (numE 0 m b p 0).2.2 = d := by
  unfold rdM at h
  unfold numE
  rw [if_neg (by decide)]
  cases hn : rdN b p with
  | error c =>
    rw [hn] at h
    injection h with h
    subst h
    exact ⟨(rdN_err hn).1, rfl⟩
  | ok r =>
    rw [hn] at h
    simp only at h ⊢
    split at h
    · rename_i hm
      injection h with h
      subst h
      rw [if_pos (by omega)]
      exact ⟨by decide, rfl⟩
    · cases h
theorem rdM_max {b : List Nat} (hb : ∀ x ∈ b, x < 256) (p : Nat) : rdM 18446744073709551615 b p = rdN b p := by
  unfold rdM
  cases hn : rdN b p with
  | error c => rfl
  | ok r =>
    simp only
    rw [if_neg]
    have := (rdN_only hb hn).2
    omega
theorem plE_ok {b : List Nat} {p v q : Nat} (h : rdP b p = .ok (v, q)) : plE b p 0 = (v, q, 0) := by unfold plE; rw [if_neg (by decide), h]
theorem plE_no {b : List Nat} {p d : Nat} (h : rdP b p = .error d) : d ≠ 0 ∧ (plE b p 0).2.2 = d := by
  unfold plE
  rw [if_neg (by decide), h]
  exact ⟨(rdP_err h).1, rfl⟩
theorem peE_e {b : List Nat} {p e : Nat} (h : e ≠ 0) : (peE b p e).2.2 = e := by
  unfold peE
  rw [numE_e h, plE_e h]
theorem peE_ok {b : List Nat} {p q : Nat} {x : Pe} (h : rdE b p = .ok (x, q)) : peE b p 0 = (x, q, 0) := by
  unfold rdE at h
  cases hn : rdM 999 b p with
  | error c => rw [hn] at h; cases h
  | ok r =>
    rw [hn] at h
    simp only at h
    cases hp : rdP b r.2 with
    | error c => rw [hp] at h; cases h
    | ok y =>
      rw [hp] at h
      injection h with h; injection h with e1 e2
      subst e1; subst e2
      unfold peE
      rw [numE_ok (v := r.1) (q := r.2) hn]
      simp only
      rw [plE_ok (v := y.1) (q := y.2) hp]
theorem peE_no {b : List Nat} {p d : Nat} (h : rdE b p = .error d) : d ≠ 0 ∧ (peE b p 0).2.2 = d := by
  unfold rdE at h
  cases hn : rdM 999 b p with
  | error c =>
    rw [hn] at h
    injection h with h
    subst h
    obtain ⟨h1, h2⟩ := numE_no hn
    refine ⟨h1, ?_⟩
    unfold peE
    rw [plE_e (by rw [h2]; exact h1)]
    exact h2
  | ok r =>
    rw [hn] at h
    simp only at h
    cases hp : rdP b r.2 with
    | error c =>
      rw [hp] at h
      injection h with h
      subst h
      obtain ⟨h1, h2⟩ := plE_no hp
      refine ⟨h1, ?_⟩
      unfold peE
      rw [numE_ok (v := r.1) (q := r.2) hn]
      exact h2
    | ok y => rw [hp] at h; cases h

/-! rows that are read, one behind the other -/
def rowE (b : List Nat) : Nat → List Int → Nat → Nat → List Int × Nat × Nat
  | 0, L, p, e => (L, p, e)
  | n + 1, L, p, e => rowE b n (L ++ [((numE 0 999 b p e).1 : Int)]) (numE 0 999 b p e).2.1 (numE 0 999 b p e).2.2
def rowP (b : List Nat) : Nat → List Pe → Nat → Nat → List Pe × Nat × Nat
  | 0, L, p, e => (L, p, e)
  | n + 1, L, p, e => rowP b n (L ++ [(peE b p e).1]) (peE b p e).2.1 (peE b p e).2.2
theorem rowE_e {b : List Nat} : ∀ (n : Nat) (L : List Int) (p e : Nat), e ≠ 0 → (rowE b n L p e).2.2 = e
  | 0, L, p, e, _ => rfl
  | n + 1, L, p, e, h => by rw [rowE, numE_e h]; exact rowE_e n _ p e h
theorem rowP_e {b : List Nat} : ∀ (n : Nat) (L : List Pe) (p e : Nat), e ≠ 0 → (rowP b n L p e).2.2 = e
  | 0, L, p, e, _ => rfl
  | n + 1, L, p, e, h => by
    rw [rowP, rowP_e n _ _ _ (by rw [peE_e h]; exact h), peE_e h]
theorem rowE_ok {b : List Nat} : ∀ (n : Nat) (L : List Int) (p : Nat) (K : List Int) (q : Nat), rdAs b n L p = .ok (K, q) → rowE b n L p 0 = (K, q, 0)
  | 0, L, p, K, q, h => by rw [rdAs] at h; injection h with h; injection h with e1 e2; subst e1; subst e2; rfl
  | n + 1, L, p, K, q, h => by
    rw [rdAs] at h
    cases hn : rdM 999 b p with
    | error c => rw [hn] at h; cases h
    | ok r =>
      rw [hn] at h
      simp only at h
      rw [rowE, numE_ok (v := r.1) (q := r.2) hn]
      exact rowE_ok n _ _ K q h
theorem rowE_no {b : List Nat} : ∀ (n : Nat) (L : List Int) (p d : Nat), rdAs b n L p = .error d → d ≠ 0 ∧ (rowE b n L p 0).2.2 = d
  | 0, L, p, d, h => by rw [rdAs] at h; cases h
  | n + 1, L, p, d, h => by
    rw [rdAs] at h
    cases hn : rdM 999 b p with
    | error c =>
      rw [hn] at h
      injection h with h
      subst h
      obtain ⟨h1, h2⟩ := numE_no hn
      exact ⟨h1, by rw [rowE, rowE_e n _ _ _ (by rw [h2]; exact h1), h2]⟩
    | ok r =>
      rw [hn] at h
      simp only at h
      rw [rowE, numE_ok (v := r.1) (q := r.2) hn]
      exact rowE_no n _ _ d h
theorem rowP_ok {b : List Nat} : ∀ (n : Nat) (L : List Pe) (p : Nat) (K : List Pe) (q : Nat), rdEs b n L p = .ok (K, q) → rowP b n L p 0 = (K, q, 0)
  | 0, L, p, K, q, h => by rw [rdEs] at h; injection h with h; injection h with e1 e2; subst e1; subst e2; rfl
  | n + 1, L, p, K, q, h => by
    rw [rdEs] at h
    cases hn : rdE b p with
    | error c => rw [hn] at h; cases h
    | ok r =>
      rw [hn] at h
      simp only at h
      rw [rowP, peE_ok (x := r.1) (q := r.2) hn]
      exact rowP_ok n _ _ K q h
theorem rowP_no {b : List Nat} : ∀ (n : Nat) (L : List Pe) (p d : Nat), rdEs b n L p = .error d → d ≠ 0 ∧ (rowP b n L p 0).2.2 = d
  | 0, L, p, d, h => by rw [rdEs] at h; cases h
  | n + 1, L, p, d, h => by
    rw [rdEs] at h
    cases hn : rdE b p with
    | error c =>
      rw [hn] at h
      injection h with h
      subst h
      obtain ⟨h1, h2⟩ := peE_no hn
      exact ⟨h1, by rw [rowP, rowP_e n _ _ _ (by rw [h2]; exact h1), h2]⟩
    | ok r =>
      rw [hn] at h
      simp only at h
      rw [rowP, peE_ok (x := r.1) (q := r.2) hn]
      exact rowP_no n _ _ d h
def avE (b : List Nat) (p e : Nat) : List Int × Nat × Nat := rowE b (numE 0 16 b p e).1 [] (numE 0 16 b p e).2.1 (numE 0 16 b p e).2.2
def psE (b : List Nat) (p e : Nat) : List Pe × Nat × Nat := rowP b (numE 0 8 b p e).1 [] (numE 0 8 b p e).2.1 (numE 0 8 b p e).2.2
theorem avE_e {b : List Nat} {p e : Nat} (h : e ≠ 0) : (avE b p e).2.2 = e := by unfold avE; rw [numE_e h]; rfl
theorem psE_e {b : List Nat} {p e : Nat} (h : e ≠ 0) : (psE b p e).2.2 = e := by unfold psE; rw [numE_e h]; rfl
theorem avE_ok {b : List Nat} {p q : Nat} {K : List Int} (h : rdA b p = .ok (K, q)) : avE b p 0 = (K, q, 0) := by
  unfold rdA at h
  cases hn : rdM 16 b p with
  | error c => rw [hn] at h; cases h
  | ok r =>
    rw [hn] at h
    simp only at h
    unfold avE
    rw [numE_ok (v := r.1) (q := r.2) hn]
    exact rowE_ok _ _ _ K q h
theorem avE_no {b : List Nat} {p d : Nat} (h : rdA b p = .error d) : d ≠ 0 ∧ (avE b p 0).2.2 = d := by
  unfold rdA at h
  cases hn : rdM 16 b p with
  | error c =>
    rw [hn] at h
    injection h with h
    subst h
    obtain ⟨h1, h2⟩ := numE_no hn
    exact ⟨h1, by unfold avE; rw [rowE_e _ _ _ _ (by rw [h2]; exact h1), h2]⟩
  | ok r =>
    rw [hn] at h
    simp only at h
    unfold avE
    rw [numE_ok (v := r.1) (q := r.2) hn]
    exact rowE_no _ _ _ d h
theorem psE_ok {b : List Nat} {p q : Nat} {K : List Pe} (h : rdL b p = .ok (K, q)) : psE b p 0 = (K, q, 0) := by
  unfold rdL at h
  cases hn : rdM 8 b p with
  | error c => rw [hn] at h; cases h
  | ok r =>
    rw [hn] at h
    simp only at h
    unfold psE
    rw [numE_ok (v := r.1) (q := r.2) hn]
    exact rowP_ok _ _ _ K q h
theorem psE_no {b : List Nat} {p d : Nat} (h : rdL b p = .error d) : d ≠ 0 ∧ (psE b p 0).2.2 = d := by
  unfold rdL at h
  cases hn : rdM 8 b p with
  | error c =>
    rw [hn] at h
    injection h with h
    subst h
    obtain ⟨h1, h2⟩ := numE_no hn
    exact ⟨h1, by unfold psE; rw [rowP_e _ _ _ _ (by rw [h2]; exact h1), h2]⟩
  | ok r =>
    rw [hn] at h
    simp only at h
    unfold psE
    rw [numE_ok (v := r.1) (q := r.2) hn]
    exact rowP_no _ _ _ d h
/-- a peer, or none -/
def leastK (k : Int) : Nat := if k = 2 then 1 else 0
def myE (k : Int) (b : List Nat) (p e : Nat) : Pe × Nat × Nat := if (numE (leastK k) 1 b p e).1 = 1 then peE b (numE (leastK k) 1 b p e).2.1 (numE (leastK k) 1 b p e).2.2 else (noP, (numE (leastK k) 1 b p e).2)
theorem myE_e {k : Int} {b : List Nat} {p e : Nat} (h : e ≠ 0) : (myE k b p e).2.2 = e := by
  unfold myE
  rw [numE_e h]
  split
  · exact peE_e h
  · rfl
theorem myE_two {k : Int} {b : List Nat} {p : Nat} : numE (leastK k) 1 b p 0 = match rdN b p with
    | .error c => (leastK k, p, c)
    | .ok (v, q) => if v < leastK k ∨ 1 < v then (leastK k, q, 3) else (v, q, 0) := by unfold numE; rw [if_neg (by decide)] <;> cases rdN b p <;> rfl
theorem myE_val {k : Int} {b : List Nat} {p v q e : Nat} (h : numE (leastK k) 1 b p 0 = (v, q, e)) : myE k b p 0 = if v = 1 then peE b q e else (noP, q, e) := by unfold myE; rw [h]
theorem myE_err {k : Int} {b : List Nat} {p v q e : Nat} (h : numE (leastK k) 1 b p 0 = (v, q, e)) (he : e ≠ 0) : (myE k b p 0).2.2 = e := by
  rw [myE_val h]
  split
  · exact peE_e he
  · rfl
theorem myE_both {k : Int} {b : List Nat} {p : Nat} : (∀ x q, rdY k b p = .ok (x, q) → myE k b p 0 = (x, q, 0)) ∧ (∀ d, rdY k b p = .error d → d ≠ 0 ∧ (myE k b p 0).2.2 = d) := by
  have h2 := myE_two (k := k) (b := b) (p := p)
  unfold rdY rdM
  cases hn : rdN b p with
  | error c =>
    obtain ⟨hc, _⟩ := rdN_err hn
    rw [hn] at h2
    simp only at h2 ⊢
    refine ⟨fun x q h => (by cases h), fun d h => ?_⟩
    injection h with h
    subst h
    exact ⟨hc, myE_err h2 hc⟩
  | ok r =>
    obtain ⟨v, q1⟩ := r
    rw [hn] at h2
    simp only at h2 ⊢
    by_cases h1 : 1 < v
    · rw [if_pos (Or.inr h1)] at h2
      rw [if_pos h1]
      refine ⟨fun x q h => (by cases h), fun d h => ?_⟩
      injection h with h
      subst h
      exact ⟨by decide, myE_err h2 (by decide)⟩
    · rw [if_neg h1]
      simp only
      by_cases hv : v = 0
      · subst hv
        rw [if_pos rfl]
        by_cases hk : k = 2
        · have e1 : leastK k = 1 := by unfold leastK; rw [if_pos hk]
          rw [e1] at h2
          rw [if_pos (by omega)] at h2
          rw [if_pos hk]
          refine ⟨fun x q h => (by cases h), fun d h => ?_⟩
          injection h with h
          subst h
          exact ⟨by decide, myE_err (by rw [e1]; exact h2) (by decide)⟩
        · have e1 : leastK k = 0 := by unfold leastK; rw [if_neg hk]
          rw [e1] at h2
          rw [if_neg (by omega)] at h2
          rw [if_neg hk]
          refine ⟨fun x q h => ?_, fun d h => (by cases h)⟩
          injection h with h; injection h with e3 e4
          subst e3; subst e4
          have e := myE_val (k := k) (v := 0) (q := q1) (e := 0) (by rw [e1]; exact h2)
          rw [if_neg (by decide)] at e
          exact e
      · obtain rfl : v = 1 := by omega
        have hl : leastK k ≤ 1 := by unfold leastK; split <;> omega
        rw [if_neg (by omega)] at h2
        rw [if_neg hv]
        have e := myE_val h2
        rw [if_pos rfl] at e
        rw [e]
        exact ⟨fun x q h => peE_ok h, fun d h => peE_no h⟩

/-! the six parts -/
theorem al_1 {X : Except Nat St} {b : List Nat} (hb : ∀ x ∈ b, x < 256) {l : Lt} {p e : Nat} (h : Al X (t1 b) l p e) (hc : reqK l.kind = true) : Al X (t2 b) { l with req := (numE 0 18446744073709551615 b p e).1 } (numE 0 18446744073709551615 b p e).2.1 (numE 0 18446744073709551615 b p e).2.2 :=
  al_read (F := s1 b) (G := t2 b) hc (put := fun v => { l with req := v }) h rfl (numE 0 18446744073709551615 b p e) (fun he => by rw [numE_e he]) (fun he v q hY => by subst he; exact numE_ok (by rw [rdM_max hb]; exact hY)) (fun he d hY => by subst he; exact numE_no (by rw [rdM_max hb]; exact hY))
theorem al_1n {X : Except Nat St} {b : List Nat} {l : Lt} {p e : Nat} (h : Al X (t1 b) l p e) (hc : reqK l.kind = false) : Al X (t2 b) l p e := al_skip (F := s1 b) h (opt_no hc _ _ _)
theorem al_2 {X : Except Nat St} {b : List Nat} {l : Lt} {p e : Nat} (h : Al X (t2 b) l p e) (hc : idK l.kind = true) : Al X (t3 b) { l with id := (plE b p e).1 } (plE b p e).2.1 (plE b p e).2.2 :=
  al_read (F := s2 b) (G := t3 b) hc (put := fun v => { l with id := v }) h rfl (plE b p e) (fun he => by rw [plE_e he]) (fun he v q hY => by subst he; exact plE_ok hY) (fun he d hY => by subst he; exact plE_no hY)
theorem al_2n {X : Except Nat St} {b : List Nat} {l : Lt} {p e : Nat} (h : Al X (t2 b) l p e) (hc : idK l.kind = false) : Al X (t3 b) l p e := al_skip (F := s2 b) h (opt_no hc _ _ _)
theorem al_3 {X : Except Nat St} {b : List Nat} {l : Lt} {p e : Nat} (h : Al X (t3 b) l p e) (hc : idK l.kind = true) : Al X (t4 b) { l with avoid := (avE b p e).1 } (avE b p e).2.1 (avE b p e).2.2 :=
  al_read (F := s3 b) (G := t4 b) hc (put := fun v => { l with avoid := v }) h rfl (avE b p e) (fun he => avE_e he) (fun he v q hY => by subst he; exact avE_ok hY) (fun he d hY => by subst he; exact avE_no hY)
theorem al_3n {X : Except Nat St} {b : List Nat} {l : Lt} {p e : Nat} (h : Al X (t3 b) l p e) (hc : idK l.kind = false) : Al X (t4 b) l p e := al_skip (F := s3 b) h (opt_no hc _ _ _)
theorem al_4 {X : Except Nat St} {b : List Nat} {l : Lt} {p e : Nat} (h : Al X (t4 b) l p e) (hc : doneK l.kind = true) : Al X (t5 b) { l with done := decide ((numE 0 1 b p e).1 = 1) } (numE 0 1 b p e).2.1 (numE 0 1 b p e).2.2 :=
  al_read (F := s4 b) (G := t5 b) hc (put := fun v => { l with done := decide (v = 1) }) h rfl (numE 0 1 b p e) (fun he => by rw [numE_e he]) (fun he v q hY => by subst he; exact numE_ok hY) (fun he d hY => by subst he; exact numE_no hY)
theorem al_4n {X : Except Nat St} {b : List Nat} {l : Lt} {p e : Nat} (h : Al X (t4 b) l p e) (hc : doneK l.kind = false) : Al X (t5 b) l p e := al_skip (F := s4 b) h (opt_no hc _ _ _)
theorem al_5 {X : Except Nat St} {b : List Nat} {l : Lt} {p e : Nat} (h : Al X (t5 b) l p e) (hc : peerK l.kind = true) : Al X (s6 b) { l with peer := (myE l.kind b p e).1 } (myE l.kind b p e).2.1 (myE l.kind b p e).2.2 :=
  al_read (F := s5 b) (G := s6 b) hc (put := fun v => { l with peer := v }) h rfl (myE l.kind b p e) (fun he => myE_e he) (fun he v q hY => by subst he; exact myE_both.1 _ _ hY) (fun he d hY => by subst he; exact myE_both.2 _ hY)
theorem al_5n {X : Except Nat St} {b : List Nat} {l : Lt} {p e : Nat} (h : Al X (t5 b) l p e) (hc : peerK l.kind = false) : Al X (s6 b) l p e := al_skip (F := s5 b) h (opt_no hc _ _ _)
theorem al_eta {X : Except Nat St} {b : List Nat} {l : Lt} {p e : Nat} (h : Al X (s6 b) l p e) : Al X (fun s => thn (s6 b s) Except.ok) l p e := ⟨fun he => by simp only [thn_eta]; exact h.1 he, h.2⟩
theorem al_6 {X : Except Nat St} {b : List Nat} {l : Lt} {p e : Nat} (h : Al X (s6 b) l p e) (hc : peersK l.kind = true) : Al X Except.ok { l with peers := (psE b p e).1 } (psE b p e).2.1 (psE b p e).2.2 :=
  al_read (F := s6 b) (G := Except.ok) hc (put := fun v => { l with peers := v }) (al_eta h) rfl (psE b p e) (fun he => psE_e he) (fun he v q hY => by subst he; exact psE_ok hY) (fun he d hY => by subst he; exact psE_no hY)
theorem al_6n {X : Except Nat St} {b : List Nat} {l : Lt} {p e : Nat} (h : Al X (s6 b) l p e) (hc : peersK l.kind = false) : Al X Except.ok l p e := al_skip (F := s6 b) (al_eta h) (opt_no hc _ _ _)
/-- the kind, and who it is from -/
theorem al_0 (b : List Nat) : Al (getS b) (t1 b) (newL ((numE 1 8 b 0 0).1 : Int) (peE b (numE 1 8 b 0 0).2.1 (numE 1 8 b 0 0).2.2).1) (peE b (numE 1 8 b 0 0).2.1 (numE 1 8 b 0 0).2.2).2.1 (peE b (numE 1 8 b 0 0).2.1 (numE 1 8 b 0 0).2.2).2.2 := by
  have hN : numE 1 8 b 0 0 = match rdN b 0 with
    | .error c => (1, 0, c)
    | .ok (v, q) => if v < 1 ∨ 8 < v then (1, q, 3) else (v, q, 0) := by unfold numE; rw [if_neg (by decide)] <;> cases rdN b 0 <;> rfl
  unfold getS rdK
  cases hn : rdN b 0 with
  | error c =>
    rw [hn] at hN
    simp only at hN ⊢
    obtain ⟨hc, _⟩ := rdN_err hn
    rw [hN]
    rw [show (peE b 0 c).2.2 = c from peE_e hc]
    exact ⟨fun k => absurd k hc, fun _ => rfl⟩
  | ok r =>
    obtain ⟨v, q⟩ := r
    rw [hn] at hN
    simp only at hN ⊢
    by_cases hv : v < 1 ∨ 8 < v
    · rw [if_pos hv] at hN ⊢
      rw [hN]
      rw [show (peE b q 3).2.2 = 3 from peE_e (by decide)]
      exact ⟨fun k => absurd k (by decide), fun _ => rfl⟩
    · rw [if_neg hv] at hN ⊢
      rw [hN]
      simp only
      cases he : rdE b q with
      | error d =>
        obtain ⟨h1, h2⟩ := peE_no he
        simp only
        rw [h2]
        exact ⟨fun k => absurd k h1, fun _ => rfl⟩
      | ok y =>
        obtain ⟨x, q2⟩ := y
        rw [peE_ok he]
        exact ⟨fun _ => rfl, fun k => absurd rfl k⟩
end Go.Proofs.Ytplcdjmidelboaa.Q

namespace Go.Proofs.Ytplcdjmidelboaa.Q
set_option maxRecDepth 100000
open Go Go.RowKit Go.Sort

theorem built73 (s : ByteArray) : Try.prog.built 73 [(0, .string s)] = some #[.string s] := by kernel_rfl
theorem built75 (s : ByteArray) : Try.prog.built 75 [(0, .agg #[.string s])] = some #[.string s, .int .i64 0] := by kernel_rfl
theorem p_build73 {ops : Array Oper} {rest : List Oper} {o : Oper} {a : Act} {w : World} {Q : Exit → Act → World → Prop} (hgd : o.guard = none) (x : Operand) (ho : o.op = .build 73 #[(0, x)])
    (s : ByteArray) (hx : a.eval x = .string s) (h : wpList Try.prog ops Q rest (a.put o.dst (.agg #[.string s])) w) : wpList Try.prog ops Q (o :: rest) a w := by
  refine wpList_plain hgd fun K hK => ?_
  have e := run_build (P := Try.prog) w 73 #[(0, .string s)] _ (built73 s)
  unfold Oper.wp execOp
  simp only [ho, List.map_toArray, List.map_cons, List.map_nil, hx, Sem.run_bind, e, Sem.run_pure, Result.andThen_ok]
  exact hK _ _ h
theorem p_build75 {ops : Array Oper} {rest : List Oper} {o : Oper} {a : Act} {w : World} {Q : Exit → Act → World → Prop} (hgd : o.guard = none) (x : Operand) (ho : o.op = .build 75 #[(0, x)])
    (s : ByteArray) (hx : a.eval x = .agg #[.string s]) (h : wpList Try.prog ops Q rest (a.put o.dst (.agg #[.string s, .int .i64 0])) w) : wpList Try.prog ops Q (o :: rest) a w := by
  refine wpList_plain hgd fun K hK => ?_
  have e := run_build (P := Try.prog) w 75 #[(0, .agg #[.string s])] _ (built75 s)
  unfold Oper.wp execOp
  simp only [ho, List.map_toArray, List.map_cons, List.map_nil, hx, Sem.run_bind, e, Sem.run_pure, Result.andThen_ok]
  exact hK _ _ h
theorem p_buildL1 {ops : Array Oper} {rest : List Oper} {o : Oper} {a : Act} {w : World} {Q : Exit → Act → World → Prop} (hgd : o.guard = none) (x : Operand) (ho : o.op = .build 30 #[(6, x)])
    (p : Pe) (hx : a.eval x = .agg (peA p)) (h : wpList Try.prog ops Q rest (a.put o.dst (.agg (ltA { zeroL with peer := p } nilS nilS))) w) : wpList Try.prog ops Q (o :: rest) a w := by
  refine wpList_plain hgd fun K hK => ?_
  have e := run_build (P := Try.prog) w 30 #[(6, .agg (peA p))] _ (built1 p)
  unfold Oper.wp execOp
  simp only [ho, List.map_toArray, List.map_cons, List.map_nil, hx, Sem.run_bind, e, Sem.run_pure, Result.andThen_ok]
  exact hK _ _ h
theorem p_buildL0 {ops : Array Oper} {rest : List Oper} {o : Oper} {a : Act} {w : World} {Q : Exit → Act → World → Prop} (hgd : o.guard = none) (ho : o.op = .build 30 #[])
    (h : wpList Try.prog ops Q rest (a.put o.dst (.agg (ltA zeroL nilS nilS))) w) : wpList Try.prog ops Q (o :: rest) a w := by
  refine wpList_plain hgd fun K hK => ?_
  have e := run_build (P := Try.prog) w 30 #[] _ built0
  unfold Oper.wp execOp
  simp only [ho, List.map_toArray, List.map_nil, Sem.run_bind, e, Sem.run_pure, Result.andThen_ok]
  exact hK _ _ h
theorem o_putL {o : Oper} {a : Act} {w : World} {K : Act → World → Prop} {Q : Exit → Act → World → Prop} (x y : Operand) (ho : o.op = .store 30 x y)
    (g : Nat) (hx : a.eval x = .pointer (some ⟨g, 0, none⟩)) {l' : Lt} {u' v' : Value} (hy : a.eval y = .agg (ltA l' u' v')) (hu : u'.oneCell' = true) (hv : v'.oneCell' = true) {l : Lt} {u v : Value} (hg : LB w g l u v)
    (h : K (a.put o.dst undef) (w.setRow g (ltA l' u' v'))) : o.wp Try.prog a w K Q :=
  wp_store_row 30 x y ho g (ltA l' u' v') hx hy 30 (ltA l u v) hg (by rw [ltA_size]; exact sizeLt) (by rw [ltA_size, ltA_size]) (ltA_one hu hv) h
theorem peers_id {k : Int} (h : peersK k = true) : idK k = false := by
  unfold peersK at h
  unfold idK
  simp only [decide_eq_true_eq, decide_eq_false_iff_not] at h ⊢
  omega
/-- while it is read: what is answered stands in block r, the reader in g, the letter in q, its kind's parts in gp -/
structure WB (w0 wx : World) (g r q gp : Nat) (b : List Nat) (k : Int) (l : Lt) (p e : Nat) (u v : Value) : Prop where
  lb : LB wx q l u v
  sr : Sr e wx g (b.drop p)
  z : LB wx r zeroL nilS nilS
  pt : Blk wx gp (ofA k) 56
  kd : l.kind = k
  bel : Below w0.heap.size w0 wx
  n0 : w0.heap.size ≤ r
  n1 : r < g
  n2 : g < q
  n3 : q < gp
/-- the same, and the letter's rows are the call's own -/
structure WR (w0 wx : World) (g r q gp : Nat) (b : List Nat) (k : Int) (l : Lt) (p e : Nat) (u v : Value) : Prop where
  w : WB w0 wx g r q gp b k l p e u v
  ow : OwnL wx (gp + 1) l u v
section
variable {w0 wx wy : World} {g r q gp : Nat} {b : List Nat} {k : Int} {l l' : Lt} {p e p' e' : Nat} {u v u' v' : Value}
theorem WB.call (x : WB w0 wx g r q gp b k l p e u v) (hs : Sr e' wy g (b.drop p')) (hk : Keep wx wy g g) : WB w0 wy g r q gp b k l p' e' u v :=
  ⟨x.lb.keep hk (by have := x.n2; omega), hs, x.z.keep hk (by have := x.n1; omega), Blk.keep x.pt hk (by have := x.n2; have := x.n3; omega) (by have := x.n2; have := x.n3; omega), x.kd,
    keep_bel x.bel hk (by have := x.n0; have := x.n1; have := x.sr.lt; omega) (by have := x.n0; have := x.n1; omega), x.n0, x.n1, x.n2, x.n3⟩
theorem WB.cell (x : WB w0 wx g r q gp b k l p e u v) (i : Nat) (y : Value) (hl : LB (wx.setCell ⟨q, i, none⟩ y) q l' u' v') (hk : l'.kind = k) : WB w0 (wx.setCell ⟨q, i, none⟩ y) g r q gp b k l' p e u' v' :=
  ⟨hl, Blk.other x.sr q i y (by have := x.n2; omega), Blk.other x.z q i y (by have := x.n1; have := x.n2; omega), Blk.other x.pt q i y (by have := x.n3; omega), hk, x.bel.setCell (p := ⟨q, i, none⟩) (by have := x.n0; have := x.n1; have := x.n2; show w0.heap.size ≤ q; omega) y, x.n0, x.n1, x.n2, x.n3⟩
theorem WB.row (x : WB w0 wx g r q gp b k l p e u v) (cs : Array Value) (hl : LB (wx.setRow q cs) q l' u' v') (hk : l'.kind = k) : WB w0 (wx.setRow q cs) g r q gp b k l' p e u' v' :=
  ⟨hl, Blk.setRow_other x.sr q cs (by have := x.n2; omega), Blk.setRow_other x.z q cs (by have := x.n1; have := x.n2; omega), Blk.setRow_other x.pt q cs (by have := x.n3; omega), hk, bel_setRow x.bel (by have := x.n0; have := x.n1; have := x.n2; omega) cs, x.n0, x.n1, x.n2, x.n3⟩
theorem WB.app (x : WB w0 wx g r q gp b k l p e u v) (hb : Below (gp + 1) wx wy) : WB w0 wy g r q gp b k l p e u v :=
  ⟨Blk.below x.lb hb (by have := x.n3; omega), x.sr.belowB hb (by have := x.n2; have := x.n3; omega), Blk.below x.z hb (by have := x.n1; have := x.n2; have := x.n3; omega), Blk.below x.pt hb (by omega), x.kd,
    x.bel.trans (hb.mono (by have := x.n0; have := x.n1; have := x.n2; have := x.n3; omega)), x.n0, x.n1, x.n2, x.n3⟩
theorem WR.call (x : WR w0 wx g r q gp b k l p e u v) (hs : Sr e' wy g (b.drop p')) (hk : Keep wx wy g g) : WR w0 wy g r q gp b k l p' e' u v :=
  ⟨x.w.call hs hk, x.ow.keep hk (by have := x.w.n2; have := x.w.n3; omega)⟩
theorem WR.grow (x : WR w0 wx g r q gp b k l p e u v) (hb : Below wx.heap.size wx wy) : WR w0 wy g r q gp b k l p e u v := x.call (x.w.sr.below hb) (Keep.of hb g g)
theorem WR.q1 (x : WR w0 wx g r q gp b k l p e u v) : q < gp + 1 := by have := x.w.n3; omega
end
structure Fresh (n : Nat) (k : Int) (l : Lt) (u v : Value) : Prop where
  av : (n ≤ 3 ∨ idK k = false) → u = nilS ∧ l.avoid = []
  pe : n ≤ 5 → l.peer = noP
  ps : n ≤ 6 → v = nilS ∧ l.peers = []
theorem Fresh.next {n : Nat} {k : Int} {l : Lt} {u v : Value} (h : Fresh n k l u v) : Fresh (n + 1) k l u v := ⟨fun c => h.av (by rcases c with c | c; exact .inl (by omega); exact .inr c), fun c => h.pe (by omega), fun c => h.ps (by omega)⟩
theorem bel_alloc (w : World) (o : Obj) : Below w.heap.size w (w.alloc o) := (Below.refl _ _).alloc (Nat.le_refl _) o
section
variable {w0 w4 : World} {g r q gp : Nat} {b : List Nat} {k : Int} {l : Lt} {p e : Nat} {u v : Value}
theorem WB.addA {L : List Int} {y : Int} {a : Option Addr} {n c j : Nat} (x : WB w0 w4 g r q gp b k { l with avoid := L } p e u v) (hj : L.length = j) (ho : w4.ownsRow (gp + 1) 3 1 (.slice a n c) (j + 1) (ints (L ++ [y]))) (hv : v = nilS) (hp : l.peers = []) :
    WR w0 (w4.setCell ⟨q, 43, none⟩ (.slice a n c)) g r q gp b k { l with avoid := L ++ [y] } p e (.slice a n c) v := by
  subst hj
  refine ⟨x.cell 43 _ (x.lb.setU (L ++ [y]) _) x.kd, ⟨?_, ?_⟩⟩
  · show World.ownsRow _ _ _ _ _ (L ++ [y]).length _
    rw [List.length_append]
    exact own_cell ho (by have := x.n3; omega)
  · subst hv
    show World.ownsRow _ _ _ _ _ l.peers.length (flat l.peers)
    rw [hp]
    exact World.ownsRow_nil _ _ _ _
theorem WB.addP {L : List Pe} {y : Pe} {a : Option Addr} {n c j : Nat} (x : WB w0 w4 g r q gp b k { l with peers := L } p e u v) (hj : L.length = j) (ho : w4.ownsRow (gp + 1) 25 21 (.slice a n c) (j + 1) (flat (L ++ [y]))) (hu : u = nilS) (hp : l.avoid = []) :
    WR w0 (w4.setCell ⟨q, 66, none⟩ (.slice a n c)) g r q gp b k { l with peers := L ++ [y] } p e u (.slice a n c) := by
  subst hj
  refine ⟨x.cell 66 _ (x.lb.setV (L ++ [y]) _) x.kd, ⟨?_, ?_⟩⟩
  · subst hu
    show World.ownsRow _ _ _ _ _ l.avoid.length (ints l.avoid)
    rw [hp]
    exact World.ownsRow_nil _ _ _ _
  · show World.ownsRow _ _ _ _ _ (L ++ [y]).length _
    rw [List.length_append]
    exact own_cell ho (by have := x.n3; omega)
theorem WR.rowA {L : List Int} {j : Nat} (x : WR w0 w4 g r q gp b k { l with avoid := L } p e u v) (hj : L.length = j) : w4.ownsRow (gp + 1) 3 1 u j (ints L) := by
  have h := x.ow.a
  rwa [show ({ l with avoid := L } : Lt).avoid.length = j from hj] at h
theorem WR.rowP {L : List Pe} {j : Nat} (x : WR w0 w4 g r q gp b k { l with peers := L } p e u v) (hj : L.length = j) : w4.ownsRow (gp + 1) 25 21 v j (flat L) := by
  have h := x.ow.p
  rwa [show ({ l with peers := L } : Lt).peers.length = j from hj] at h
end
theorem run_sliceI (k : Int) (w : World) : (Instr.buildSlice 27 1 #[(0, .int .i64 k)]).run Try.prog w = .ok (.slice (some ⟨w.heap.size, 0, none⟩) 1 1) (w.alloc (.cells #[.int .i64 k] 3)) := by kernel_rfl
theorem p_sliceI {ops : Array Oper} {rest : List Oper} {o : Oper} {a : Act} {w : World} {Q : Exit → Act → World → Prop} (hgd : o.guard = none) (x : Operand) (ho : o.op = .buildSlice 27 1 #[(0, x)])
    (k : Int) (hx : a.eval x = .int .i64 k) (h : wpList Try.prog ops Q rest (a.put o.dst (.slice (some ⟨w.heap.size, 0, none⟩) 1 1)) (w.alloc (.cells #[.int .i64 k] 3))) : wpList Try.prog ops Q (o :: rest) a w := by
  refine wpList_plain hgd fun K hK => ?_
  unfold Oper.wp execOp
  simp only [ho, List.map_toArray, List.map_cons, List.map_nil, hx, Sem.run_bind, run_sliceI k w, Sem.run_pure, Result.andThen_ok]
  exact hK _ _ h
theorem o_sliceI {o : Oper} {a : Act} {w : World} {K : Act → World → Prop} {Q : Exit → Act → World → Prop} (x : Operand) (ho : o.op = .buildSlice 27 1 #[(0, x)])
    (k : Int) (hx : a.eval x = .int .i64 k) (h : K (a.put o.dst (.slice (some ⟨w.heap.size, 0, none⟩) 1 1)) (w.alloc (.cells #[.int .i64 k] 3))) : o.wp Try.prog a w K Q := by
  unfold Oper.wp execOp
  simp only [ho, List.map_toArray, List.map_cons, List.map_nil, hx, Sem.run_bind, run_sliceI k w, Sem.run_pure, Result.andThen_ok]
  exact h
theorem o_sliceP {o : Oper} {a : Act} {w : World} {K : Act → World → Prop} {Q : Exit → Act → World → Prop} (x : Operand) (ho : o.op = .buildSlice 28 1 #[(0, x)])
    (p : Pe) (hx : a.eval x = .agg (peA p)) (h : K (a.put o.dst (.slice (some ⟨w.heap.size, 0, none⟩) 1 1)) (w.alloc (.cells (peA p) 25))) : o.wp Try.prog a w K Q := by
  unfold Oper.wp execOp
  simp only [ho, List.map_toArray, List.map_cons, List.map_nil, hx, Sem.run_bind, run_sliceP p.1 p.2 w, Sem.run_pure, Result.andThen_ok]
  exact h
abbrev OnR (w0 : World) (g r q gp : Nat) (b : List Nat) (k : Int) (n : Nat) (X : Except Nat St) (f : St → Except Nat St) (wx : World) : Prop :=
  Hid (∃ l p e u v, WR w0 wx g r q gp b k l p e u v ∧ Fresh n k l u v ∧ Al X f l p e)
set_option maxHeartbeats 16000000 in
theorem refGet_any (s : ByteArray) (w : World) (hs : s.size ≤ 1000000) : Calls Try.prog 15 #[.string s] w (GotN w (getN (bytesN s))) := by
  have hb : ∀ x ∈ bytesN s, x < 256 := bytesN_lt s
  have hz : (bytesN s).length ≤ 1000000 := by rw [bytesN_length]; exact hs
  have B0 := (Below.refl w.heap.size w).alloc (Nat.le_refl _) (.cells (ltA zeroL nilS nilS) 30)
  have Z0 := LB.new w zeroL nilS nilS
  have R0 : Sr 0 ((w.alloc (.cells (ltA zeroL nilS nilS) 30)).alloc (.cells #[.string s, .int .i64 0] 75)) (w.heap.size + 1) ((bytesN s).drop 0) := by
    unfold Sr
    rw [List.drop_zero, txt_bytes]
    have := Blk.new (w.alloc (.cells (ltA zeroL nilS nilS) 30)) #[.string s, .int .i64 0] 75
    rwa [World.size_alloc] at this
  have B1 := B0.alloc (by simp) (.cells #[.string s, .int .i64 0] 75)
  have Z1 := Z0.bel ((Below.refl (w.alloc (.cells (ltA zeroL nilS nilS) 30)).heap.size _).alloc (Nat.le_refl _) (.cells #[.string s, .int .i64 0] 75))
  have HN : Hid (∀ (lo hi g p e : Nat) (w : World), Sr e w g ((bytesN s).drop p) → Calls Try.prog 44 #[.pointer (some ⟨g, 0, none⟩), .int .u64 (lo : Int), .int .u64 (hi : Int)] w fun r w' => r = .returned (.int .u64 ((numE lo hi (bytesN s) p e).1 : Int)) ∧ Sr (numE lo hi (bytesN s) p e).2.2 w' g ((bytesN s).drop (numE lo hi (bytesN s) p e).2.1) ∧ Keep w w' g g) := fun lo hi g p e => number_any lo hi g hb hz p e
  have HP := Lib.hid (fun (g p e : Nat) => place_any g hb hz p e)
  have HE := Lib.hid (fun (g p e : Nat) => peer_any g hb hz p e)
  have HO := Lib.hid (fun (k : Int) w => of_any k w)
  have HA0 := Lib.hid (al_0 (bytesN s))
  have HB := Lib.hid hb
  have HF : Hid (getN (bytesN s) = match getS (bytesN s) with
      | .error e => .error e
      | .ok (l, p) => if p < (bytesN s).length then .error 3 else .ok l) := by unfold Hid getN; cases getS (bytesN s) <;> rfl
  have hnn := refnone_any
  clear hb hs B0 Z0
  generalize getS (bytesN s) = X at *
  generalize getN (bytesN s) = Y at *
  generalize hbb : bytesN s = b at *
  generalize hgr : w.heap.size = r at *
  go_enter Try.func15, Try.ntmps15
  go_upto_region 1 with (fail)
  rw [zeroLt]
  (try rw [hgr])
  go_upto_region 2 with (first
    | (refine p_build73 rfl _ rfl s rfl ?_)
    | (refine p_build75 rfl _ rfl s rfl ?_))
  have hW1 : Below r w ((w.alloc (.cells (ltA zeroL nilS nilS) 30)).alloc (.cells #[.string s, .int .i64 0] 75)) := B1
  have hsz1 : r + 1 < ((w.alloc (.cells (ltA zeroL nilS nilS) 30)).alloc (.cells #[.string s, .int .i64 0] 75)).heap.size := by rw [← hgr]; simp
  clear B1
  generalize (w.alloc _).alloc _ = W at *
  have HN18 : Hid (∀ (g p e : Nat) (w : World), Sr e w g (b.drop p) → Calls Try.prog 44 #[.pointer (some ⟨g, 0, none⟩), .int .u64 1, .int .u64 8] w fun r w' => r = .returned (.int .u64 ((numE 1 8 b p e).1 : Int)) ∧ Sr (numE 1 8 b p e).2.2 w' g (b.drop (numE 1 8 b p e).2.1) ∧ Keep w w' g g) := fun g p e => HN.out 1 8 g p e
  have HN0M : Hid (∀ (g p e : Nat) (w : World), Sr e w g (b.drop p) → Calls Try.prog 44 #[.pointer (some ⟨g, 0, none⟩), .int .u64 0, .int .u64 18446744073709551615] w fun r w' => r = .returned (.int .u64 ((numE 0 18446744073709551615 b p e).1 : Int)) ∧ Sr (numE 0 18446744073709551615 b p e).2.2 w' g (b.drop (numE 0 18446744073709551615 b p e).2.1) ∧ Keep w w' g g) := fun g p e => HN.out 0 18446744073709551615 g p e
  have HN016 : Hid (∀ (g p e : Nat) (w : World), Sr e w g (b.drop p) → Calls Try.prog 44 #[.pointer (some ⟨g, 0, none⟩), .int .u64 0, .int .u64 16] w fun r w' => r = .returned (.int .u64 ((numE 0 16 b p e).1 : Int)) ∧ Sr (numE 0 16 b p e).2.2 w' g (b.drop (numE 0 16 b p e).2.1) ∧ Keep w w' g g) := fun g p e => HN.out 0 16 g p e
  have HN09 : Hid (∀ (g p e : Nat) (w : World), Sr e w g (b.drop p) → Calls Try.prog 44 #[.pointer (some ⟨g, 0, none⟩), .int .u64 0, .int .u64 999] w fun r w' => r = .returned (.int .u64 ((numE 0 999 b p e).1 : Int)) ∧ Sr (numE 0 999 b p e).2.2 w' g (b.drop (numE 0 999 b p e).2.1) ∧ Keep w w' g g) := fun g p e => HN.out 0 999 g p e
  have HN01 : Hid (∀ (g p e : Nat) (w : World), Sr e w g (b.drop p) → Calls Try.prog 44 #[.pointer (some ⟨g, 0, none⟩), .int .u64 0, .int .u64 1] w fun r w' => r = .returned (.int .u64 ((numE 0 1 b p e).1 : Int)) ∧ Sr (numE 0 1 b p e).2.2 w' g (b.drop (numE 0 1 b p e).2.1) ∧ Keep w w' g g) := fun g p e => HN.out 0 1 g p e
  have HN11 : Hid (∀ (g p e : Nat) (w : World), Sr e w g (b.drop p) → Calls Try.prog 44 #[.pointer (some ⟨g, 0, none⟩), .int .u64 1, .int .u64 1] w fun r w' => r = .returned (.int .u64 ((numE 1 1 b p e).1 : Int)) ∧ Sr (numE 1 1 b p e).2.2 w' g (b.drop (numE 1 1 b p e).2.1) ∧ Keep w w' g g) := fun g p e => HN.out 1 1 g p e
  have HN08 : Hid (∀ (g p e : Nat) (w : World), Sr e w g (b.drop p) → Calls Try.prog 44 #[.pointer (some ⟨g, 0, none⟩), .int .u64 0, .int .u64 8] w fun r w' => r = .returned (.int .u64 ((numE 0 8 b p e).1 : Int)) ∧ Sr (numE 0 8 b p e).2.2 w' g (b.drop (numE 0 8 b p e).2.1) ∧ Keep w w' g g) := fun g p e => HN.out 0 8 g p e
  have hk8 := numE_le 1 8 (by decide) b 0 0
  -- the kind, who it is from, and the kind's parts
  have hA0 := HA0.out
  have HC18 := HN18.out (r + 1) 0 0
  generalize numE 1 8 b 0 0 = y0 at *
  obtain ⟨k0, p0', e0'⟩ := y0
  simp only at hA0 HC18 hk8
  have HCE := HE.out (r + 1) p0' e0'
  generalize peE b p0' e0' = y1 at *
  obtain ⟨x1, p1', e1'⟩ := y1
  simp only at hA0 HCE
  have HC18 := Lib.hid HC18
  have HCE := Lib.hid HCE
  have HA1 := Lib.hid hA0
  clear HA0 hA0 HN18
  have hcv : IntKind.i64.wrap (k0 : Int) = (k0 : Int) := IntWalk.i64_in _ (by omega)
  have HOK := Lib.hid (fun w => HO.out (k0 : Int) w)
  go_upto_region 3 with (first
    | (go_at_call 31; (with_reducible refine (hnn _).mono ?_); rintro e w1 ⟨rfl, k1⟩; have S1 := Lib.hid (R0.below k1); have Z2 := Z1.bel k1; have hb1 := Lib.hid (hW1.trans (k1.mono (by omega))); have hs1 := k1.size; clear k1)
    | (refine p_buildL1 rfl _ rfl noP rfl ?_)
    | ((with_reducible show wpList _ _ _ (Oper.mk _ (Op.store _ _ _) _ _ _ _ :: _) _ _); refine p_newL rfl rfl _ _ rfl rfl rfl rfl rfl ?_))
  (try simp only [Act.put])
  have L2 := LB.new w1 { zeroL with peer := noP } nilS nilS
  have b2 := (Below.refl w1.heap.size w1).alloc (Nat.le_refl _) (.cells (ltA { zeroL with peer := noP } nilS nilS) 30)
  have S2 := S1.out.below b2
  have Z3 := Z2.bel b2
  have hb2 := Lib.hid (hb1.out.trans (b2.mono (by omega)))
  have hq1 : r + 1 < w1.heap.size := by omega
  clear S1 Z1 Z2 R0 hW1 hb1 b2 hs1 hsz1
  generalize w1.heap.size = q at *
  generalize w1.alloc _ = W2 at *
  go_upto_region 4 with (go_at_call 44; (with_reducible refine (HC18.out _ S2).mono ?_); rintro e w3 ⟨rfl, s3, k3⟩; have L3 := L2.keep k3 (by omega); have c3 := L3.kind; have f3 := L3.free 0; have S3 := Lib.hid s3; have Z4 := Z3.keep k3 (by omega); have hb3 := Lib.hid (keep_bel hb2.out k3 (by have := S2.lt; omega) (by omega)); clear s3 k3)
  (try simp only [Act.put])
  have L4 := L3.setKind (k0 : Int)
  have S4 : Sr e0' (w3.setCell ⟨q, 0, none⟩ (.int .i64 (k0 : Int))) (r + 1) (b.drop p0') := Blk.other S3.out q 0 _ (by omega)
  have Z5 : LB (w3.setCell ⟨q, 0, none⟩ (.int .i64 (k0 : Int))) r zeroL nilS nilS := Blk.other Z4 q 0 _ (by omega)
  have hb4 := Lib.hid (hb3.out.setCell (p := ⟨q, 0, none⟩) (by show r ≤ q; omega) (.int .i64 (k0 : Int)))
  clear L2 L3 S2 S3 Z3 Z4 hb2 hb3 c3 f3 HC18
  generalize w3.setCell _ _ = W4 at *
  go_upto_region 5 with (first
    | (go_at_call 45; (with_reducible refine (HCE.out _ S4).mono ?_); rintro e w5 ⟨rfl, s5, k5⟩; have L5 := L4.keep k5 (by omega); have S5 := Lib.hid s5; have Z6 := Z5.keep k5 (by omega); have hb5 := Lib.hid (keep_bel hb4.out k5 (by have := S4.lt; omega) (by omega)); clear s5 k5)
    | ((with_reducible show wpList _ _ _ (Oper.mk _ (Op.store _ _ _) _ _ _ _ :: _) _ _); refine p_putFr rfl _ _ rfl q rfl x1 rfl L5 ?_))
  (try simp only [Act.put])
  have L6 : LB (w5.setRow q (ltA (newL (k0 : Int) x1) nilS nilS)) q (newL (k0 : Int) x1) nilS nilS := L5.setL _ _ _
  have S6 : Sr e1' (w5.setRow q (ltA (newL (k0 : Int) x1) nilS nilS)) (r + 1) (b.drop p1') := Blk.setRow_other S5.out q _ (by omega)
  have Z7 : LB (w5.setRow q (ltA (newL (k0 : Int) x1) nilS nilS)) r zeroL nilS nilS := Blk.setRow_other Z6 q _ (by omega)
  have hb6 := Lib.hid (bel_setRow hb5.out (show r ≤ q by omega) (ltA (newL (k0 : Int) x1) nilS nilS))
  clear L4 L5 S4 S5 Z5 Z6 hb4 hb5 HCE
  have hW6 : w5.setRow q (ltA { { { zeroL with peer := noP } with kind := (k0 : Int) } with fr := x1 } nilS nilS) = w5.setRow q (ltA (newL (k0 : Int) x1) nilS nilS) := rfl
  try rw [hW6]
  clear hW6
  generalize w5.setRow _ _ = W6 at *
  have c6 : W6.cell? ⟨q, 0, none⟩ = some (.int .i64 (k0 : Int)) := L6.kind
  go_upto_region 6 with (first
    | (go_at_call 27; (with_reducible refine (HOK.out _).mono ?_); rintro e w7 ⟨rfl, k7⟩; have L7 := L6.bel k7; have S7 := S6.below k7; have Z8 := Z7.bel k7; have hb7 := Lib.hid (hb6.out.trans (k7.mono (by have := S6.lt; omega))); clear k7)
    | ((with_reducible show wpList _ _ _ (Oper.mk _ (Op.store _ _ _) _ _ _ _ :: _) _ _); refine wpList_store_newrow rfl 56 _ _ rfl (ofA (k0 : Int)) rfl rfl sizeOf6 (ofA_one _) rfl ?_))
  (try simp only [Act.put])
  have O8 := Blk.new w7 (ofA (k0 : Int)) 56
  have b8 := (Below.refl w7.heap.size w7).alloc (Nat.le_refl _) (.cells (ofA (k0 : Int)) 56)
  have hq7 := L7.lt
  have HW : OnR w (r + 1) r q w7.heap.size b (k0 : Int) 1 X (t1 b) (w7.alloc (.cells (ofA (k0 : Int)) 56)) :=
    Lib.hid ⟨_, p1', e1', nilS, nilS, ⟨⟨L7.bel b8, S7.below b8, Z8.bel b8, O8, rfl, by rw [hgr]; exact hb7.out.trans (b8.mono (by omega)), by omega, by omega, hq1, hq7⟩, ⟨World.ownsRow_nil _ _ _ _, World.ownsRow_nil _ _ _ _⟩⟩, ⟨fun _ => ⟨rfl, rfl⟩, fun _ => rfl, fun _ => ⟨rfl, rfl⟩⟩, HA1.out⟩
  clear L6 L7 S6 S7 Z7 Z8 hb6 hb7 O8 b8 HA1 c6 HO HOK hnn hk8 hcv
  generalize w7.heap.size = gp at *
  generalize w7.alloc _ = wc at *
  generalize (k0 : Int) = k at *
  generalize r + 1 = g at *
  obtain ⟨l, p, e, u, v, hW, hF, hA⟩ := HW.out
  have HWW := Lib.hid hW
  have HFF := Lib.hid hF
  have HAA := Lib.hid hA
  have hkd := hW.w.kd
  have qj : wc.cell? ⟨gp, 0, none⟩ = some (.bool (reqK k)) := hW.w.pt.cell 0
  clear hW hF hA
  go_upto_if 29 with (fail)
  go_cut [] from 29 (fun wx => OnR w g r q gp b k 2 X (t2 b) wx)
  case first =>
    cases hc : reqK k with
    | false =>
      rw [hc] at qj
      have HX := Lib.hid (al_1n HAA.out (by rw [hkd]; exact hc))
      go_wp2
      go_meet
      exact Lib.hid ⟨l, p, e, u, v, HWW.out, HFF.out.next, HX.out⟩
    | true =>
      rw [hc] at qj
      have hc' : reqK l.kind = true := by rw [hkd]; exact hc
      have HC := HN0M.out g p e
      have HX := al_1 HB.out HAA.out hc'
      generalize numE 0 18446744073709551615 b p e = y at *
      obtain ⟨v1, p1, e1⟩ := y
      simp only at HC HX
      have HC := Lib.hid HC
      have HX := Lib.hid HX
      go_wp2_with (go_at_call 44; (with_reducible refine (HC.out _ HWW.out.w.sr).mono ?_); rintro e9 w1 ⟨rfl, s1, k1⟩; have W1 := HWW.out.call s1 k1; have c1 := W1.w.lb.req; have f1 := W1.w.lb.free 22; clear s1 k1)
      (try simp only [Act.put])
      go_meet
      exact Lib.hid ⟨_, p1, e1, u, v, ⟨W1.w.cell 22 _ (W1.w.lb.setReq v1) W1.w.kd, (W1.ow.cell W1.q1).a, (W1.ow.cell W1.q1).p⟩, ⟨HFF.out.next.av, HFF.out.next.pe, HFF.out.next.ps⟩, HX.out⟩
  case rest =>
    clear HW qj HWW HFF HAA hkd
    have HW := hcut
    clear hcut
    obtain ⟨l, p, e, u, v, hW, hF, hA⟩ := HW.out
    have HWW := Lib.hid hW
    have HFF := Lib.hid hF
    have HAA := Lib.hid hA
    have hkd := hW.w.kd
    have qj : wc.cell? ⟨gp, 1, none⟩ = some (.bool (idK k)) := hW.w.pt.cell 1
    clear hW hF hA
    go_upto_if 34 with (fail)
    go_cut [] from 34 (fun wx => OnR w g r q gp b k 3 X (t3 b) wx)
    case first =>
      cases hc : idK k with
      | false =>
        rw [hc] at qj
        have HX := Lib.hid (al_2n HAA.out (by rw [hkd]; exact hc))
        go_wp2
        go_meet
        exact Lib.hid ⟨l, p, e, u, v, HWW.out, HFF.out.next, HX.out⟩
      | true =>
        rw [hc] at qj
        have hc' : idK l.kind = true := by rw [hkd]; exact hc
        have HC := HP.out g p e
        have HX := al_2 HAA.out hc'
        generalize plE b p e = y at *
        obtain ⟨v1, p1, e1⟩ := y
        simp only at HC HX
        have HC := Lib.hid HC
        have HX := Lib.hid HX
        go_wp2_with (first
          | (go_at_call 46; (with_reducible refine (HC.out _ HWW.out.w.sr).mono ?_); rintro e9 w1 ⟨rfl, s1, k1⟩; have W1 := HWW.out.call s1 k1; have L1 := W1.w.lb; clear s1 k1)
          | ((with_reducible show wpList _ _ _ (Oper.mk _ (Op.store _ _ _) _ _ _ _ :: _) _ _); refine p_putId rfl _ _ rfl q rfl v1 rfl L1 ?_))
        (try simp only [Act.put])
        go_meet
        exact Lib.hid ⟨_, p1, e1, u, v, ⟨W1.w.row _ (W1.w.lb.setL _ _ _) W1.w.kd, (W1.ow.row W1.q1 _).a, (W1.ow.row W1.q1 _).p⟩, ⟨HFF.out.next.av, HFF.out.next.pe, HFF.out.next.ps⟩, HX.out⟩
    case rest =>
      clear HW qj HWW HFF HAA hkd
      have HW := hcut
      clear hcut
      obtain ⟨l, p, e, u, v, hW, hF, hA⟩ := HW.out
      have HWW := Lib.hid hW
      have HFF := Lib.hid hF
      have HAA := Lib.hid hA
      have hkd := hW.w.kd
      have qj : wc.cell? ⟨gp, 2, none⟩ = some (.bool (idK k)) := hW.w.pt.cell 2
      clear hW hF hA
      go_upto_if 39 with (fail)
      go_cut [7, 8] from 39 (fun _ _ wx => OnR w g r q gp b k 4 X (t4 b) wx)
      case first =>
        cases hc : idK k with
        | false =>
          rw [hc] at qj
          have HX := Lib.hid (al_3n HAA.out (by rw [hkd]; exact hc))
          go_wp2
          go_meet
          exact Lib.hid ⟨l, p, e, u, v, HWW.out, HFF.out.next, HX.out⟩
        | true =>
          rw [hc] at qj
          have HX := al_3 HAA.out (by rw [hkd]; exact hc)
          unfold avE at HX
          have HC := HN016.out g p e
          have hle := numE_le 0 16 (by decide) b p e
          generalize numE 0 16 b p e = y at *
          obtain ⟨n, p1, e1⟩ := y
          simp only at HC HX hle
          have HC := Lib.hid HC
          obtain ⟨hu0, hl0⟩ := HFF.out.av (.inl (by decide))
          have HFV := Lib.hid (HFF.out.ps (by decide))
          generalize hR : rowE b n [] p1 e1 = R at *
          have HRS := Lib.hid hR
          have HX := Lib.hid HX
          have HIK := Lib.hid hc
          clear hR hc
          have hcv : IntKind.i64.wrap (n : Int) = (n : Int) := IntWalk.i64_in _ (by omega)
          go_upto_region 12 with (go_at_call 44; (with_reducible refine (HC.out _ HWW.out.w.sr).mono ?_); rintro e9 w1 ⟨rfl, s1, k1⟩; have W1 := HWW.out.call s1 k1; clear s1 k1)
          have W1 : WR w w1 g r q gp b k { l with avoid := [] } p1 e1 u v := by
            have := W1
            rwa [show l = { l with avoid := [] } by cases l; simp only at hl0; subst hl0; rfl] at this
          have HW1 := Lib.hid W1
          clear W1 hu0 hl0 HWW
          go_upto_region 13 with (fail)
          go_loopw [8] (fun ii wq => ∃ (j : Nat) (L : List Int) (p' e' : Nat) (u' : Value), ii = .int .i64 (j : Int) ∧ j ≤ n ∧ L.length = j ∧ rowE b (n - j) L p' e' = R ∧ WR w wq g r q gp b k { l with avoid := L } p' e' u' v) (fun ii _ => n - (intOf ii).toNat)
          case atStart => exact ⟨0, [], p1, e1, u, rfl, Nat.zero_le _, rfl, HRS.out, HW1.out⟩
          case round =>
            obtain ⟨j, L, p', e', u', rfl, hj, hlj, hR, hWQ⟩ := hrel
            have HLJ := Lib.hid hlj
            have HQ := Lib.hid hWQ
            clear hlj hWQ HW1 HRS
            by_cases hlt : j < n
            · obtain ⟨m, hm⟩ : ∃ m, n - j = m + 1 := ⟨n - j - 1, by omega⟩
              rw [hm, rowE] at hR
              have HCR := HN09.out g p' e'
              have hx9 := numE_le 0 999 (by decide) b p' e'
              generalize numE 0 999 b p' e' = y at *
              obtain ⟨xx, p2, e2⟩ := y
              simp only at hR HCR hx9
              have HCR := Lib.hid HCR
              have HRR : Hid (rowE b (n - (j + 1)) (L ++ [(xx : Int)]) p2 e2 = R) := by unfold Hid; rw [show n - (j + 1) = m by omega]; exact hR
              have hcx : IntKind.i64.wrap (xx : Int) = (xx : Int) := IntWalk.i64_in _ (by omega)
              have b1 : (j : Int) < (n : Int) := by omega
              clear hR hm
              go_upto_region 15 with (fail)
              refine wp_region_any (by kernel_rfl) ?_
              change wpAny _ _ _ _ _ _ _ (World.drew _)
              replace HQ := Lib.hid (HQ.out.grow (drew_bel wr))
              generalize World.drew wr = wd at *
              refine wpAny_take (i := 0) (v := ?_) rfl (by kernel_rfl) (by kernel_rfl) (by kernel_rfl) (fun _ _ _ h => h) (Or.inl ⟨by rfl, ?_⟩) ?_
              rotate_left
              · intro w9
                go_simp
                (try with_reducible rfl)
              (try simp only [Act.put]); (try simp only [List.setIfInBounds_toArray]); (try simp only [List.set_cons_succ]); (try simp only [List.set_cons_zero])
              (try dsimp only [List.getElem_toArray, List.getElem_cons_succ, List.getElem_cons_zero])
              (try simp only [Act.put]); (try simp only [List.setIfInBounds_toArray]); (try simp only [List.set_cons_succ]); (try simp only [List.set_cons_zero])
              refine wpAny_take (i := 2) (v := ?_) rfl (by kernel_rfl) (by kernel_rfl) (by kernel_rfl) (fun _ _ _ h => h) (Or.inl ⟨by rfl, ?_⟩) ?_
              rotate_left
              · intro w9
                go_simp
                (try with_reducible rfl)
              (try simp only [Act.put]); (try simp only [List.setIfInBounds_toArray]); (try simp only [List.set_cons_succ]); (try simp only [List.set_cons_zero])
              (try dsimp only [List.getElem_toArray, List.getElem_cons_succ, List.getElem_cons_zero])
              (try simp only [Act.put]); (try simp only [List.setIfInBounds_toArray]); (try simp only [List.set_cons_succ]); (try simp only [List.set_cons_zero])
              refine wpAny_ready (rs := [1, 3]) (by kernel_rfl) (by simp) ?_
              refine AllReady.cons rfl (fun K hK => ?_) ?_
              · replace hK := Lib.hid hK
                have c9 := HQ.out.w.lb.cu
                go_simp
                refine hK.out _ _ ?_
                clear hK K
                (try simp only [Act.put]); (try simp only [List.setIfInBounds_toArray]); (try simp only [List.set_cons_succ]); (try simp only [List.set_cons_zero])
                (try dsimp only [List.getElem_toArray, List.getElem_cons_succ, List.getElem_cons_zero])
                (try simp only [Act.put]); (try simp only [List.setIfInBounds_toArray]); (try simp only [List.set_cons_succ]); (try simp only [List.set_cons_zero])
                clear c9
                refine wpAny_ready (rs := [3]) (by kernel_rfl) (by simp) ?_
                refine AllReady.cons rfl (fun K hK => ?_) ?_
                · replace hK := Lib.hid hK
                  go_simp
                  go_wp2_with (go_at_call 44; (with_reducible refine (HCR.out _ HQ.out.w.sr).mono ?_); rintro e9 w3 ⟨rfl, s3, k3⟩; replace HQ := Lib.hid (HQ.out.call s3 k3); clear s3 k3)
                  refine hK.out _ _ ?_
                  clear hK K
                  (try simp only [Act.put]); (try simp only [List.setIfInBounds_toArray]); (try simp only [List.set_cons_succ]); (try simp only [List.set_cons_zero])
                  (try dsimp only [List.getElem_toArray, List.getElem_cons_succ, List.getElem_cons_zero])
                  (try simp only [Act.put]); (try simp only [List.setIfInBounds_toArray]); (try simp only [List.set_cons_succ]); (try simp only [List.set_cons_zero])
                  refine wpAny_take (i := 4) (v := ?_) rfl (by kernel_rfl) (by kernel_rfl) (by kernel_rfl) (fun _ _ _ h => h) (Or.inl ⟨by rfl, ?_⟩) ?_
                  rotate_left
                  · intro w9
                    go_simp
                    (try with_reducible rfl)
                  (try simp only [Act.put]); (try simp only [List.setIfInBounds_toArray]); (try simp only [List.set_cons_succ]); (try simp only [List.set_cons_zero])
                  (try dsimp only [List.getElem_toArray, List.getElem_cons_succ, List.getElem_cons_zero])
                  (try simp only [Act.put]); (try simp only [List.setIfInBounds_toArray]); (try simp only [List.set_cons_succ]); (try simp only [List.set_cons_zero])
                  refine any_tail 5 (by kernel_rfl) (by kernel_rfl) (by kernel_rfl) (fun _ _ _ _ _ h => h) ?_
                  simp only [List.drop_succ_cons, List.drop_zero]
                  go_wp2_with (first
                    | (refine p_sliceI rfl _ rfl (xx : Int) rfl ?_)
                    | (refine p_snocI rfl _ _ rfl (gp + 1) _ j L rfl (HQ.out.rowA HLJ.out) (xx : Int) rfl (by omega) (Blk.lt HQ.out.w.pt) ?_; intro v2 w4 ho2 hb4; have W4 := HQ.out.w.app hb4; obtain ⟨a2, n2, c2, rfl⟩ := slice_form ho2; have HO4 := Lib.hid ho2; have c4 := W4.lb.cu; have f4 := W4.lb.free 43; have W5 := Lib.hid (W4.addA HLJ.out ho2 HFV.out.1 HFV.out.2); clear ho2))
                  exact ⟨⟨j + 1, L ++ [(xx : Int)], p2, e2, _, by go_num, by omega, by rw [List.length_append, HLJ.out]; rfl, HRR.out, W5.out⟩, by simp [intOf]; omega⟩
                exact AllReady.nil
              refine AllReady.cons rfl (fun K hK => ?_) ?_
              · replace hK := Lib.hid hK
                go_simp
                go_wp2_with (go_at_call 44; (with_reducible refine (HCR.out _ HQ.out.w.sr).mono ?_); rintro e9 w3 ⟨rfl, s3, k3⟩; replace HQ := Lib.hid (HQ.out.call s3 k3); clear s3 k3)
                refine hK.out _ _ ?_
                clear hK K
                (try simp only [Act.put]); (try simp only [List.setIfInBounds_toArray]); (try simp only [List.set_cons_succ]); (try simp only [List.set_cons_zero])
                (try dsimp only [List.getElem_toArray, List.getElem_cons_succ, List.getElem_cons_zero])
                (try simp only [Act.put]); (try simp only [List.setIfInBounds_toArray]); (try simp only [List.set_cons_succ]); (try simp only [List.set_cons_zero])
                refine wpAny_take (i := 4) (v := ?_) rfl (by kernel_rfl) (by kernel_rfl) (by kernel_rfl) (fun _ _ _ h => h) (Or.inl ⟨by rfl, ?_⟩) ?_
                rotate_left
                · intro w9
                  go_simp
                  (try with_reducible rfl)
                (try simp only [Act.put]); (try simp only [List.setIfInBounds_toArray]); (try simp only [List.set_cons_succ]); (try simp only [List.set_cons_zero])
                (try dsimp only [List.getElem_toArray, List.getElem_cons_succ, List.getElem_cons_zero])
                (try simp only [Act.put]); (try simp only [List.setIfInBounds_toArray]); (try simp only [List.set_cons_succ]); (try simp only [List.set_cons_zero])
                refine wpAny_ready (rs := [1, 5]) (by kernel_rfl) (by simp) ?_
                refine AllReady.cons rfl (fun K hK => ?_) ?_
                · replace hK := Lib.hid hK
                  have c9 := HQ.out.w.lb.cu
                  go_simp
                  refine hK.out _ _ ?_
                  clear hK K
                  (try simp only [Act.put]); (try simp only [List.setIfInBounds_toArray]); (try simp only [List.set_cons_succ]); (try simp only [List.set_cons_zero])
                  (try dsimp only [List.getElem_toArray, List.getElem_cons_succ, List.getElem_cons_zero])
                  (try simp only [Act.put]); (try simp only [List.setIfInBounds_toArray]); (try simp only [List.set_cons_succ]); (try simp only [List.set_cons_zero])
                  clear c9
                  refine any_tail 5 (by kernel_rfl) (by kernel_rfl) (by kernel_rfl) (fun _ _ _ _ _ h => h) ?_
                  simp only [List.drop_succ_cons, List.drop_zero]
                  go_wp2_with (first
                    | (refine p_sliceI rfl _ rfl (xx : Int) rfl ?_)
                    | (refine p_snocI rfl _ _ rfl (gp + 1) _ j L rfl (HQ.out.rowA HLJ.out) (xx : Int) rfl (by omega) (Blk.lt HQ.out.w.pt) ?_; intro v2 w4 ho2 hb4; have W4 := HQ.out.w.app hb4; obtain ⟨a2, n2, c2, rfl⟩ := slice_form ho2; have HO4 := Lib.hid ho2; have c4 := W4.lb.cu; have f4 := W4.lb.free 43; have W5 := Lib.hid (W4.addA HLJ.out ho2 HFV.out.1 HFV.out.2); clear ho2))
                  exact ⟨⟨j + 1, L ++ [(xx : Int)], p2, e2, _, by go_num, by omega, by rw [List.length_append, HLJ.out]; rfl, HRR.out, W5.out⟩, by simp [intOf]; omega⟩
                refine AllReady.cons rfl (fun K hK => ?_) ?_
                · replace hK := Lib.hid hK
                  rw [if_pos (by rfl)]
                  refine o_sliceI _ rfl (xx : Int) rfl ?_
                  refine hK.out _ _ ?_
                  clear hK K
                  (try simp only [Act.put]); (try simp only [List.setIfInBounds_toArray]); (try simp only [List.set_cons_succ]); (try simp only [List.set_cons_zero])
                  (try dsimp only [List.getElem_toArray, List.getElem_cons_succ, List.getElem_cons_zero])
                  (try simp only [Act.put]); (try simp only [List.setIfInBounds_toArray]); (try simp only [List.set_cons_succ]); (try simp only [List.set_cons_zero])
                  refine wpAny_ready (rs := [1]) (by kernel_rfl) (by simp) ?_
                  refine AllReady.cons rfl (fun K hK => ?_) ?_
                  · replace hK := Lib.hid hK
                    have c9 := (HQ.out.w.lb.bel (bel_alloc w3 (.cells #[.int .i64 (xx : Int)] 3))).cu
                    go_simp
                    refine hK.out _ _ ?_
                    clear hK K
                    (try simp only [Act.put]); (try simp only [List.setIfInBounds_toArray]); (try simp only [List.set_cons_succ]); (try simp only [List.set_cons_zero])
                    (try dsimp only [List.getElem_toArray, List.getElem_cons_succ, List.getElem_cons_zero])
                    (try simp only [Act.put]); (try simp only [List.setIfInBounds_toArray]); (try simp only [List.set_cons_succ]); (try simp only [List.set_cons_zero])
                    clear c9
                    refine any_tail 6 (by kernel_rfl) (by kernel_rfl) (by kernel_rfl) (fun _ _ _ _ _ h => h) ?_
                    simp only [List.drop_succ_cons, List.drop_zero]
                    go_wp2_with (first
                      | (refine p_snocI rfl _ _ rfl (gp + 1) _ j L rfl (HQ.out.rowA HLJ.out) (xx : Int) rfl (by omega) (Blk.lt HQ.out.w.pt) ?_; intro v2 w4 ho2 hb4; have W4 := HQ.out.w.app hb4; obtain ⟨a2, n2, c2, rfl⟩ := slice_form ho2; have HO4 := Lib.hid ho2; have c4 := W4.lb.cu; have f4 := W4.lb.free 43; have W5 := Lib.hid (W4.addA HLJ.out ho2 HFV.out.1 HFV.out.2); clear ho2))
                    exact ⟨⟨j + 1, L ++ [(xx : Int)], p2, e2, _, by go_num, by omega, by rw [List.length_append, HLJ.out]; rfl, HRR.out, W5.out⟩, by simp [intOf]; omega⟩
                  exact AllReady.nil
                exact AllReady.nil
              exact AllReady.nil
            · obtain rfl : j = n := by omega
              have HRE : Hid ((L, p', e') = R) := by rw [Nat.sub_self, rowE] at hR; exact hR
              clear hR
              go_wp2
              go_meet
              have hx := HX.out
              rw [← HRE.out] at hx
              exact Lib.hid ⟨_, p', e', u', v, HQ.out, ⟨fun c => (by rcases c with c | c; exact absurd c (by decide); rw [HIK.out] at c; cases c), fun _ => HFF.out.pe (by decide), fun _ => HFF.out.ps (by decide)⟩, hx⟩
      case rest =>
        clear HW qj HWW HFF HAA hkd
        have HW := hcut
        clear hcut
        obtain ⟨l, p, e, u, v, hW, hF, hA⟩ := HW.out
        have HWW := Lib.hid hW
        have HFF := Lib.hid hF
        have HAA := Lib.hid hA
        have hkd := hW.w.kd
        have qj : wc.cell? ⟨gp, 3, none⟩ = some (.bool (doneK k)) := hW.w.pt.cell 3
        clear hW hF hA
        go_upto_if 57 with (fail)
        go_cut [] from 57 (fun wx => OnR w g r q gp b k 5 X (t5 b) wx)
        case first =>
          cases hc : doneK k with
          | false =>
            rw [hc] at qj
            have HX := Lib.hid (al_4n HAA.out (by rw [hkd]; exact hc))
            go_wp2
            go_meet
            exact Lib.hid ⟨l, p, e, u, v, HWW.out, HFF.out.next, HX.out⟩
          | true =>
            rw [hc] at qj
            have hc' : doneK l.kind = true := by rw [hkd]; exact hc
            have HC := HN01.out g p e
            have HX := al_4 HAA.out hc'
            generalize numE 0 1 b p e = y at *
            obtain ⟨v1, p1, e1⟩ := y
            simp only at HC HX
            have HC := Lib.hid HC
            have HX := Lib.hid HX
            have hq := beq_one v1
            have HX := HX.out
            generalize decide (v1 = 1) = dq at *
            have HX := Lib.hid HX
            go_wp2_with (go_at_call 44; (with_reducible refine (HC.out _ HWW.out.w.sr).mono ?_); rintro e9 w1 ⟨rfl, s1, k1⟩; have W1 := HWW.out.call s1 k1; have c1 := W1.w.lb.done; have f1 := W1.w.lb.free 44; clear s1 k1)
            (try simp only [Act.put])
            go_meet
            exact Lib.hid ⟨_, p1, e1, u, v, ⟨W1.w.cell 44 _ (W1.w.lb.setDone dq) W1.w.kd, (W1.ow.cell W1.q1).a, (W1.ow.cell W1.q1).p⟩, ⟨HFF.out.next.av, HFF.out.next.pe, HFF.out.next.ps⟩, HX.out⟩
        case rest =>
          clear HW qj HWW HFF HAA hkd
          have HW := hcut
          clear hcut
          obtain ⟨l, p, e, u, v, hW, hF, hA⟩ := HW.out
          have HWW := Lib.hid hW
          have HFF := Lib.hid hF
          have HAA := Lib.hid hA
          have hkd := hW.w.kd
          have qj : wc.cell? ⟨gp, 4, none⟩ = some (.bool (peerK k)) := hW.w.pt.cell 4
          clear hW hF hA
          have c0 := HWW.out.w.lb.kind
          rw [hkd] at c0
          go_upto_if 64 with (fail)
          go_cut [9] from 64 (fun v9 wx => v9 = .int .u64 (leastK k : Int) ∧ wx = wc)
          case first =>
            cases hb9 : k == 2 with
            | false =>
              have hl9 : Hid (leastK k = 0) := by unfold Hid leastK; rw [if_neg (by intro h; rw [h] at hb9; exact absurd hb9 (by decide))]
              clear hb9
              go_wp2
              go_meet
              exact ⟨by rw [hl9.out]; rfl, rfl⟩
            | true =>
              have hl9 : Hid (leastK k = 1) := by unfold Hid leastK; rw [if_pos (eq_of_beq hb9)]
              clear hb9
              go_wp2
              go_meet
              exact ⟨by rw [hl9.out]; rfl, rfl⟩
          case rest =>
            obtain ⟨rfl, rfl⟩ := hcut
            have HNL : Hid (∀ (g p e : Nat) (w : World), Sr e w g (b.drop p) → Calls Try.prog 44 #[.pointer (some ⟨g, 0, none⟩), .int .u64 (leastK k : Int), .int .u64 1] w fun r w' => r = .returned (.int .u64 ((numE (leastK k) 1 b p e).1 : Int)) ∧ Sr (numE (leastK k) 1 b p e).2.2 w' g (b.drop (numE (leastK k) 1 b p e).2.1) ∧ Keep w w' g g) := fun g p e => HN.out (leastK k) 1 g p e
            go_upto_region 21 with (fail)
            go_cut [72] from 65 (fun v9 wx => ∃ (t : Bool) (p1 e1 : Nat), v9 = .bool t ∧ Hid (WR w wx g r q gp b k l p1 e1 u v) ∧ Hid (t = true → Al X (s6 b) { l with peer := (peE b p1 e1).1 } (peE b p1 e1).2.1 (peE b p1 e1).2.2) ∧ Hid (t = false → Al X (s6 b) l p1 e1))
            case first =>
              cases hc : peerK k with
              | false =>
                have HX := Lib.hid (al_5n HAA.out (by rw [hkd]; exact hc))
                rw [hc] at qj
                clear hc
                go_wp2_with (first | go_big_skip)
                go_meet
                exact ⟨false, p, e, rfl, HWW, fun h => (by cases h), fun _ => HX.out⟩
              | true =>
                have HX := al_5 HAA.out (by rw [hkd]; exact hc)
                rw [show myE l.kind b p e = myE k b p e by rw [hkd]] at HX
                unfold myE at HX
                have HC := HNL.out g p e
                generalize numE (leastK k) 1 b p e = y at *
                obtain ⟨v1, p1, e1⟩ := y
                simp only at HX HC
                have HC := Lib.hid HC
                have HX := Lib.hid HX
                have hq := beq_one v1
                have hpe := Lib.hid (HFF.out.pe (by decide))
                rw [hc] at qj
                clear hc
                go_wp2_with (first
                  | go_big_skip
                  | (go_at_call 44; (with_reducible refine (HC.out _ HWW.out.w.sr).mono ?_); rintro e9 w1 ⟨rfl, s1, k1⟩; have W1 := HWW.out.call s1 k1; clear s1 k1))
                go_meet
                exact ⟨decide (v1 = 1), p1, e1, rfl, Lib.hid W1, fun h => (by
                  have hv := of_decide_eq_true h
                  have h9 := HX.out
                  rw [if_pos hv] at h9
                  exact h9), fun h => (by
                  have hv := of_decide_eq_false h
                  have h9 := HX.out
                  rw [if_neg hv] at h9
                  have e9 : ({ l with peer := noP } : Lt) = l := by
                    have h8 := hpe.out
                    cases l
                    simp only at h8
                    subst h8
                    rfl
                  simp only [e9] at h9
                  exact h9)⟩
            case rest =>
              obtain ⟨t, p1, e1, rfl, hW1, hT, hF0⟩ := hcut
              have HWW1 := Lib.hid hW1.out
              clear hW1 c0
              go_upto_if 72 with (fail)
              go_cut [] from 72 (fun wx => OnR w g r q gp b k 6 X (s6 b) wx)
              case first =>
                cases t with
                | false =>
                  go_wp2
                  go_meet
                  exact Lib.hid ⟨l, p1, e1, u, v, HWW1.out, HFF.out.next, hF0.out (by trivial)⟩
                | true =>
                  have HX := hT.out (by trivial)
                  have HCP := HE.out g p1 e1
                  generalize peE b p1 e1 = y at *
                  obtain ⟨x9, p2, e2⟩ := y
                  simp only at HX HCP
                  have HCP := Lib.hid HCP
                  have HX := Lib.hid HX
                  clear hT hF0
                  go_wp2_with (first
                    | (go_at_call 45; (with_reducible refine (HCP.out _ HWW1.out.w.sr).mono ?_); rintro e9 w2 ⟨rfl, s2, k2⟩; have WQ := HWW1.out.call s2 k2; have L2 := WQ.w.lb; clear s2 k2)
                    | ((with_reducible show wpList _ _ _ (Oper.mk _ (Op.store _ _ _) _ _ _ _ :: _) _ _); refine p_putPeer rfl _ _ rfl q rfl x9 rfl L2 ?_))
                  (try simp only [Act.put])
                  go_meet
                  exact Lib.hid ⟨_, p2, e2, u, v, ⟨WQ.w.row _ (WQ.w.lb.setL _ _ _) WQ.w.kd, (WQ.ow.row WQ.q1 _).a, (WQ.ow.row WQ.q1 _).p⟩, ⟨HFF.out.next.av, fun c => absurd c (by decide), HFF.out.next.ps⟩, HX.out⟩
              case rest =>
                clear HW qj HWW HFF HAA hkd HWW1 hT hF0 HNL
                have HW := hcut
                clear hcut
                obtain ⟨l, p, e, u, v, hW, hF, hA⟩ := HW.out
                have HWW := Lib.hid hW
                have HFF := Lib.hid hF
                have HAA := Lib.hid hA
                have hkd := hW.w.kd
                have qj : wc.cell? ⟨gp, 5, none⟩ = some (.bool (peersK k)) := hW.w.pt.cell 5
                clear hW hF hA
                go_upto_if 77 with (fail)
                go_cut [10, 11] from 77 (fun _ _ wx => OnR w g r q gp b k 7 X Except.ok wx)
                case first =>
                  cases hc : peersK k with
                  | false =>
                    rw [hc] at qj
                    have HX := Lib.hid (al_6n HAA.out (by rw [hkd]; exact hc))
                    go_wp2
                    go_meet
                    exact Lib.hid ⟨l, p, e, u, v, HWW.out, HFF.out.next, HX.out⟩
                  | true =>
                    rw [hc] at qj
                    have HX := al_6 HAA.out (by rw [hkd]; exact hc)
                    unfold psE at HX
                    have HC := HN08.out g p e
                    have hle := numE_le 0 8 (by decide) b p e
                    generalize numE 0 8 b p e = y at *
                    obtain ⟨n, p1, e1⟩ := y
                    simp only at HC HX hle
                    have HC := Lib.hid HC
                    have hik := peers_id hc
                    have HFV := Lib.hid (HFF.out.av (.inr hik))
                    obtain ⟨hv0, hl0⟩ := HFF.out.ps (by decide)
                    generalize hR : rowP b n [] p1 e1 = R at *
                    have HRS := Lib.hid hR
                    have HX := Lib.hid HX
                    clear hR hc hik
                    have hcv : IntKind.i64.wrap (n : Int) = (n : Int) := IntWalk.i64_in _ (by omega)
                    go_upto_region 25 with (go_at_call 44; (with_reducible refine (HC.out _ HWW.out.w.sr).mono ?_); rintro e9 w1 ⟨rfl, s1, k1⟩; have W1 := HWW.out.call s1 k1; clear s1 k1)
                    have W1 : WR w w1 g r q gp b k { l with peers := [] } p1 e1 u v := by
                      have := W1
                      rwa [show l = { l with peers := [] } by cases l; simp only at hl0; subst hl0; rfl] at this
                    have HW1 := Lib.hid W1
                    clear W1 hv0 hl0 HWW
                    go_upto_region 26 with (fail)
                    go_loopw [11] (fun ii wq => ∃ (j : Nat) (L : List Pe) (p' e' : Nat) (v' : Value), ii = .int .i64 (j : Int) ∧ j ≤ n ∧ L.length = j ∧ rowP b (n - j) L p' e' = R ∧ WR w wq g r q gp b k { l with peers := L } p' e' u v') (fun ii _ => n - (intOf ii).toNat)
                    case atStart => exact ⟨0, [], p1, e1, v, rfl, Nat.zero_le _, rfl, HRS.out, HW1.out⟩
                    case round =>
                      obtain ⟨j, L, p', e', v', rfl, hj, hlj, hR, hWQ⟩ := hrel
                      have HLJ := Lib.hid hlj
                      have HQ := Lib.hid hWQ
                      clear hlj hWQ HW1 HRS
                      by_cases hlt : j < n
                      · obtain ⟨m, hm⟩ : ∃ m, n - j = m + 1 := ⟨n - j - 1, by omega⟩
                        rw [hm, rowP] at hR
                        have HCR := HE.out g p' e'
                        generalize peE b p' e' = y at *
                        obtain ⟨xx, p2, e2⟩ := y
                        simp only at hR HCR
                        have HCR := Lib.hid HCR
                        have HRR : Hid (rowP b (n - (j + 1)) (L ++ [xx]) p2 e2 = R) := by unfold Hid; rw [show n - (j + 1) = m by omega]; exact hR
                        have b1 : (j : Int) < (n : Int) := by omega
                        clear hR hm
                        go_upto_region 28 with (fail)
                        refine wp_region_any (by kernel_rfl) ?_
                        change wpAny _ _ _ _ _ _ _ (World.drew _)
                        replace HQ := Lib.hid (HQ.out.grow (drew_bel wr))
                        generalize World.drew wr = wd at *
                        refine wpAny_take (i := 0) (v := ?_) rfl (by kernel_rfl) (by kernel_rfl) (by kernel_rfl) (fun _ _ _ h => h) (Or.inl ⟨by rfl, ?_⟩) ?_
                        rotate_left
                        · intro w9
                          go_simp
                          (try with_reducible rfl)
                        (try simp only [Act.put]); (try simp only [List.setIfInBounds_toArray]); (try simp only [List.set_cons_succ]); (try simp only [List.set_cons_zero])
                        (try dsimp only [List.getElem_toArray, List.getElem_cons_succ, List.getElem_cons_zero])
                        (try simp only [Act.put]); (try simp only [List.setIfInBounds_toArray]); (try simp only [List.set_cons_succ]); (try simp only [List.set_cons_zero])
                        refine wpAny_take (i := 2) (v := ?_) rfl (by kernel_rfl) (by kernel_rfl) (by kernel_rfl) (fun _ _ _ h => h) (Or.inl ⟨by rfl, ?_⟩) ?_
                        rotate_left
                        · intro w9
                          go_simp
                          (try with_reducible rfl)
                        (try simp only [Act.put]); (try simp only [List.setIfInBounds_toArray]); (try simp only [List.set_cons_succ]); (try simp only [List.set_cons_zero])
                        (try dsimp only [List.getElem_toArray, List.getElem_cons_succ, List.getElem_cons_zero])
                        (try simp only [Act.put]); (try simp only [List.setIfInBounds_toArray]); (try simp only [List.set_cons_succ]); (try simp only [List.set_cons_zero])
                        refine wpAny_ready (rs := [1, 3]) (by kernel_rfl) (by simp) ?_
                        refine AllReady.cons rfl (fun K hK => ?_) ?_
                        · replace hK := Lib.hid hK
                          have c9 := HQ.out.w.lb.cv
                          go_simp
                          refine hK.out _ _ ?_
                          clear hK K
                          (try simp only [Act.put]); (try simp only [List.setIfInBounds_toArray]); (try simp only [List.set_cons_succ]); (try simp only [List.set_cons_zero])
                          (try dsimp only [List.getElem_toArray, List.getElem_cons_succ, List.getElem_cons_zero])
                          (try simp only [Act.put]); (try simp only [List.setIfInBounds_toArray]); (try simp only [List.set_cons_succ]); (try simp only [List.set_cons_zero])
                          clear c9
                          refine wpAny_ready (rs := [3]) (by kernel_rfl) (by simp) ?_
                          refine AllReady.cons rfl (fun K hK => ?_) ?_
                          · replace hK := Lib.hid hK
                            go_simp
                            go_wp2_with (go_at_call 45; (with_reducible refine (HCR.out _ HQ.out.w.sr).mono ?_); rintro e9 w3 ⟨rfl, s3, k3⟩; replace HQ := Lib.hid (HQ.out.call s3 k3); clear s3 k3)
                            refine hK.out _ _ ?_
                            clear hK K
                            (try simp only [Act.put]); (try simp only [List.setIfInBounds_toArray]); (try simp only [List.set_cons_succ]); (try simp only [List.set_cons_zero])
                            (try dsimp only [List.getElem_toArray, List.getElem_cons_succ, List.getElem_cons_zero])
                            (try simp only [Act.put]); (try simp only [List.setIfInBounds_toArray]); (try simp only [List.set_cons_succ]); (try simp only [List.set_cons_zero])
                            refine any_tail 4 (by kernel_rfl) (by kernel_rfl) (by kernel_rfl) (fun _ _ _ _ _ h => h) ?_
                            simp only [List.drop_succ_cons, List.drop_zero]
                            go_wp2_with (first
                              | (refine p_sliceP rfl _ rfl xx rfl ?_)
                              | (refine p_snocP rfl _ _ rfl (gp + 1) _ j L rfl (HQ.out.rowP HLJ.out) xx rfl (by omega) (Blk.lt HQ.out.w.pt) ?_; intro v2 w4 ho2 hb4; have W4 := HQ.out.w.app hb4; obtain ⟨a2, n2, c2, rfl⟩ := slice_form ho2; have HO4 := Lib.hid ho2; have c4 := W4.lb.cv; have f4 := W4.lb.free 66; have W5 := Lib.hid (W4.addP HLJ.out ho2 HFV.out.1 HFV.out.2); clear ho2))
                            exact ⟨⟨j + 1, L ++ [xx], p2, e2, _, by go_num, by omega, by rw [List.length_append, HLJ.out]; rfl, HRR.out, W5.out⟩, by simp [intOf]; omega⟩
                          exact AllReady.nil
                        refine AllReady.cons rfl (fun K hK => ?_) ?_
                        · replace hK := Lib.hid hK
                          go_simp
                          go_wp2_with (go_at_call 45; (with_reducible refine (HCR.out _ HQ.out.w.sr).mono ?_); rintro e9 w3 ⟨rfl, s3, k3⟩; replace HQ := Lib.hid (HQ.out.call s3 k3); clear s3 k3)
                          refine hK.out _ _ ?_
                          clear hK K
                          (try simp only [Act.put]); (try simp only [List.setIfInBounds_toArray]); (try simp only [List.set_cons_succ]); (try simp only [List.set_cons_zero])
                          (try dsimp only [List.getElem_toArray, List.getElem_cons_succ, List.getElem_cons_zero])
                          (try simp only [Act.put]); (try simp only [List.setIfInBounds_toArray]); (try simp only [List.set_cons_succ]); (try simp only [List.set_cons_zero])
                          refine wpAny_ready (rs := [1, 4]) (by kernel_rfl) (by simp) ?_
                          refine AllReady.cons rfl (fun K hK => ?_) ?_
                          · replace hK := Lib.hid hK
                            have c9 := HQ.out.w.lb.cv
                            go_simp
                            refine hK.out _ _ ?_
                            clear hK K
                            (try simp only [Act.put]); (try simp only [List.setIfInBounds_toArray]); (try simp only [List.set_cons_succ]); (try simp only [List.set_cons_zero])
                            (try dsimp only [List.getElem_toArray, List.getElem_cons_succ, List.getElem_cons_zero])
                            (try simp only [Act.put]); (try simp only [List.setIfInBounds_toArray]); (try simp only [List.set_cons_succ]); (try simp only [List.set_cons_zero])
                            clear c9
                            refine any_tail 4 (by kernel_rfl) (by kernel_rfl) (by kernel_rfl) (fun _ _ _ _ _ h => h) ?_
                            simp only [List.drop_succ_cons, List.drop_zero]
                            go_wp2_with (first
                              | (refine p_sliceP rfl _ rfl xx rfl ?_)
                              | (refine p_snocP rfl _ _ rfl (gp + 1) _ j L rfl (HQ.out.rowP HLJ.out) xx rfl (by omega) (Blk.lt HQ.out.w.pt) ?_; intro v2 w4 ho2 hb4; have W4 := HQ.out.w.app hb4; obtain ⟨a2, n2, c2, rfl⟩ := slice_form ho2; have HO4 := Lib.hid ho2; have c4 := W4.lb.cv; have f4 := W4.lb.free 66; have W5 := Lib.hid (W4.addP HLJ.out ho2 HFV.out.1 HFV.out.2); clear ho2))
                            exact ⟨⟨j + 1, L ++ [xx], p2, e2, _, by go_num, by omega, by rw [List.length_append, HLJ.out]; rfl, HRR.out, W5.out⟩, by simp [intOf]; omega⟩
                          refine AllReady.cons rfl (fun K hK => ?_) ?_
                          · replace hK := Lib.hid hK
                            rw [if_pos (by rfl)]
                            refine o_sliceP _ rfl xx rfl ?_
                            refine hK.out _ _ ?_
                            clear hK K
                            (try simp only [Act.put]); (try simp only [List.setIfInBounds_toArray]); (try simp only [List.set_cons_succ]); (try simp only [List.set_cons_zero])
                            (try dsimp only [List.getElem_toArray, List.getElem_cons_succ, List.getElem_cons_zero])
                            (try simp only [Act.put]); (try simp only [List.setIfInBounds_toArray]); (try simp only [List.set_cons_succ]); (try simp only [List.set_cons_zero])
                            refine wpAny_ready (rs := [1]) (by kernel_rfl) (by simp) ?_
                            refine AllReady.cons rfl (fun K hK => ?_) ?_
                            · replace hK := Lib.hid hK
                              have c9 := (HQ.out.w.lb.bel (bel_alloc w3 (.cells (peA xx) 25))).cv
                              go_simp
                              refine hK.out _ _ ?_
                              clear hK K
                              (try simp only [Act.put]); (try simp only [List.setIfInBounds_toArray]); (try simp only [List.set_cons_succ]); (try simp only [List.set_cons_zero])
                              (try dsimp only [List.getElem_toArray, List.getElem_cons_succ, List.getElem_cons_zero])
                              (try simp only [Act.put]); (try simp only [List.setIfInBounds_toArray]); (try simp only [List.set_cons_succ]); (try simp only [List.set_cons_zero])
                              clear c9
                              refine any_tail 5 (by kernel_rfl) (by kernel_rfl) (by kernel_rfl) (fun _ _ _ _ _ h => h) ?_
                              simp only [List.drop_succ_cons, List.drop_zero]
                              go_wp2_with (first
                                | (refine p_snocP rfl _ _ rfl (gp + 1) _ j L rfl (HQ.out.rowP HLJ.out) xx rfl (by omega) (Blk.lt HQ.out.w.pt) ?_; intro v2 w4 ho2 hb4; have W4 := HQ.out.w.app hb4; obtain ⟨a2, n2, c2, rfl⟩ := slice_form ho2; have HO4 := Lib.hid ho2; have c4 := W4.lb.cv; have f4 := W4.lb.free 66; have W5 := Lib.hid (W4.addP HLJ.out ho2 HFV.out.1 HFV.out.2); clear ho2))
                              exact ⟨⟨j + 1, L ++ [xx], p2, e2, _, by go_num, by omega, by rw [List.length_append, HLJ.out]; rfl, HRR.out, W5.out⟩, by simp [intOf]; omega⟩
                            exact AllReady.nil
                          exact AllReady.nil
                        exact AllReady.nil
                      · obtain rfl : j = n := by omega
                        have HRE : Hid ((L, p', e') = R) := by rw [Nat.sub_self, rowP] at hR; exact hR
                        clear hR
                        go_wp2
                        go_meet
                        have hx := HX.out
                        rw [← HRE.out] at hx
                        exact Lib.hid ⟨_, p', e', u, v', HQ.out, ⟨fun _ => HFV.out, fun c => absurd c (by decide), fun c => absurd c (by decide)⟩, hx⟩
                case rest =>
                  clear HW qj HWW HFF HAA hkd
                  have HW := hcut
                  clear hcut
                  obtain ⟨l, p, e, u, v, hW, _, hA⟩ := HW.out
                  have HWW := Lib.hid hW
                  have cc := hW.w.sr.code
                  by_cases he : e = 0
                  · subst he
                    have hX : X = .ok (l, p) := hA.1 rfl
                    by_cases hp : p < b.length
                    · have HYE : Hid (Y = .error 3) := by have := HF.out; rw [hX] at this; simp only at this; rw [if_pos hp] at this; exact this
                      have hne : txt (b.drop p) ≠ (⟨#[]⟩ : ByteArray) := by
                        intro h
                        have := congrArg ByteArray.size h
                        rw [txt_size, List.length_drop, show (⟨#[]⟩ : ByteArray).size = 0 from rfl] at this
                        omega
                      have cs := hW.w.sr.cell
                      generalize txt (b.drop p) = S0 at *
                      have e0 : (S0.toList == (⟨#[]⟩ : ByteArray).toList) = false := by rw [toList_beq]; exact decide_eq_false hne
                      have hbin : S0.toList.isEmpty = false := by
                        have h0 : ¬ S0.toList = (⟨#[]⟩ : ByteArray).toList := fun h => by rw [h] at e0; simp at e0
                        have h1 : ¬ S0.toList = [] := fun h => h0 (by rw [h]; simp)
                        cases hc : S0.toList with
                        | nil => exact absurd hc h1
                        | cons a t => rfl
                      clear e0 hne
                      have zz := hW.w.z
                      clear hA hX hp hW
                      go_wp2_with (first
                        | (refine p_buildL0 rfl rfl ?_)
                        | ((with_reducible show wpList _ _ _ (Oper.mk _ (Op.store _ _ _) _ _ _ _ :: _) _ _); refine p_putL rfl _ _ rfl r rfl rfl rfl rfl zz ?_))
                      refine bodyPost_ret (results_L2 Try.results15 _ _ r (.int .i64 3) rfl rfl (zz.setL zeroL nilS nilS)) rfl ?_
                      exact gotn_no HYE.out (bel_setRow HWW.out.w.bel HWW.out.w.n0 (ltA zeroL nilS nilS))
                    · have HYE : Hid (Y = .ok l) := by have := HF.out; rw [hX] at this; simp only at this; rw [if_neg hp] at this; exact this
                      have hd0 : b.drop p = [] := List.drop_eq_nil_of_le (by omega)
                      have cs : wc.cell? ⟨g, 0, none⟩ = some (.string ⟨#[]⟩) := by have := hW.w.sr.cell; rw [hd0] at this; exact this
                      have zz := hW.w.z
                      have ll := hW.w.lb
                      have ou := own_one hW.ow.a
                      have ov := own_one hW.ow.p
                      clear hA hX hp hW hd0
                      go_wp2_with (first
                        | (refine p_midL rfl _ rfl q rfl ll ?_)
                        | ((with_reducible show wpList _ _ _ (Oper.mk _ (Op.store _ _ _) _ _ _ _ :: _) _ _); refine p_putL rfl _ _ rfl r rfl rfl ou ov zz ?_))
                      refine bodyPost_ret (results_L2 Try.results15 _ _ r (.int .i64 0) rfl rfl (zz.setL l u v)) rfl ?_
                      exact gotn_ok HYE.out (OwnL.ltM (HWW.out.ow.row (by have := HWW.out.w.n1; have := HWW.out.w.n2; have := HWW.out.w.n3; omega) _)) (bel_setRow HWW.out.w.bel HWW.out.w.n0 (ltA l u v))
                  · have HYE : Hid (Y = .error e) := by have := HF.out; rw [hA.2 he] at this; exact this
                    have hd : ((e : Int) != 0) = true := by simp; omega
                    clear hA hW
                    go_upto_region 30 with (fail)
                    refine wp_region_any (by kernel_rfl) ?_
                    change wpAny _ _ _ _ _ _ _ (World.drew _)
                    have HQ := Lib.hid (HWW.out.grow (drew_bel wc))
                    generalize World.drew wc = wd at *
                    refine wpAny_take (i := 0) (v := ?_) rfl (by kernel_rfl) (by kernel_rfl) (by kernel_rfl) (fun _ _ _ h => h) (Or.inl ⟨by rfl, ?_⟩) ?_
                    rotate_left
                    · intro w9
                      go_simp
                      (try with_reducible rfl)
                    (try simp only [Act.put]); (try simp only [List.setIfInBounds_toArray]); (try simp only [List.set_cons_succ]); (try simp only [List.set_cons_zero])
                    (try dsimp only [List.getElem_toArray, List.getElem_cons_succ, List.getElem_cons_zero])
                    (try simp only [Act.put]); (try simp only [List.setIfInBounds_toArray]); (try simp only [List.set_cons_succ]); (try simp only [List.set_cons_zero])
                    refine wpAny_take (i := 1) (v := ?_) rfl (by kernel_rfl) (by kernel_rfl) (by kernel_rfl) (fun _ _ _ h => h) (Or.inl ⟨by rfl, ?_⟩) ?_
                    rotate_left
                    · intro w9
                      go_simp
                      (try with_reducible rfl)
                    (try simp only [Act.put]); (try simp only [List.setIfInBounds_toArray]); (try simp only [List.set_cons_succ]); (try simp only [List.set_cons_zero])
                    (try dsimp only [List.getElem_toArray, List.getElem_cons_succ, List.getElem_cons_zero])
                    (try simp only [Act.put]); (try simp only [List.setIfInBounds_toArray]); (try simp only [List.set_cons_succ]); (try simp only [List.set_cons_zero])
                    refine wpAny_take (i := 2) (v := ?_) rfl (by kernel_rfl) (by kernel_rfl) (by kernel_rfl) (fun _ _ _ h => h) (Or.inl ⟨by rfl, ?_⟩) ?_
                    rotate_left
                    · intro w9
                      go_simp
                      (try with_reducible rfl)
                    (try simp only [Act.put]); (try simp only [List.setIfInBounds_toArray]); (try simp only [List.set_cons_succ]); (try simp only [List.set_cons_zero])
                    (try dsimp only [List.getElem_toArray, List.getElem_cons_succ, List.getElem_cons_zero])
                    (try simp only [Act.put]); (try simp only [List.setIfInBounds_toArray]); (try simp only [List.set_cons_succ]); (try simp only [List.set_cons_zero])
                    refine wpAny_take (i := 3) (v := ?_) rfl (by kernel_rfl) (by kernel_rfl) (by kernel_rfl) (fun _ _ _ h => h) (Or.inl ⟨by rfl, ?_⟩) ?_
                    rotate_left
                    · intro w9
                      go_simp
                      (try with_reducible rfl)
                    (try simp only [Act.put]); (try simp only [List.setIfInBounds_toArray]); (try simp only [List.set_cons_succ]); (try simp only [List.set_cons_zero])
                    (try dsimp only [List.getElem_toArray, List.getElem_cons_succ, List.getElem_cons_zero])
                    (try simp only [Act.put]); (try simp only [List.setIfInBounds_toArray]); (try simp only [List.set_cons_succ]); (try simp only [List.set_cons_zero])
                    refine wpAny_ready (rs := [4, 5]) (by kernel_rfl) (by simp) ?_
                    refine AllReady.cons rfl (fun K hK => ?_) ?_
                    · replace hK := Lib.hid hK
                      have c9 := HQ.out.w.sr.code
                      go_simp
                      refine hK.out _ _ ?_
                      clear hK K
                      (try simp only [Act.put]); (try simp only [List.setIfInBounds_toArray]); (try simp only [List.set_cons_succ]); (try simp only [List.set_cons_zero])
                      (try dsimp only [List.getElem_toArray, List.getElem_cons_succ, List.getElem_cons_zero])
                      (try simp only [Act.put]); (try simp only [List.setIfInBounds_toArray]); (try simp only [List.set_cons_succ]); (try simp only [List.set_cons_zero])
                      clear c9
                      refine wpAny_ready (rs := [5]) (by kernel_rfl) (by simp) ?_
                      refine AllReady.cons rfl (fun K hK => ?_) ?_
                      · replace hK := Lib.hid hK
                        have z9 := HQ.out.w.z
                        rw [if_pos (by rfl)]
                        (try rw [zeroLt])
                        refine o_putL _ _ rfl r rfl rfl rfl rfl z9 ?_
                        refine hK.out _ _ ?_
                        clear hK K
                        (try simp only [Act.put]); (try simp only [List.setIfInBounds_toArray]); (try simp only [List.set_cons_succ]); (try simp only [List.set_cons_zero])
                        (try dsimp only [List.getElem_toArray, List.getElem_cons_succ, List.getElem_cons_zero])
                        (try simp only [Act.put]); (try simp only [List.setIfInBounds_toArray]); (try simp only [List.set_cons_succ]); (try simp only [List.set_cons_zero])
                        clear z9
                        refine any_tail 6 (by kernel_rfl) (by kernel_rfl) (by kernel_rfl) (fun _ _ _ _ _ h => h) ?_
                        simp only [List.drop_succ_cons, List.drop_zero]
                        go_wp2
                        refine bodyPost_ret (results_L2 Try.results15 _ _ r (.int .i64 (e : Int)) rfl rfl (HQ.out.w.z.setL zeroL nilS nilS)) rfl ?_
                        have hb9 := bel_setRow HQ.out.w.bel HQ.out.w.n0 (ltA zeroL nilS nilS)
                        exact gotn_no HYE.out hb9
                      exact AllReady.nil
                    refine AllReady.cons rfl (fun K hK => ?_) ?_
                    · replace hK := Lib.hid hK
                      have z9 := HQ.out.w.z
                      rw [if_pos (by rfl)]
                      (try rw [zeroLt])
                      refine o_putL _ _ rfl r rfl rfl rfl rfl z9 ?_
                      refine hK.out _ _ ?_
                      clear hK K
                      (try simp only [Act.put]); (try simp only [List.setIfInBounds_toArray]); (try simp only [List.set_cons_succ]); (try simp only [List.set_cons_zero])
                      (try dsimp only [List.getElem_toArray, List.getElem_cons_succ, List.getElem_cons_zero])
                      (try simp only [Act.put]); (try simp only [List.setIfInBounds_toArray]); (try simp only [List.set_cons_succ]); (try simp only [List.set_cons_zero])
                      clear z9
                      refine wpAny_ready (rs := [4]) (by kernel_rfl) (by simp) ?_
                      refine AllReady.cons rfl (fun K hK => ?_) ?_
                      · replace hK := Lib.hid hK
                        have c9 := (show Sr e (wd.setRow r (ltA zeroL nilS nilS)) g (b.drop p) from Blk.setRow_other HQ.out.w.sr r _ (by have := HQ.out.w.n1; omega)).code
                        go_simp
                        refine hK.out _ _ ?_
                        clear hK K
                        (try simp only [Act.put]); (try simp only [List.setIfInBounds_toArray]); (try simp only [List.set_cons_succ]); (try simp only [List.set_cons_zero])
                        (try dsimp only [List.getElem_toArray, List.getElem_cons_succ, List.getElem_cons_zero])
                        (try simp only [Act.put]); (try simp only [List.setIfInBounds_toArray]); (try simp only [List.set_cons_succ]); (try simp only [List.set_cons_zero])
                        clear c9
                        refine any_tail 6 (by kernel_rfl) (by kernel_rfl) (by kernel_rfl) (fun _ _ _ _ _ h => h) ?_
                        simp only [List.drop_succ_cons, List.drop_zero]
                        go_wp2
                        refine bodyPost_ret (results_L2 Try.results15 _ _ r (.int .i64 (e : Int)) rfl rfl (HQ.out.w.z.setL zeroL nilS nilS)) rfl ?_
                        have hb9 := bel_setRow HQ.out.w.bel HQ.out.w.n0 (ltA zeroL nilS nilS)
                        exact gotn_no HYE.out hb9
                      exact AllReady.nil
                    exact AllReady.nil
end Go.Proofs.Ytplcdjmidelboaa.Q
