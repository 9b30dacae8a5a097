/- The document's Text. -/
import Derived.Test.YtgpmfiphebmldaaDoorBlaCodes
import Derived.Test.YtgpmfiphebmldaaDoorBlaRefT
import Derived.Lib.QuietBelow
import Derived.BigQuiet
import Derived.Deep.QuietTactic
namespace Go.Proofs.YtgpmfiphebmldaaDoor
open Go.RowKit Go.Sort

def RTx (t : ET) : Prop := ∀ (X : Array Value) (w : World), Tr w (fun _ => True) X t → Calls Tryd.prog 19 #[.agg X] w fun e w' => e = .returned (.string (bs t.text)) ∧ Below w.heap.size w w'

set_option maxRecDepth 100000 in
theorem rtx_code (c : Int) : RTx (.code c) := by
  intro X w hE
  cases hE with
  | code _ hc =>
  have b1 := Blk.new w (treeC 1 c ⟨#[]⟩ (.slice none 0 0)) 32
  have bel : Below w.heap.size w (w.alloc (.cells (treeC 1 c ⟨#[]⟩ (.slice none 0 0)) 32)) := (Below.refl _ _).alloc (Nat.le_refl _) _
  have hD := digits_any c hc.2.1 hc.2.2 (w.alloc (.cells (treeC 1 c ⟨#[]⟩ (.slice none 0 0)) 32))
  have hadd := room ⟨#[101, 114, 114, 111, 114, 32]⟩ (bs (Lib.itoa c)) (by have := itoa_len c hc.2.1 hc.2.2; have e : (⟨#[101, 114, 114, 111, 114, 32]⟩ : ByteArray).size = 6 := rfl; omega)
  have hs : (⟨#[101, 114, 114, 111, 114, 32]⟩ : ByteArray) ++ bs (Lib.itoa c) = bs (ET.code c).text := bs_append errB _
  have HS := Lib.hid hs
  have HD := Lib.hid hD
  clear hs hD
  generalize bs (ET.code c).text = Z at *
  generalize bs (Lib.itoa c) = Y at *
  go_enter Tryd.func19, Tryd.ntmps19
  go_upto_region 1 with (fail)
  generalize w.alloc _ = W at *
  have c0 : W.cell? ⟨w.heap.size, 0, none⟩ = some (.int .i64 1) := b1.cell 0
  have c1 : W.cell? ⟨w.heap.size, 1, none⟩ = some (.int .i64 c) := b1.cell 1
  go_wp2_with (go_at_call 24; (with_reducible refine HD.out.mono ?_); rintro e w2 ⟨rfl, rfl⟩)
  go_ret
  exact ⟨by rw [← HS.out]; rfl, bel⟩

theorem q_midT {W : World} {o : Oper} {a : Act} {K : Act → Prop} (x : Operand) (ho : o.op = .load 32 x) (g i : Nat) (hx : a.eval x = .pointer (some ⟨g, i, none⟩)) (X : Array Value) (hX : X.size = 4)
    (hg : W.rangeAt g i X.toList) (hk : K (a.put o.dst (.agg X))) : o.quiet Tryd.prog a (fun w' => ∃ p : Regrown, w' = grow (redrawn W p.d) p.os) K := by
  refine ⟨.agg X, ?_, hk⟩
  rintro w' ⟨p, rfl⟩
  have hg' : (grow (redrawn W p.d) p.os).rangeAt g i X.toList := range_kept hg (p := fun _ => True) (fun k hk _ => (below_regrown W p.d p.os).block k hk) trivial
  have hl := run_loadVar_mid (P := Tryd.prog) (grow (redrawn W p.d) p.os) g i 32 X.toList _ hg' Tryd.underlying32 rfl (by rw [Array.length_toList]; exact sizeT hX)
  rw [Array.toArray_toList] at hl
  unfold Oper.quietAt execOp
  simp only [ho, hx, Instr.loadAt, Instr.sureAddr, Sem.run_bind, hl, Sem.run_pure, Result.andThen_ok]
  exact ⟨rfl, rfl⟩

set_option maxRecDepth 100000 in
set_option maxHeartbeats 1000000 in
theorem rtx_wrap (op : ByteArray) (t : ET) (ht : op.size + 4 + t.wt ≤ 1000000) (IH : RTx t) : RTx (.wrap op t) := by
  intro X w hE
  cases hE with
  | wrap g cap _ Y _ hp hc hr hY =>
  have hlen := text_le t hY.ok
  have b1 := Blk.new w (treeC 2 0 op (.slice (some ⟨g, 0, none⟩) 1 cap)) 32
  have bel : Below w.heap.size w (w.alloc (.cells (treeC 2 0 op (.slice (some ⟨g, 0, none⟩) 1 cap)) 32)) := (Below.refl _ _).alloc (Nat.le_refl _) _
  go_enter Tryd.func19, Tryd.ntmps19
  go_upto_region 1 with (fail)
  generalize w.alloc _ = W at *
  have c0 : W.cell? ⟨w.heap.size, 0, none⟩ = some (.int .i64 2) := b1.cell 0
  have c2 : W.cell? ⟨w.heap.size, 2, none⟩ = some (.string op) := b1.cell 2
  have c3 : W.cell? ⟨w.heap.size, 3, none⟩ = some (.slice (some ⟨g, 0, none⟩) 1 cap) := b1.cell 3
  go_upto_region 4 with (fail)
  have hr1 : W.rangeAt g 0 Y.toList := range_kept hr (p := fun _ => True) (fun i hi _ => bel.block i hi) trivial
  have hY1 : Tr W (fun _ => True) Y t := hY.kept fun i hi _ => bel.block i hi
  have hYs := hY1.size
  have h2 : (⟨#[58, 32]⟩ : ByteArray).size = 2 := rfl
  have a1 := room op ⟨#[58, 32]⟩ (by omega)
  have a2 := room (op ++ ⟨#[58, 32]⟩) (bs t.text) (by rw [ByteArray.size_append, bs_size]; omega)
  have hs : (op ++ ⟨#[58, 32]⟩) ++ bs t.text = bs (ET.wrap op t).text := by
    rw [ET.text, ← bs_append, ← bs_append, bs_of]; rfl
  have HS := Lib.hid hs
  have hT : ∀ (d : Nat) (os : Array Obj), Calls Tryd.prog 19 #[.agg Y] (grow (redrawn W d) os) fun e w'' => e = .returned (.string (bs t.text)) ∧ ∃ p : Regrown, w'' = grow (redrawn W p.d) p.os := fun d os =>
    Calls.regrown_of (IH Y _ (hY1.kept fun i hi _ => (below_regrown W d os).block i hi))
  have g2 : ∀ (d : Nat) (os : Array Obj), (grow (redrawn W d) os).cell? ⟨w.heap.size, 2, none⟩ = some (.string op) := fun d os => ((below_regrown W d os).cell (p := ⟨w.heap.size, 2, none⟩) b1.lt).trans c2
  have g3 : ∀ (d : Nat) (os : Array Obj), (grow (redrawn W d) os).cell? ⟨w.heap.size, 3, none⟩ = some (.slice (some ⟨g, 0, none⟩) 1 cap) := fun d os => ((below_regrown W d os).cell (p := ⟨w.heap.size, 3, none⟩) b1.lt).trans c3
  clear hs hr hY IH hY1
  generalize bs t.text = V at *
  refine wp_region_quiet_below (by kernel_rfl) (by kernel_rfl) ?_
  repeat (first
    | go_big_quiet_skip
    | (go_big_quiet_want
       first
       | (refine q_midT _ rfl g 0 rfl Y hYs hr1 ?_
          simp only [Act.put, List.setIfInBounds_toArray, List.set_cons_succ, List.set_cons_zero]
          go_big_quiet_on)
       | (go_big_quiet_op
          first | go_big_quiet_on | go_big_quiet_call (first | with_reducible exact hT _ _))))
  refine wpQuiet_nil ?_
  intro _ hw'
  obtain ⟨⟨dq, osq⟩, hw''⟩ := hw'
  subst hw''
  have hb2 := below_regrown W dq osq
  clear g2 g3 hT
  go_wp2
  go_ret
  exact ⟨by rw [← HS.out]; rfl, bel.trans (hb2.mono bel.size)⟩

set_option maxHeartbeats 1000000 in
set_option maxRecDepth 100000 in
theorem rtx_join (ts : List ET) (hw : 4 + ET.wtL ts ≤ 1000000) (IH : ∀ t, t ∈ ts → RTx t) : RTx (.join ts) := by
  intro X w hE
  have hok := hE.ok.2
  obtain ⟨op, g, cap, xs, hX, _, hxl, hgl, _, hr, hT⟩ := tr_parts hE rfl
  have hk : kindO (some (.join ts)) = 3 := rfl
  have hkd : ET.kids (.join ts) = ts := rfl
  rw [hk, hkd] at hX
  rw [hkd] at hxl hT
  have hb0 := wtL_length ts
  obtain ⟨n, hn⟩ : ∃ n, n = ts.length := ⟨_, rfl⟩
  have b1 := Blk.new w X 32
  have bel : Below w.heap.size w (w.alloc (.cells X 32)) := (Below.refl _ _).alloc (Nat.le_refl _) _
  rw [← hn] at hX hxl hb0
  have HN := Lib.hid hn
  have HR := Lib.hid hr
  have HT := Lib.hid hT
  have HI := Lib.hid IH
  have HK := Lib.hid hok
  clear hn hr hT IH hE hok hk hkd
  subst hX
  go_enter Tryd.func19, Tryd.ntmps19
  go_upto_region 1 with (fail)
  generalize hW : w.alloc _ = W
  rw [show w.alloc (.cells (treeC 3 0 op (.slice (some ⟨g, 0, none⟩) n cap)) 32) = W from hW] at b1 bel
  have c0 : W.cell? ⟨w.heap.size, 0, none⟩ = some (.int .i64 3) := b1.cell 0
  have hs : w.heap.size + 1 ≤ W.heap.size := b1.lt
  go_wp2
  go_loopw [3, 4] (fun v i wr => ∃ k : Nat, k ≤ n ∧ i = .int .i64 k ∧ Below (w.heap.size + 1) W wr ∧ v = .string (bs (ET.textL true (ts.take k)))) (fun _ i _ => n - (intOf i).toNat)
  case atStart => exact ⟨0, by omega, rfl, Below.refl _ _, rfl⟩
  case round =>
    obtain ⟨k, hk, rfl, hB, rfl⟩ := hrel
    have HB := Lib.hid hB
    clear hB
    have b1' := b1.below HB.out (by omega)
    have c3 : wr.cell? ⟨w.heap.size, 3, none⟩ = some (.slice (some ⟨g, 0, none⟩) n cap) := b1'.cell 3
    have hBw : Below w.heap.size w wr := bel.trans (HB.out.mono (by omega))
    by_cases hlt : k < n
    · obtain ⟨Y, hyk⟩ : ∃ Y, xs[k]? = some Y := ⟨_, List.getElem?_eq_getElem (by omega)⟩
      obtain ⟨s, hsk⟩ : ∃ s, ts[k]? = some s := ⟨_, List.getElem?_eq_getElem (by rw [← HN.out]; omega)⟩
      have hms := List.mem_of_getElem? hsk
      have hY : Tr wr (fun _ => True) Y s := ((HT.out k Y s hyk hsk).kept (p := fun _ => True) fun i hi _ => hBw.block i hi)
      have hYs := hY.size
      have hry : wr.rangeAt g (k * 4) Y.toList := range_kept (HR.out k Y hyk) (p := fun _ => True) (fun i hi _ => hBw.block i hi) trivial
      have hC := HI.out s hms Y wr hY
      have hsn := textL_snoc (ts.take k) s
      rw [← take_snoc ts k s hsk, List.length_take, ← HN.out, show min k n = k by omega] at hsn
      have hw1 := wtL_take ts k
      have hl1 := textL_le (ts.take k) true (ET.okL_iff.2 fun t ht => ET.okL_iff.1 HK.out t (List.mem_of_mem_take ht))
      have hl2 := text_le s hY.ok
      have hl3 := wtL_mem hms
      have h2 : (⟨#[59, 32]⟩ : ByteArray).size = 2 := rfl
      have HC := Lib.hid hC
      have HS := Lib.hid hsn
      have hs2 : w.heap.size + 1 ≤ wr.heap.size := by have := HB.out.size; omega
      clear hC hsn hY hms
      obtain ⟨L, hL⟩ : ∃ L, L = ET.textL true (ts.take k) := ⟨_, rfl⟩
      obtain ⟨M, hM⟩ : ∃ M, M = s.text := ⟨_, rfl⟩
      rw [← hL] at HS hl1 ⊢
      rw [← hM] at HC HS hl2
      clear hL hM
      by_cases h0 : k = 0
      · subst h0
        rw [Nat.zero_mul] at hry
        have a1 := room (bs L) (bs M) (by rw [bs_size, bs_size]; omega)
        go_wp2_with (first
          | (refine p_midT rfl _ rfl g 0 rfl Y hYs hry ?_)
          | (go_at_call 19; (with_reducible refine HC.out.mono ?_); rintro e w2 ⟨rfl, hb2⟩))
        refine ⟨⟨1, by omega, by go_num, HB.out.trans (hb2.mono hs2), ?_⟩, by simp [intOf]; omega⟩
        rw [HS.out, bs_append]
        simp
      · have hgt : decide ((0 : Int) < (k : Int)) = true := by simp; omega
        have a0 := room (bs L) ⟨#[59, 32]⟩ (by rw [bs_size]; omega)
        have a1 := room (bs L ++ ⟨#[59, 32]⟩) (bs M) (by rw [ByteArray.size_append, bs_size, bs_size]; omega)
        go_wp2_with (first
          | (refine p_midT rfl _ rfl g (k * 4) rfl Y hYs hry ?_)
          | (go_at_call 19; (with_reducible refine HC.out.mono ?_); rintro e w2 ⟨rfl, hb2⟩))
        refine ⟨⟨k + 1, by omega, by go_num, HB.out.trans (hb2.mono hs2), ?_⟩, by simp [intOf]; omega⟩
        rw [HS.out, if_neg h0, ← bs_append, ← bs_append, ByteArray.append_assoc]
        rfl
    · obtain rfl : n = k := by omega
      have ht : ts.take n = ts := by rw [HN.out, List.take_length]
      rw [ht]
      go_wp2
      go_ret
      exact ⟨rfl, hBw⟩

theorem rtx_any (t : ET) (hw : t.wt ≤ 1000000) : RTx t := by
  induction t using ET.ind with
  | hc c => exact rtx_code c
  | hw op t ih => rw [ET.wt] at hw; exact rtx_wrap op t hw (ih (by omega))
  | hj l ih => rw [ET.wt] at hw; exact rtx_join l hw fun t h => ih t h (by have := wtL_mem h; omega)
set_option maxRecDepth 100000 in
theorem reftext_any (p : Nat → Prop) (X : Array Value) (o : Option ET) (w : World) (hE : To w p X o) (ho : wtO o ≤ 1000000) :
    Calls Tryd.prog 19 #[.agg X] w fun e w' => e = .returned (.string (bs (textO o))) ∧ Below w.heap.size w w' := by
  cases o with
  | none =>
    cases hE
    have b1 := Blk.new w zeroT 32
    have bel : Below w.heap.size w (w.alloc (.cells zeroT 32)) := (Below.refl _ _).alloc (Nat.le_refl _) _
    go_enter Tryd.func19, Tryd.ntmps19
    go_upto_region 1 with (fail)
    generalize hW : w.alloc _ = W
    rw [show w.alloc (.cells zeroT 32) = W from hW] at b1 bel
    have c0 : W.cell? ⟨w.heap.size, 0, none⟩ = some (.int .i64 0) := b1.cell 0
    have c3 : W.cell? ⟨w.heap.size, 3, none⟩ = some (.slice none 0 0) := b1.cell 3
    go_wp2
    refine wp_loop_rounds 1 ?_
    rw [rounds_succ]
    go_wp2
    go_ret
    exact ⟨rfl, bel⟩
  | some t =>
    have hT : Tr w p X t := hE
    exact rtx_any t ho X w (hT.mono fun _ _ _ => trivial)
end Go.Proofs.YtgpmfiphebmldaaDoor
