/- The document's items that a label covers; its Union. -/
import Derived.Test.YtkicndengkcojaaRecHalv
import Derived.Test.YtkicndengkcojaaRecOf
import Derived.Test.YtkicndengkcojaaRecRef2
import Derived.Test.YtkicndengkcojaaPkA
namespace Go.Proofs.Ytkicndengkcojaa
set_option maxRecDepth 100000
open Go Go.RowKit Go.Sort

set_option maxHeartbeats 2000000 in
theorem refcov_any {r : Rc} {u : Value} {w : World} (hT0 : Told w u r.items) (hW : r.Wf) (hl : r.items.length ≤ 1000000) (n : Int) (b : Nat) (hb : b < 18446744073709551616) :
    Calls Try.prog 68 #[.agg (recC r u), .agg (labc n b)] w fun e w' => ∃ v, e = .returned v ∧ Told w' v (covL r.items n b) ∧ Below w.heap.size w w' := by
  have HF : Hid (∀ k : Nat, k < 18446744073709551616 → Gives Try.prog 101 #[.agg (labc n b), .int .u64 (k : Int)] (.bool (coversB n b k))) := fun k hk w => refCovers_any n b k w hb hk
  have hkey := hW.key
  have A0 := (Blk.new w (recC r u) 27).alloc (.cells (labc n b) 25)
  have L0 := Blk.new (w.alloc (.cells (recC r u) 27)) (labc n b) 25
  rw [World.size_alloc] at L0
  have B0 := ((Below.refl w.heap.size w).alloc (Nat.le_refl _) (.cells (recC r u) 27)).alloc (by simp) (.cells (labc n b) 25)
  have T0 := hT0.bel B0
  obtain ⟨V, hV⟩ : ∃ V, V = (w.alloc (.cells (recC r u) 27)).alloc (.cells (labc n b) 25) := ⟨_, rfl⟩
  rw [← hV] at A0 L0 B0 T0
  unfold covL
  obtain ⟨L, hL⟩ : ∃ L, L = r.items := ⟨_, rfl⟩
  rw [← hL] at hkey hl T0 ⊢
  obtain ⟨a, c, rfl⟩ := told_shape T0
  obtain ⟨m, hm⟩ : ∃ m, m = L.length := ⟨_, rfl⟩
  rw [← hm] at hl T0 hV A0 ⊢
  have HN := Lib.hid hm
  have HT := Lib.hid T0
  have HK := Lib.hid hkey
  have HA := Lib.hid A0
  have HL := Lib.hid L0
  have HB0 := Lib.hid B0
  have hBV := B0.size
  clear hT0 hW hkey hL hm T0 A0 L0 B0 hb
  generalize coversB n b = p at *
  go_enter Try.func68, Try.ntmps68
  go_upto_region 3 with (fail)
  first
    | rw [← hV]
    | (simp only [recC] at hV; rw [← hV])
    | (simp only [labc] at hV; rw [← hV])
  clear hV
  go_loopw [5, 6] (fun v i wr => ∃ q : Nat, q ≤ m ∧ i = .int .i64 (q : Int) ∧ Below V.heap.size V wr ∧ wr.ownsRow V.heap.size 53 2 v (those (L.take q) p).length (flat (those (L.take q) p))) (fun _ i _ => m - (intOf i).toNat)
  case atStart => exact ⟨0, by omega, rfl, Below.refl _ _, World.ownsRow_nil _ _ _ _⟩
  case round =>
    obtain ⟨q, hq, rfl, hB, hO⟩ := hrel
    have HB := Lib.hid hB
    have HO := Lib.hid hO
    have A1 := HA.out.below hB HA.out.lt
    have c1 : wr.cell? ⟨w.heap.size, 1, none⟩ = some (.slice a m c) := A1.cell 1
    clear hB hO
    by_cases hlt : q < m
    · obtain ⟨x, hx⟩ : ∃ x, L[q]? = some x := ⟨_, List.getElem?_eq_getElem (by have := HN.out; omega)⟩
      have hT : Told wr (.slice a m c) L := HT.out.bel HB.out
      obtain ⟨b1, o1, rfl, x1, _, _⟩ := told_at hT hx
      have hk := HK.out x (List.mem_of_getElem? hx)
      have hdt := those_take p hx
      have hdl : (those (L.take q) p).length ≤ q := Nat.le_trans (those_le _ _) (by rw [List.length_take]; omega)
      have HX := Lib.hid hx
      have HDT := Lib.hid hdt
      have HC := HF.out x.1 hk
      have LB := HL.out.below HB.out HL.out.lt
      clear hx hT hdt hk
      obtain ⟨mm, hmm⟩ : ∃ mm, mm = (those (L.take q) p).length := ⟨_, rfl⟩
      rw [← hmm] at hdl HO
      have HMm := Lib.hid hmm
      clear hmm
      cases hp : p x.1
      all_goals
        rw [hp] at HC
        go_upto_region 5 with (fail)
        have C1 := fun (d : Nat) (os : Array Obj) => cell_regrown c1 d os
        have CX := fun (d : Nat) (os : Array Obj) => cell_regrown x1 d os
        refine wp_region_quiet_below (by kernel_rfl) (by kernel_rfl) ?_
        repeat (first
          | go_big_quiet_skip
          | (go_big_quiet_want
             first
             | (first
                | refine q_loadL _ rfl (w.heap.size + 1) rfl n b LB ?_
                simp only [Act.put, List.setIfInBounds_toArray, List.set_cons_succ, List.set_cons_zero]
                go_big_quiet_on)
             | (go_big_quiet_op
                first | go_big_quiet_on | go_big_quiet_call (first | with_reducible exact HC.grown _ _))))
        refine wpQuiet_nil ?_
        intro w2 hw'
        obtain ⟨⟨dq, osq⟩, hw''⟩ := hw'
        have hb2 : Below wr.heap.size wr w2 := hw'' ▸ below_regrown _ dq osq
        clear hw'' x1 c1 C1 CX
        have HO2 := Lib.hid (own_bel HO.out hb2)
        have HB2 := Lib.hid (rstep HB.out hb2)
        have c1 : w2.cell? ⟨w.heap.size, 1, none⟩ = some (.slice (some ⟨b1, o1, none⟩) m c) := (A1.below hb2 A1.lt).cell 1
        clear hb2 LB HC
      · have HD : Hid (those (L.take (q + 1)) p = those (L.take q) p) := by have := HDT.out; rwa [if_neg (by simp [hp])] at this
        clear HDT hp
        go_wp2
        refine ⟨⟨q + 1, by omega, by go_num, HB2.out, ?_⟩, by simp [intOf]; omega⟩
        rw [HD.out, ← HMm.out]
        exact HO2.out
      · have HD : Hid (those (L.take (q + 1)) p = those (L.take q) p ++ [x]) := by have := HDT.out; rwa [if_pos hp] at this
        clear HDT hp
        obtain ⟨b2, o2, e2, y1, y2, _⟩ := told_at (HT.out.bel HB2.out) HX.out
        simp only [Option.some.injEq, Addr.mk.injEq, and_true] at e2
        obtain ⟨rfl, rfl⟩ := e2
        have hs2 := HB2.out.size
        go_wp2_with (first
          | (at_builtin; refine wpList_snocA rfl _ _ rfl V.heap.size _ (those (L.take q) p) mm rfl HO2.out HMm.out x.1 x.2 rfl (by omega) HB2.out hs2 ?_; intro v' w' h1 h2 h3; have H1 := Lib.hid h1; have H2 := Lib.hid h2; clear h1 h2 h3))
        refine ⟨⟨q + 1, by omega, by go_num, H2.out, ?_⟩, by simp [intOf]; omega⟩
        rw [HD.out, List.length_append, ← HMm.out]
        exact H1.out
    · obtain rfl : m = q := by omega
      have hall : L.take m = L := by rw [HN.out, List.take_length]
      rw [hall] at HO
      go_wp2
      go_ret
      exact ⟨_, rfl, told_own HO.out, rstep HB0.out HB.out⟩
end Go.Proofs.Ytkicndengkcojaa
