/- An item put into a record: With, where nothing is refused ahead. -/
import Derived.Test.YtkicndengkcojaaRecWith
namespace Go.Proofs.Ytkicndengkcojaa
set_option maxRecDepth 100000
open Go Go.RowKit Go.Sort

theorem recC_size_ne {w : World} {g j : Nat} {r : Rc} {u v : Value} {t t' : TypeId} (hg : Blk w g (recC r u) t) (hj : Blk w j #[v] t') : g ≠ j := by
  rintro rfl
  have h := hg.symm.trans hj
  simp only [Option.some.injEq, Obj.cells.injEq] at h
  have := congrArg Array.size h.1
  simp [recC] at this

set_option maxHeartbeats 2000000 in
theorem withc_full {kind : Int} {L : List It} {nl : Int} {nb mark : Nat} {a : Option Addr} {n c : Nat} {s : ByteArray} {k : Nat} {w : World} {g gv gk : Nat} (_hn : L.length = n) (hg : Blk w g (recC ⟨kind, L, nl, nb, mark⟩ (.slice a n c)) 27) (hv : Blk w gv #[.string s] 9) (hk : Blk w gk #[.int .u64 (k : Int)] 23) (hT : Told w (.slice a n c) L) (hW : (⟨kind, L, nl, nb, mark⟩ : Rc).Wf) (hl : L.length ≤ 1000000) (hr : isR ⟨kind, L, nl, nb, mark⟩ = true) (hk1 : kind = 1) (hs : s.size ≤ 64) (hf : 16 < (putL L k s).length) :
    Calls Try.prog 53 #[.pointer (some ⟨g, 0, none⟩), .pointer (some ⟨gv, 0, none⟩), .pointer (some ⟨gk, 0, none⟩)] w fun e w' => e = Pan 12 ∧ Keep w w' g g := by
  have hmf : ∀ (fn : Fn) (first cap : Array Value) (w : World), (Instr.makeFunc fn first cap).run Try.prog w = .ok (.func fn first cap) w := fun _ _ _ _ => rfl
  have hng := hg.lt
  have hne1 := recC_size_ne hg hv
  have hne2 := recC_size_ne hg hk
  go_enter Try.func53, Try.ntmps53
  go_upto_region 1 with (fail)
  rw [zero_rec]
  have Z0 := Blk.new w (recC zeroR (.slice none 0 0)) 27
  have B0 := (Below.refl w.heap.size w).alloc (Nat.le_refl _) (.cells (recC zeroR (.slice none 0 0)) 27)
  replace hg := hg.below B0 hg.lt
  replace hv := hv.below B0 hv.lt
  replace hk := hk.below B0 hk.lt
  replace hT := hT.bel B0
  generalize hWW : w.alloc _ = W at *
  have HI := Lib.hid (is_any hT hW hl)
  rw [hr] at HI
  subst hk1
  have hd : decide (64 < (s.size : Int)) = false := decide_eq_false (by omega)
  have HKEY : Hid (∀ x ∈ L, x.1 < 18446744073709551616) := hW.key
  have HCUT : Hid (loL L k ++ [(k, s)] ++ hiL L k = putL L k s) := by simp [Hid, putL]
  have hl1 : (loL L k).length ≤ L.length := List.length_filter_le ..
  have hl2 : (hiL L k).length ≤ L.length := List.length_filter_le ..
  have hl3 : L.length ≤ 16 := (isR_iff.1 hr).len
  clear hW hl hr hs
  go_upto_region 2 with (first
    | (refine p_loadR rfl _ rfl g rfl ⟨1, L, nl, nb, mark⟩ (.slice a n c) hg ?_)
    | (go_at_call 15; (with_reducible refine HI.out.mono ?_); rintro e w1 ⟨rfl, hb1⟩)
    | (go_at_call 34; (with_reducible refine (pass_1 _).mono ?_); rintro e w2 ⟨rfl, rfl⟩))
  have hg1 := hg.below hb1 hg.lt
  have hv1 := hv.below hb1 hv.lt
  have hk1 := hk.below hb1 hk.lt
  have c0 : w1.cell? ⟨g, 0, none⟩ = some (.int .i64 1) := hg1.cell 0
  have c1 : w1.cell? ⟨g, 1, none⟩ = some (.slice a n c) := hg1.cell 1
  have cv : w1.cell? ⟨gv, 0, none⟩ = some (.string s) := hv1.cell 0
  have ck : w1.cell? ⟨gk, 0, none⟩ = some (.int .u64 (k : Int)) := hk1.cell 0
  have Z1 := Z0.below hb1 Z0.lt
  have HB1 := Lib.hid (rstep B0 hb1)
  have hT1 := hT.bel hb1
  clear Z0 B0 hb1 hg hv hk hT
  have HLO : Hid (Calls Try.prog 54 #[.slice a n c, .func (.func 55) #[] #[.pointer (some ⟨gk, 0, none⟩)]] w1 fun e w' => ∃ v, e = .returned v ∧ Told w' v (loL L k) ∧ Below w1.heap.size w1 w') := by
    refine (thoseLo_any hT1 (by omega) HKEY.out (.pointer (some ⟨gk, 0, none⟩)) (fun j => decide (j < k)) (fun w3 j _ hb3 => keylo_any j k gk w3 (hk1.below hb3 hk1.lt))).mono ?_
    rintro e w' ⟨v, he, ho, hb⟩
    exact ⟨v, he, told_own ho, hb⟩
  go_upto_region 4 with (go_at_call 34; (first | (with_reducible refine (pass_13 _).mono ?_; rintro e w2 ⟨rfl, rfl⟩) | (with_reducible refine (pass_2 _).mono ?_; rintro e w2 ⟨rfl, rfl⟩)))
  go_upto_region 5 with (go_at_call 54; (with_reducible refine HLO.out.mono ?_); rintro e w2 ⟨v1, rfl, hT2, hb2⟩; obtain ⟨a1, q1, rfl⟩ := told_shape hT2)
  clear HLO c0 c1 cv ck
  have hg2 := hg1.below hb2 hg1.lt
  have hv2 := hv1.below hb2 hv1.lt
  have hk2 := hk1.below hb2 hk1.lt
  have Z2 := Z1.below hb2 Z1.lt
  have HB2 := Lib.hid (rstep HB1.out hb2)
  have hT1b := hT1.bel hb2
  clear hg1 hv1 hk1 Z1 HB1 hT1 hb2
  have HHI : Hid (Calls Try.prog 54 #[.slice a n c, .func (.func 56) #[] #[.pointer (some ⟨gk, 0, none⟩)]] w2 fun e w' => ∃ v, e = .returned v ∧ Told w' v (hiL L k) ∧ Below w2.heap.size w2 w') := by
    refine (thoseHi_any hT1b (by omega) HKEY.out (.pointer (some ⟨gk, 0, none⟩)) (fun j => decide (k < j)) (fun w3 j _ hb3 => keyhi_any j k gk w3 (hk2.below hb3 hk2.lt))).mono ?_
    rintro e w' ⟨v, he, ho, hb⟩
    exact ⟨v, he, told_own ho, hb⟩
  have c1 : w2.cell? ⟨g, 1, none⟩ = some (.slice a n c) := hg2.cell 1
  go_upto_region 6 with (go_at_call 54; (with_reducible refine HHI.out.mono ?_); rintro e w3 ⟨v2, rfl, hT3, hb3⟩; obtain ⟨a2, q2, rfl⟩ := told_shape hT3)
  clear HHI c1
  have hg3 := hg2.below hb3 hg2.lt
  have hv3 := hv2.below hb3 hv2.lt
  have hk3 := hk2.below hb3 hk2.lt
  have Z3 := Z2.below hb3 Z2.lt
  have HB3 := Lib.hid (rstep HB2.out hb3)
  have hT2b := hT2.bel hb3
  clear hg2 hv2 hk2 Z2 HB2 hT1b hT2 hb3
  have cv : w3.cell? ⟨gv, 0, none⟩ = some (.string s) := hv3.cell 0
  have ck : w3.cell? ⟨gk, 0, none⟩ = some (.int .u64 (k : Int)) := hk3.cell 0
  have b4 : Below w3.heap.size w3 (w3.alloc (.cells #[.int .u64 (k : Int), .string s] 53)) := (Below.refl _ _).alloc (Nat.le_refl _) _
  have b5 : Below w3.heap.size w3 ((w3.alloc (.cells #[.int .u64 (k : Int), .string s] 53)).alloc (.cells #[.slice a1 (loL L k).length q1, .slice (some ⟨w3.heap.size, 0, none⟩) 1 1, .slice a2 (hiL L k).length q2] 22)) := b4.alloc (by simp) _
  have hx : Blk ((w3.alloc (.cells #[.int .u64 (k : Int), .string s] 53)).alloc (.cells #[.slice a1 (loL L k).length q1, .slice (some ⟨w3.heap.size, 0, none⟩) 1 1, .slice a2 (hiL L k).length q2] 22)) w3.heap.size #[.int .u64 (k : Int), .string s] 53 := (Blk.new w3 _ _).alloc _
  have hy : Blk ((w3.alloc (.cells #[.int .u64 (k : Int), .string s] 53)).alloc (.cells #[.slice a1 (loL L k).length q1, .slice (some ⟨w3.heap.size, 0, none⟩) 1 1, .slice a2 (hiL L k).length q2] 22)) (w3.heap.size + 1) #[.slice a1 (loL L k).length q1, .slice (some ⟨w3.heap.size, 0, none⟩) 1 1, .slice a2 (hiL L k).length q2] 22 := by
    have h := Blk.new (w3.alloc (.cells #[.int .u64 (k : Int), .string s] 53)) #[.slice a1 (loL L k).length q1, .slice (some ⟨w3.heap.size, 0, none⟩) 1 1, .slice a2 (hiL L k).length q2] 22
    rwa [World.size_alloc] at h
  have hone : Told ((w3.alloc (.cells #[.int .u64 (k : Int), .string s] 53)).alloc (.cells #[.slice a1 (loL L k).length q1, .slice (some ⟨w3.heap.size, 0, none⟩) 1 1, .slice a2 (hiL L k).length q2] 22)) (.slice (some ⟨w3.heap.size, 0, none⟩) 1 1) [(k, s)] := ⟨rfl, .inr ⟨w3.heap.size, 0, 1, rfl, fun j v hj => by rw [Nat.zero_add, hx.cell]; simpa [flat] using hj⟩⟩
  have HC := Lib.hid (concat3 hy (hT2b.bel b5) hone (hT3.bel b5) (by simp only [List.length_singleton]; omega))
  rw [HCUT.out] at HC
  have HX5 := Lib.hid (And.intro (hg3.below b5 hg3.lt) (And.intro (Z3.below b5 Z3.lt) (rstep HB3.out b5)))
  clear hx hy hone b4 b5 hT2b hT3 hv3 hk3 hl1 hl2
  go_upto_region 7 with (go_at_call 57; (with_reducible refine HC.out.mono ?_); rintro e w4 ⟨v3, rfl, hT4, hb4⟩; obtain ⟨a3, q3, rfl⟩ := told_shape hT4; have c1 : w4.cell? ⟨g, 1, none⟩ = some (.slice a n c) := (HX5.out.1.below hb4 HX5.out.1.lt).cell 1; have f1 : w4.frozen? ⟨g, 1, none⟩ = false := (HX5.out.1.below hb4 HX5.out.1.lt).free 1)
  clear c1 f1 cv ck HC
  have hg4 := HX5.out.1.below hb4 HX5.out.1.lt
  have Z4 := HX5.out.2.1.below hb4 HX5.out.2.1.lt
  have HB4 := Lib.hid (rstep HX5.out.2.2 hb4)
  clear HX5 HB3 hg3 Z3 hb4
  have hg5 : Blk (w4.setCell ⟨g, 1, none⟩ (.slice a3 (putL L k s).length q3)) g (recC ⟨1, putL L k s, nl, nb, mark⟩ (.slice a3 (putL L k s).length q3)) 27 := hg4.put 1 _
  have Z5 := Z4.other g 1 (.slice a3 (putL L k s).length q3) (by omega)
  have HT5 := Lib.hid (told_setCell hT4 hg4 (noIt_rec _ _) 1 (.slice a3 (putL L k s).length q3))
  have HK5 := Lib.hid ((Keep.of HB4.out g g).setCell 1 (.slice a3 (putL L k s).length q3))
  clear hg4 Z4 HB4 hT4
  generalize w4.setCell _ _ = W5 at *
  have c1 : W5.cell? ⟨g, 1, none⟩ = some (.slice a3 (putL L k s).length q3) := hg5.cell 1
  have hd2 : decide (16 < ((putL L k s).length : Int)) = true := decide_eq_true (by omega)
  clear hf
  go_wp2_with (go_at_call 34; (with_reducible refine (refuse_12 _).mono ?_); rintro e w2 ⟨he, rfl⟩; rw [pan_eq] at he; subst he)
  exact ⟨rfl, rfl, HK5.out⟩

set_option maxHeartbeats 2000000 in
theorem withc_ok {kind : Int} {L : List It} {nl : Int} {nb mark : Nat} {a : Option Addr} {n c : Nat} {s : ByteArray} {k : Nat} {w : World} {g gv gk : Nat} (_hn : L.length = n) (hg : Blk w g (recC ⟨kind, L, nl, nb, mark⟩ (.slice a n c)) 27) (hv : Blk w gv #[.string s] 9) (hk : Blk w gk #[.int .u64 (k : Int)] 23) (hT : Told w (.slice a n c) L) (hW : (⟨kind, L, nl, nb, mark⟩ : Rc).Wf) (hl : L.length ≤ 1000000) (hr : isR ⟨kind, L, nl, nb, mark⟩ = true) (hk1 : kind = 1) (hs : s.size ≤ 64) (hf : (putL L k s).length ≤ 16) :
    Calls Try.prog 53 #[.pointer (some ⟨g, 0, none⟩), .pointer (some ⟨gv, 0, none⟩), .pointer (some ⟨gk, 0, none⟩)] w fun e w' => ∃ u, e = .returned (.agg (recC ⟨1, putL L k s, nl, nb, mark⟩ u)) ∧ Told w' u (putL L k s) ∧ Keep w w' g g := by
  have hmf : ∀ (fn : Fn) (first cap : Array Value) (w : World), (Instr.makeFunc fn first cap).run Try.prog w = .ok (.func fn first cap) w := fun _ _ _ _ => rfl
  have hng := hg.lt
  have hne1 := recC_size_ne hg hv
  have hne2 := recC_size_ne hg hk
  go_enter Try.func53, Try.ntmps53
  go_upto_region 1 with (fail)
  rw [zero_rec]
  have Z0 := Blk.new w (recC zeroR (.slice none 0 0)) 27
  have B0 := (Below.refl w.heap.size w).alloc (Nat.le_refl _) (.cells (recC zeroR (.slice none 0 0)) 27)
  replace hg := hg.below B0 hg.lt
  replace hv := hv.below B0 hv.lt
  replace hk := hk.below B0 hk.lt
  replace hT := hT.bel B0
  generalize hWW : w.alloc _ = W at *
  have HI := Lib.hid (is_any hT hW hl)
  rw [hr] at HI
  subst hk1
  have hd : decide (64 < (s.size : Int)) = false := decide_eq_false (by omega)
  have HKEY : Hid (∀ x ∈ L, x.1 < 18446744073709551616) := hW.key
  have HCUT : Hid (loL L k ++ [(k, s)] ++ hiL L k = putL L k s) := by simp [Hid, putL]
  have hl1 : (loL L k).length ≤ L.length := List.length_filter_le ..
  have hl2 : (hiL L k).length ≤ L.length := List.length_filter_le ..
  have hl3 : L.length ≤ 16 := (isR_iff.1 hr).len
  clear hW hl hr hs
  go_upto_region 2 with (first
    | (refine p_loadR rfl _ rfl g rfl ⟨1, L, nl, nb, mark⟩ (.slice a n c) hg ?_)
    | (go_at_call 15; (with_reducible refine HI.out.mono ?_); rintro e w1 ⟨rfl, hb1⟩)
    | (go_at_call 34; (with_reducible refine (pass_1 _).mono ?_); rintro e w2 ⟨rfl, rfl⟩))
  have hg1 := hg.below hb1 hg.lt
  have hv1 := hv.below hb1 hv.lt
  have hk1 := hk.below hb1 hk.lt
  have c0 : w1.cell? ⟨g, 0, none⟩ = some (.int .i64 1) := hg1.cell 0
  have c1 : w1.cell? ⟨g, 1, none⟩ = some (.slice a n c) := hg1.cell 1
  have cv : w1.cell? ⟨gv, 0, none⟩ = some (.string s) := hv1.cell 0
  have ck : w1.cell? ⟨gk, 0, none⟩ = some (.int .u64 (k : Int)) := hk1.cell 0
  have Z1 := Z0.below hb1 Z0.lt
  have HB1 := Lib.hid (rstep B0 hb1)
  have hT1 := hT.bel hb1
  clear Z0 B0 hb1 hg hv hk hT
  have HLO : Hid (Calls Try.prog 54 #[.slice a n c, .func (.func 55) #[] #[.pointer (some ⟨gk, 0, none⟩)]] w1 fun e w' => ∃ v, e = .returned v ∧ Told w' v (loL L k) ∧ Below w1.heap.size w1 w') := by
    refine (thoseLo_any hT1 (by omega) HKEY.out (.pointer (some ⟨gk, 0, none⟩)) (fun j => decide (j < k)) (fun w3 j _ hb3 => keylo_any j k gk w3 (hk1.below hb3 hk1.lt))).mono ?_
    rintro e w' ⟨v, he, ho, hb⟩
    exact ⟨v, he, told_own ho, hb⟩
  go_upto_region 4 with (go_at_call 34; (first | (with_reducible refine (pass_13 _).mono ?_; rintro e w2 ⟨rfl, rfl⟩) | (with_reducible refine (pass_2 _).mono ?_; rintro e w2 ⟨rfl, rfl⟩)))
  go_upto_region 5 with (go_at_call 54; (with_reducible refine HLO.out.mono ?_); rintro e w2 ⟨v1, rfl, hT2, hb2⟩; obtain ⟨a1, q1, rfl⟩ := told_shape hT2)
  clear HLO c0 c1 cv ck
  have hg2 := hg1.below hb2 hg1.lt
  have hv2 := hv1.below hb2 hv1.lt
  have hk2 := hk1.below hb2 hk1.lt
  have Z2 := Z1.below hb2 Z1.lt
  have HB2 := Lib.hid (rstep HB1.out hb2)
  have hT1b := hT1.bel hb2
  clear hg1 hv1 hk1 Z1 HB1 hT1 hb2
  have HHI : Hid (Calls Try.prog 54 #[.slice a n c, .func (.func 56) #[] #[.pointer (some ⟨gk, 0, none⟩)]] w2 fun e w' => ∃ v, e = .returned v ∧ Told w' v (hiL L k) ∧ Below w2.heap.size w2 w') := by
    refine (thoseHi_any hT1b (by omega) HKEY.out (.pointer (some ⟨gk, 0, none⟩)) (fun j => decide (k < j)) (fun w3 j _ hb3 => keyhi_any j k gk w3 (hk2.below hb3 hk2.lt))).mono ?_
    rintro e w' ⟨v, he, ho, hb⟩
    exact ⟨v, he, told_own ho, hb⟩
  have c1 : w2.cell? ⟨g, 1, none⟩ = some (.slice a n c) := hg2.cell 1
  go_upto_region 6 with (go_at_call 54; (with_reducible refine HHI.out.mono ?_); rintro e w3 ⟨v2, rfl, hT3, hb3⟩; obtain ⟨a2, q2, rfl⟩ := told_shape hT3)
  clear HHI c1
  have hg3 := hg2.below hb3 hg2.lt
  have hv3 := hv2.below hb3 hv2.lt
  have hk3 := hk2.below hb3 hk2.lt
  have Z3 := Z2.below hb3 Z2.lt
  have HB3 := Lib.hid (rstep HB2.out hb3)
  have hT2b := hT2.bel hb3
  clear hg2 hv2 hk2 Z2 HB2 hT1b hT2 hb3
  have cv : w3.cell? ⟨gv, 0, none⟩ = some (.string s) := hv3.cell 0
  have ck : w3.cell? ⟨gk, 0, none⟩ = some (.int .u64 (k : Int)) := hk3.cell 0
  have b4 : Below w3.heap.size w3 (w3.alloc (.cells #[.int .u64 (k : Int), .string s] 53)) := (Below.refl _ _).alloc (Nat.le_refl _) _
  have b5 : Below w3.heap.size w3 ((w3.alloc (.cells #[.int .u64 (k : Int), .string s] 53)).alloc (.cells #[.slice a1 (loL L k).length q1, .slice (some ⟨w3.heap.size, 0, none⟩) 1 1, .slice a2 (hiL L k).length q2] 22)) := b4.alloc (by simp) _
  have hx : Blk ((w3.alloc (.cells #[.int .u64 (k : Int), .string s] 53)).alloc (.cells #[.slice a1 (loL L k).length q1, .slice (some ⟨w3.heap.size, 0, none⟩) 1 1, .slice a2 (hiL L k).length q2] 22)) w3.heap.size #[.int .u64 (k : Int), .string s] 53 := (Blk.new w3 _ _).alloc _
  have hy : Blk ((w3.alloc (.cells #[.int .u64 (k : Int), .string s] 53)).alloc (.cells #[.slice a1 (loL L k).length q1, .slice (some ⟨w3.heap.size, 0, none⟩) 1 1, .slice a2 (hiL L k).length q2] 22)) (w3.heap.size + 1) #[.slice a1 (loL L k).length q1, .slice (some ⟨w3.heap.size, 0, none⟩) 1 1, .slice a2 (hiL L k).length q2] 22 := by
    have h := Blk.new (w3.alloc (.cells #[.int .u64 (k : Int), .string s] 53)) #[.slice a1 (loL L k).length q1, .slice (some ⟨w3.heap.size, 0, none⟩) 1 1, .slice a2 (hiL L k).length q2] 22
    rwa [World.size_alloc] at h
  have hone : Told ((w3.alloc (.cells #[.int .u64 (k : Int), .string s] 53)).alloc (.cells #[.slice a1 (loL L k).length q1, .slice (some ⟨w3.heap.size, 0, none⟩) 1 1, .slice a2 (hiL L k).length q2] 22)) (.slice (some ⟨w3.heap.size, 0, none⟩) 1 1) [(k, s)] := ⟨rfl, .inr ⟨w3.heap.size, 0, 1, rfl, fun j v hj => by rw [Nat.zero_add, hx.cell]; simpa [flat] using hj⟩⟩
  have HC := Lib.hid (concat3 hy (hT2b.bel b5) hone (hT3.bel b5) (by simp only [List.length_singleton]; omega))
  rw [HCUT.out] at HC
  have HX5 := Lib.hid (And.intro (hg3.below b5 hg3.lt) (And.intro (Z3.below b5 Z3.lt) (rstep HB3.out b5)))
  clear hx hy hone b4 b5 hT2b hT3 hv3 hk3 hl1 hl2
  go_upto_region 7 with (go_at_call 57; (with_reducible refine HC.out.mono ?_); rintro e w4 ⟨v3, rfl, hT4, hb4⟩; obtain ⟨a3, q3, rfl⟩ := told_shape hT4; have c1 : w4.cell? ⟨g, 1, none⟩ = some (.slice a n c) := (HX5.out.1.below hb4 HX5.out.1.lt).cell 1; have f1 : w4.frozen? ⟨g, 1, none⟩ = false := (HX5.out.1.below hb4 HX5.out.1.lt).free 1)
  clear c1 f1 cv ck HC
  have hg4 := HX5.out.1.below hb4 HX5.out.1.lt
  have Z4 := HX5.out.2.1.below hb4 HX5.out.2.1.lt
  have HB4 := Lib.hid (rstep HX5.out.2.2 hb4)
  clear HX5 HB3 hg3 Z3 hb4
  have hg5 : Blk (w4.setCell ⟨g, 1, none⟩ (.slice a3 (putL L k s).length q3)) g (recC ⟨1, putL L k s, nl, nb, mark⟩ (.slice a3 (putL L k s).length q3)) 27 := hg4.put 1 _
  have Z5 := Z4.other g 1 (.slice a3 (putL L k s).length q3) (by omega)
  have HT5 := Lib.hid (told_setCell hT4 hg4 (noIt_rec _ _) 1 (.slice a3 (putL L k s).length q3))
  have HK5 := Lib.hid ((Keep.of HB4.out g g).setCell 1 (.slice a3 (putL L k s).length q3))
  clear hg4 Z4 HB4 hT4
  generalize w4.setCell _ _ = W5 at *
  have c1 : W5.cell? ⟨g, 1, none⟩ = some (.slice a3 (putL L k s).length q3) := hg5.cell 1
  have hd2 : decide (16 < ((putL L k s).length : Int)) = false := decide_eq_false (by omega)
  clear hf
  go_wp2_with (first
    | (go_at_call 34; (with_reducible refine (pass_12 _).mono ?_); rintro e w2 ⟨rfl, rfl⟩)
    | (refine p_loadR rfl _ rfl g rfl ⟨1, putL L k s, nl, nb, mark⟩ (.slice a3 (putL L k s).length q3) hg5 ?_)
    | (refine p_storeR rfl _ _ rfl w.heap.size rfl ⟨1, putL L k s, nl, nb, mark⟩ (.slice a3 (putL L k s).length q3) rfl rfl zeroR (.slice none 0 0) Z5 ?_))
  exact bodyPost_ret (results_rec1 Try.results53 _ _ w.heap.size _ _ rfl (Z5.setRow _)) rfl ⟨_, rfl, told_setRow HT5.out Z5 (noIt_rec _ _) _, HK5.out.new (keepR W5 g w.heap.size _) (Nat.le_refl _)⟩
end Go.Proofs.Ytkicndengkcojaa
