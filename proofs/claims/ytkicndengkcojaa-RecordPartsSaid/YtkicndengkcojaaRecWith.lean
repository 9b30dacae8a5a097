/- An item put into a record: With. -/
import Derived.Test.YtkicndengkcojaaRecGuard
import Derived.Test.YtkicndengkcojaaRecIs3
import Derived.Test.YtkicndengkcojaaRecConcat
import Derived.Test.YtkicndengkcojaaRecPut
namespace Go.Proofs.Ytkicndengkcojaa
set_option maxRecDepth 100000
open Go Go.RowKit Go.Sort

theorem keepR (w : World) (q b : Nat) (cs : Array Value) : Keep w (w.setRow b cs) q b := (Keep.refl w q b).setRow cs
theorem keepC (w : World) (q b i : Nat) (v : Value) : Keep w (w.setCell ⟨b, i, none⟩ v) q b :=
  ⟨rfl, rfl, rfl, by simp [World.setCell], fun j _ _ h2 => Below.heap_setCell _ _ _ _ (by simpa using h2)⟩
theorem guardK_ok (cap : Array Value) (r : Rc) (w : World) (q : Nat) (hq : q < w.heap.size) (HF : Hid (∀ w1, Below w.heap.size w w1 → Calls Try.prog 53 cap w1 fun e w' => ∃ u, e = .returned (.agg (recC r u)) ∧ Told w' u r.items ∧ Keep w1 w' q q)) :
    Calls Try.prog 43 #[.func (.func 53) #[] cap] w fun e w' => ∃ u, e = .returned (.tuple #[.agg (recC r u), .int .i64 0]) ∧ Told w' u r.items ∧ Keep w w' q q := by
  have hmf : ∀ (fn : Fn) (first cap : Array Value) (w : World), (Instr.makeFunc fn first cap).run Try.prog w = .ok (.func fn first cap) w := fun _ _ _ _ => rfl
  go_enter_defers Try.func43, Try.ntmps43
  go_upto_region 1 with (fail)
  rw [zero_rec]
  have Z0 := (Blk.new w (recC zeroR (.slice none 0 0)) 27).alloc (.cells #[.int .i64 0] 29)
  have A0 := Blk.new (w.alloc (.cells (recC zeroR (.slice none 0 0)) 27)) #[.int .i64 0] 29
  have B0 := ((Below.refl w.heap.size w).alloc (Nat.le_refl _) (.cells (recC zeroR (.slice none 0 0)) 27)).alloc (by simp) (.cells #[.int .i64 0] 29)
  simp only [World.size_alloc] at A0
  generalize (w.alloc _).alloc _ = W at *
  go_wp2_with (first
    | (go_at_call 53; (with_reducible refine (HF.out _ B0).mono ?_); rintro e w1 ⟨u, rfl, ht, hb1⟩; have A1 := A0.keep hb1 (by omega) (by omega); have Z1 := Z0.keep hb1 (by omega) (by omega); have c0 : (w1.setRow w.heap.size (recC r u)).cell? ⟨w.heap.size + 1, 0, none⟩ = some (.int .i64 0) := (A1.setRow_other w.heap.size (recC r u) (by omega)).cell 0; have f0 : (w1.setRow w.heap.size (recC r u)).frozen? ⟨w.heap.size + 1, 0, none⟩ = false := (A1.setRow_other w.heap.size (recC r u) (by omega)).free 0)
    | (refine p_storeR rfl _ _ rfl _ rfl r u rfl (told_one ht) zeroR (.slice none 0 0) Z1 ?_))
  have A2 := (A1.setRow_other w.heap.size (recC r u) (by omega)).put 0 (.int .i64 0)
  have Z2 := (Z1.setRow (recC r u)).other (w.heap.size + 1) 0 (.int .i64 0) (by omega)
  have B1 := (Keep.of B0 q q).trans hb1
  have T2 := told_setCell (told_setRow ht Z1 (noIt_rec _ _) (recC r u)) (A1.setRow_other w.heap.size (recC r u) (by omega)) (noIt_int _) 0 (.int .i64 0)
  have B2 := (B1.new (keepR w1 q w.heap.size (recC r u)) (Nat.le_refl _)).new (keepC (w1.setRow w.heap.size (recC r u)) q (w.heap.size + 1) 0 (.int .i64 0)) (by omega)
  generalize (w1.setRow _ _).setCell _ _ = W2 at *
  have c2 : W2.cell? ⟨w.heap.size + 1, 0, none⟩ = some (.int .i64 0) := A2.cell 0
  refine leaves_cons (f := 83) (args := #[.pointer (some ⟨w.heap.size + 1, 0, none⟩)]) (by simp) (by simp [go_sem]) ?_
  refine (catchR_idle ⟨w.heap.size + 1, 0, none⟩ _).mono ?_
  rintro e u' w'' ⟨rfl, rfl, rfl⟩
  exact ⟨_, results_recc Try.results43 _ _ w.heap.size (w.heap.size + 1) _ _ _ rfl rfl Z2 c2, u, rfl, T2, B2⟩

theorem guardK_no (cap : Array Value) (n : Nat) (w : World) (q : Nat) (hq : q < w.heap.size) (HF : Hid (∀ w1, Below w.heap.size w w1 → Calls Try.prog 53 cap w1 fun e w' => e = Pan n ∧ Keep w1 w' q q)) :
    Calls Try.prog 43 #[.func (.func 53) #[] cap] w fun e w' => e = .returned (.tuple #[.agg (recC zeroR (.slice none 0 0)), .int .i64 (n : Int)]) ∧ Keep w w' q q := by
  have hmf : ∀ (fn : Fn) (first cap : Array Value) (w : World), (Instr.makeFunc fn first cap).run Try.prog w = .ok (.func fn first cap) w := fun _ _ _ _ => rfl
  go_enter_defers Try.func43, Try.ntmps43
  go_upto_region 1 with (fail)
  rw [zero_rec]
  have Z0 := (Blk.new w (recC zeroR (.slice none 0 0)) 27).alloc (.cells #[.int .i64 0] 29)
  have A0 := Blk.new (w.alloc (.cells (recC zeroR (.slice none 0 0)) 27)) #[.int .i64 0] 29
  have B0 := ((Below.refl w.heap.size w).alloc (Nat.le_refl _) (.cells (recC zeroR (.slice none 0 0)) 27)).alloc (by simp) (.cells #[.int .i64 0] 29)
  simp only [World.size_alloc] at A0
  generalize (w.alloc _).alloc _ = W at *
  go_wp2_with (go_at_call 53; (with_reducible refine (HF.out _ B0).mono ?_); rintro e w1 ⟨he, hb1⟩; rw [pan_eq] at he; subst he)
  rename_i w1
  have A1 := A0.keep hb1 (by omega) (by omega)
  have Z1 := Z0.keep hb1 (by omega) (by omega)
  have A2 := A1.put 0 (.int .i64 (n : Int))
  have Z2 := Z1.other (w.heap.size + 1) 0 (.int .i64 (n : Int)) (by omega)
  have B2 := ((Keep.of B0 q q).trans hb1).new (keepC w1 q (w.heap.size + 1) 0 (.int .i64 (n : Int))) (by omega)
  have c2 : (w1.setCell ⟨w.heap.size + 1, 0, none⟩ (.int .i64 (n : Int))).cell? ⟨w.heap.size + 1, 0, none⟩ = some (.int .i64 (n : Int)) := A2.cell 0
  refine leaves_cons (f := 83) (args := #[.pointer (some ⟨w.heap.size + 1, 0, none⟩)]) (by simp) (by simp [go_sem]) ?_
  refine (catchR_thrown ⟨w.heap.size + 1, 0, none⟩ n _ _ (A1.cell 0) (A1.free 0)).mono ?_
  rintro e u' w'' ⟨rfl, rfl, rfl⟩
  exact ⟨_, results_recc Try.results43 _ _ w.heap.size (w.heap.size + 1) _ _ _ rfl rfl Z2 c2, rfl, B2⟩

theorem concat3 {w : World} {h : Nat} {v1 v2 v3 : Value} {L1 L2 L3 : List It} (hB : Blk w h #[v1, v2, v3] 22) (h1 : Told w v1 L1) (h2 : Told w v2 L2) (h3 : Told w v3 L3) (hl : L1.length + L2.length + L3.length ≤ 100000) :
    Calls Try.prog 57 #[.slice (some ⟨h, 0, none⟩) 3 3] w fun e w' => ∃ v, e = .returned v ∧ Told w' v (L1 ++ L2 ++ L3) ∧ Below w.heap.size w w' := by
  have hc : cat [(v1, L1), (v2, L2), (v3, L3)] = L1 ++ L2 ++ L3 := by simp [cat]
  have H := concat_any (S := [(v1, L1), (v2, L2), (v3, L3)]) hB (by
    intro i x hx
    match i, hx with
    | 0, hx => cases hx; exact h1
    | 1, hx => cases hx; exact h2
    | 2, hx => cases hx; exact h3
    | i + 3, hx => simp at hx) (by rw [hc]; simp; omega) (by simp)
  refine H.mono ?_
  rintro e w' ⟨v, he, ho, hb⟩
  rw [hc] at ho
  exact ⟨v, he, told_own ho, hb⟩
theorem concat2 {w : World} {h : Nat} {v1 v2 : Value} {L1 L2 : List It} (hB : Blk w h #[v1, v2] 22) (h1 : Told w v1 L1) (h2 : Told w v2 L2) (hl : L1.length + L2.length ≤ 100000) :
    Calls Try.prog 57 #[.slice (some ⟨h, 0, none⟩) 2 2] w fun e w' => ∃ v, e = .returned v ∧ Told w' v (L1 ++ L2) ∧ Below w.heap.size w w' := by
  have hc : cat [(v1, L1), (v2, L2)] = L1 ++ L2 := by simp [cat]
  have H := concat_any (S := [(v1, L1), (v2, L2)]) hB (by
    intro i x hx
    match i, hx with
    | 0, hx => cases hx; exact h1
    | 1, hx => cases hx; exact h2
    | i + 2, hx => simp at hx) (by rw [hc]; simp; omega) (by simp)
  refine H.mono ?_
  rintro e w' ⟨v, he, ho, hb⟩
  rw [hc] at ho
  exact ⟨v, he, told_own ho, hb⟩
theorem keylo_any (j k gk : Nat) (w : World) (hk : Blk w gk #[.int .u64 (k : Int)] 23) : Calls Try.prog 55 #[.int .u64 (j : Int), .pointer (some ⟨gk, 0, none⟩)] w fun e w' => e = .returned (.bool (decide (j < k))) ∧ Below w.heap.size w w' := by
  have c0 : w.cell? ⟨gk, 0, none⟩ = some (.int .u64 (k : Int)) := hk.cell 0
  go_enter Try.func55, Try.ntmps55
  go_wp2
  go_ret
  exact ⟨ret_bool (by simp), Below.refl _ _⟩
theorem keyhi_any (j k gk : Nat) (w : World) (hk : Blk w gk #[.int .u64 (k : Int)] 23) : Calls Try.prog 56 #[.int .u64 (j : Int), .pointer (some ⟨gk, 0, none⟩)] w fun e w' => e = .returned (.bool (decide (k < j))) ∧ Below w.heap.size w w' := by
  have c0 : w.cell? ⟨gk, 0, none⟩ = some (.int .u64 (k : Int)) := hk.cell 0
  go_enter Try.func56, Try.ntmps56
  go_wp2
  go_ret
  exact ⟨ret_bool (by simp), Below.refl _ _⟩
theorem keynot_any (j k gk : Nat) (w : World) (hk : Blk w gk #[.int .u64 (k : Int)] 23) : Calls Try.prog 61 #[.int .u64 (j : Int), .pointer (some ⟨gk, 0, none⟩)] w fun e w' => e = .returned (.bool (decide (j ≠ k))) ∧ Below w.heap.size w w' := by
  have c0 : w.cell? ⟨gk, 0, none⟩ = some (.int .u64 (k : Int)) := hk.cell 0
  go_enter Try.func61, Try.ntmps61
  go_wp2
  go_ret
  exact ⟨ret_bool (by rw [Bool.eq_iff_iff]; simp; omega), Below.refl _ _⟩

theorem withc_arg {kind : Int} {L : List It} {nl : Int} {nb mark : Nat} {a : Option Addr} {n c : Nat} {s : ByteArray} {k : Nat} {w : World} {g gv gk : Nat} (_hn : L.length = n) (hg : Blk w g (recC ⟨kind, L, nl, nb, mark⟩ (.slice a n c)) 27) (hv : Blk w gv #[.string s] 9) (hk : Blk w gk #[.int .u64 (k : Int)] 23) (hT : Told w (.slice a n c) L) (hW : (⟨kind, L, nl, nb, mark⟩ : Rc).Wf) (hl : L.length ≤ 1000000) (hr : isR ⟨kind, L, nl, nb, mark⟩ = false) :
    Calls Try.prog 53 #[.pointer (some ⟨g, 0, none⟩), .pointer (some ⟨gv, 0, none⟩), .pointer (some ⟨gk, 0, none⟩)] w fun e w' => e = Pan 1 ∧ Below w.heap.size w w' := by
  go_enter Try.func53, Try.ntmps53
  go_upto_region 1 with (fail)
  rw [zero_rec]
  have Z0 := Blk.new w (recC zeroR (.slice none 0 0)) 27
  have B0 := (Below.refl w.heap.size w).alloc (Nat.le_refl _) (.cells (recC zeroR (.slice none 0 0)) 27)
  replace hg := hg.below B0 hg.lt
  replace hv := hv.below B0 hv.lt
  replace hk := hk.below B0 hk.lt
  replace hT := hT.bel B0
  generalize hWW : w.alloc _ = W at *
  have HI := Lib.hid (is_any hT hW hl)
  rw [hr] at HI
  clear hT hW hl hr
  go_wp2_with (first
    | (refine p_loadR rfl _ rfl g rfl ⟨kind, L, nl, nb, mark⟩ (.slice a n c) hg ?_)
    | (go_at_call 15; (with_reducible refine HI.out.mono ?_); rintro e w1 ⟨rfl, hb1⟩)
    | (go_at_call 34; (with_reducible refine (refuse_1 _).mono ?_); rintro e w2 ⟨he, rfl⟩; rw [pan_eq] at he; subst he))
  exact ⟨rfl, rfl, rstep B0 (by assumption)⟩

theorem withc_kind {kind : Int} {L : List It} {nl : Int} {nb mark : Nat} {a : Option Addr} {n c : Nat} {s : ByteArray} {k : Nat} {w : World} {g gv gk : Nat} (_hn : L.length = n) (hg : Blk w g (recC ⟨kind, L, nl, nb, mark⟩ (.slice a n c)) 27) (hv : Blk w gv #[.string s] 9) (hk : Blk w gk #[.int .u64 (k : Int)] 23) (hT : Told w (.slice a n c) L) (hW : (⟨kind, L, nl, nb, mark⟩ : Rc).Wf) (hl : L.length ≤ 1000000) (hr : isR ⟨kind, L, nl, nb, mark⟩ = true) (hk1 : kind ≠ 1) :
    Calls Try.prog 53 #[.pointer (some ⟨g, 0, none⟩), .pointer (some ⟨gv, 0, none⟩), .pointer (some ⟨gk, 0, none⟩)] w fun e w' => e = Pan 13 ∧ Below w.heap.size w w' := by
  go_enter Try.func53, Try.ntmps53
  go_upto_region 1 with (fail)
  rw [zero_rec]
  have Z0 := Blk.new w (recC zeroR (.slice none 0 0)) 27
  have B0 := (Below.refl w.heap.size w).alloc (Nat.le_refl _) (.cells (recC zeroR (.slice none 0 0)) 27)
  replace hg := hg.below B0 hg.lt
  replace hv := hv.below B0 hv.lt
  replace hk := hk.below B0 hk.lt
  replace hT := hT.bel B0
  generalize hWW : w.alloc _ = W at *
  have HI := Lib.hid (is_any hT hW hl)
  rw [hr] at HI
  have hd : (kind != 1) = true := by simpa using hk1
  clear hT hW hl hr hk1
  go_upto_region 2 with (first
    | (refine p_loadR rfl _ rfl g rfl ⟨kind, L, nl, nb, mark⟩ (.slice a n c) hg ?_)
    | (go_at_call 15; (with_reducible refine HI.out.mono ?_); rintro e w1 ⟨rfl, hb1⟩)
    | (go_at_call 34; (with_reducible refine (pass_1 _).mono ?_); rintro e w2 ⟨rfl, rfl⟩))
  have hg1 := hg.below hb1 hg.lt
  have hv1 := hv.below hb1 hv.lt
  have hk1 := hk.below hb1 hk.lt
  have c0 : w1.cell? ⟨g, 0, none⟩ = some (.int .i64 kind) := hg1.cell 0
  have c1 : w1.cell? ⟨g, 1, none⟩ = some (.slice a n c) := hg1.cell 1
  have cv : w1.cell? ⟨gv, 0, none⟩ = some (.string s) := hv1.cell 0
  have ck : w1.cell? ⟨gk, 0, none⟩ = some (.int .u64 (k : Int)) := hk1.cell 0
  have HB := Lib.hid hb1
  clear hb1
  go_wp2_with (go_at_call 34; (with_reducible refine (refuse_13 _).mono ?_); rintro e w2 ⟨he, rfl⟩; rw [pan_eq] at he; subst he)
  exact ⟨rfl, rfl, rstep B0 HB.out⟩

theorem withc_long {kind : Int} {L : List It} {nl : Int} {nb mark : Nat} {a : Option Addr} {n c : Nat} {s : ByteArray} {k : Nat} {w : World} {g gv gk : Nat} (_hn : L.length = n) (hg : Blk w g (recC ⟨kind, L, nl, nb, mark⟩ (.slice a n c)) 27) (hv : Blk w gv #[.string s] 9) (hk : Blk w gk #[.int .u64 (k : Int)] 23) (hT : Told w (.slice a n c) L) (hW : (⟨kind, L, nl, nb, mark⟩ : Rc).Wf) (hl : L.length ≤ 1000000) (hr : isR ⟨kind, L, nl, nb, mark⟩ = true) (hk1 : kind = 1) (hs : 64 < s.size) :
    Calls Try.prog 53 #[.pointer (some ⟨g, 0, none⟩), .pointer (some ⟨gv, 0, none⟩), .pointer (some ⟨gk, 0, none⟩)] w fun e w' => e = Pan 2 ∧ Below w.heap.size w w' := by
  go_enter Try.func53, Try.ntmps53
  go_upto_region 1 with (fail)
  rw [zero_rec]
  have Z0 := Blk.new w (recC zeroR (.slice none 0 0)) 27
  have B0 := (Below.refl w.heap.size w).alloc (Nat.le_refl _) (.cells (recC zeroR (.slice none 0 0)) 27)
  replace hg := hg.below B0 hg.lt
  replace hv := hv.below B0 hv.lt
  replace hk := hk.below B0 hk.lt
  replace hT := hT.bel B0
  generalize hWW : w.alloc _ = W at *
  have HI := Lib.hid (is_any hT hW hl)
  rw [hr] at HI
  subst hk1
  have hd : decide (64 < (s.size : Int)) = true := decide_eq_true (by omega)
  clear hT hW hl hr
  go_upto_region 2 with (first
    | (refine p_loadR rfl _ rfl g rfl ⟨1, L, nl, nb, mark⟩ (.slice a n c) hg ?_)
    | (go_at_call 15; (with_reducible refine HI.out.mono ?_); rintro e w1 ⟨rfl, hb1⟩)
    | (go_at_call 34; (with_reducible refine (pass_1 _).mono ?_); rintro e w2 ⟨rfl, rfl⟩))
  have hg1 := hg.below hb1 hg.lt
  have hv1 := hv.below hb1 hv.lt
  have hk1 := hk.below hb1 hk.lt
  have c0 : w1.cell? ⟨g, 0, none⟩ = some (.int .i64 1) := hg1.cell 0
  have c1 : w1.cell? ⟨g, 1, none⟩ = some (.slice a n c) := hg1.cell 1
  have cv : w1.cell? ⟨gv, 0, none⟩ = some (.string s) := hv1.cell 0
  have ck : w1.cell? ⟨gk, 0, none⟩ = some (.int .u64 (k : Int)) := hk1.cell 0
  have HB := Lib.hid hb1
  clear hb1
  go_wp2_with (go_at_call 34; (first | (with_reducible refine (pass_13 _).mono ?_; rintro e w2 ⟨rfl, rfl⟩) | (with_reducible refine (refuse_2 _).mono ?_; rintro e w2 ⟨he, rfl⟩; rw [pan_eq] at he; subst he)))
  exact ⟨rfl, rfl, rstep B0 HB.out⟩
end Go.Proofs.Ytkicndengkcojaa
