/- Rows of numbers and tables, made longer and put together. -/
import Derived.Test.YtfajfmcabpmchaaWalMem
import Derived.Lib.AppendZeros
import Derived.Lib.SliceRun
namespace Go.Proofs.Ytfajfmcabpmchaa
set_option maxRecDepth 100000
open Go Go.RowKit Go.Sort

theorem own_empty {W : World} {B b G : Nat} {C : Array Value} (hb : B ≤ b) (hB : Blk W b C 28) (hs : C.size = G * 21) (hG : G ≤ maxLen) : W.ownsRow B 28 21 (.slice (some ⟨b, 0, none⟩) 0 G) 0 (flat []) :=
  ⟨rfl, .inr ⟨b, G, C, rfl, hb, hB, Nat.zero_le _, hG, hs, by simp [flat]⟩⟩
/-- room for some items -/
theorem wpList_room {w : World} {ops : Array Oper} {rest : List Oper} {o : Oper} {a : Act} {Q : Exit → Act → World → Prop} (hgd : o.guard = none) (s x : Operand)
    (ho : o.op = .call { callee := .builtin .append, args := #[s, x], argTypes := #[37, 3] }) (n : Nat) (hs : a.eval s = .slice none 0 0) (hx : a.eval x = .int .i64 (n : Int)) (h0 : 0 < n) (hn : n ≤ 1000000)
    (h : ∀ G W, W.ownsRow w.heap.size 28 21 (.slice (some ⟨w.heap.size, 0, none⟩) 0 G) 0 (flat []) → Below w.heap.size w W → wpList Try.prog ops Q rest (a.put o.dst (.slice (some ⟨w.heap.size, 0, none⟩) n G)) W) : wpList Try.prog ops Q (o :: rest) a w := by
  obtain ⟨i, hi, hq⟩ := Option.map_eq_some_iff.1 infoP
  simp only [Prod.mk.injEq] at hq
  obtain ⟨q1, q2, q3⟩ := hq
  have hr := Lib.run_append_nil_zeros (P := Try.prog) w 37 3 o.type 28 i _ .i64 .i64 Try.underlying37 Try.underlying3 hi q1 n h0 (by omega) (by omega) (by rw [q3]; omega)
  have hGe : n ≤ grownCap w n 0 28 := grownCap_ge ..
  have hGm : grownCap w n 0 28 ≤ maxLen := grownCap_le_maxLen w _ _ _ (by unfold maxLen; omega)
  generalize grownCap w n 0 28 = G at *
  refine wpList_plain hgd fun K hK => ?_
  unfold Oper.wp execOp
  simp only [ho, resolve, invoke, builtin, Sem.run_bind, Sem.run_pure, Result.andThen_ok, List.map_toArray, List.map_cons, List.map_nil, hs, hx, hr]
  refine hK _ _ (h G _ (own_empty (Nat.le_refl _) (Blk.new w.drew _ _) ?_ hGm) ((drew_bel w).alloc (Nat.le_refl _) _))
  simp only [Array.size_append, size_zeroCells]
  rw [show (Value.agg (peA (0, 0))).cells.size = 21 from rfl]
  omega
theorem grow_none (w : World) : Calls Try.prog 86 #[.slice none 0 0, .int .i64 0] w fun e w' => e = .returned (.slice none 0 0) ∧ w = w' := by
  go_enter Try.func86, Try.ntmps86
  go_wp2
  go_ret
  exact ⟨rfl, rfl⟩
theorem grow_some (n : Nat) (h0 : 0 < n) (hn : n ≤ 1000000) (w : World) : Calls Try.prog 86 #[.slice none 0 0, .int .i64 (n : Int)] w fun e w' => ∃ v, e = .returned v ∧ w'.ownsRow w.heap.size 28 21 v 0 (flat []) ∧ Below w.heap.size w w' := by
  have hw : IntKind.i64.wrap (n : Int) = (n : Int) := IntWalk.i64_in _ (by omega)
  have g1 : ¬ (n : Int) < 0 := by omega
  have g2 : decide (0 < n) = true := decide_eq_true h0
  go_enter Try.func86, Try.ntmps86
  go_wp2_with (at_builtin; refine wpList_room rfl _ _ rfl n rfl rfl h0 hn ?_; intro G W h1 h2; have H1 := Lib.hid h1; have H2 := Lib.hid h2; clear h1 h2)
  go_ret
  exact ⟨_, rfl, H1.out, H2.out⟩

/-! rows, one behind the other -/
def cat (S : List (Value × List Pe)) : List Pe := S.flatMap (·.2)
theorem cat_take {S : List (Value × List Pe)} {i : Nat} {x : Value × List Pe} (hx : S[i]? = some x) : cat (S.take (i + 1)) = cat (S.take i) ++ x.2 := by
  obtain ⟨hp, rfl⟩ := List.getElem?_eq_some_iff.1 hx
  unfold cat
  rw [List.take_succ_eq_append_getElem hp, List.flatMap_append]
  simp
theorem cat_le (S : List (Value × List Pe)) (i : Nat) : (cat (S.take i)).length ≤ (cat S).length := by
  have h : cat S = cat (S.take i) ++ cat (S.drop i) := by
    unfold cat
    rw [← List.flatMap_append, List.take_append_drop]
  rw [h, List.length_append]
  omega
def ToldAll (w : World) (S : List (Value × List Pe)) : Prop := ∀ (i : Nat) (x : Value × List Pe), S[i]? = some x → Lies w x.1 x.2
theorem ToldAll.bel {w w' : World} {S : List (Value × List Pe)} (h : ToldAll w S) (hb : Below w.heap.size w w') : ToldAll w' S := fun i x hx => (h i x hx).bel hb
/-- a slice that lies in a row of slices -/
theorem row_slice {w : World} {h : Nat} {S : List (Value × List Pe)} (hB : Blk w h (S.map (·.1)).toArray 37) {i : Nat} {x : Value × List Pe} (hx : S[i]? = some x) : w.cell? ⟨h, i, none⟩ = some x.1 := by
  rw [hB.cell]
  simp [hx]
set_option maxHeartbeats 2000000 in
theorem concat_any {w : World} {h : Nat} {S : List (Value × List Pe)} (hB0 : Blk w h (S.map (·.1)).toArray 37) (hT0 : ToldAll w S) (hl : (cat S).length ≤ 100000) (hs : S.length ≤ 1000) :
    Calls Try.prog 65 #[.slice (some ⟨h, 0, none⟩) S.length S.length] w fun e w' => ∃ v, e = .returned v ∧ w'.ownsRow w.heap.size 28 21 v (cat S).length (flat (cat S)) ∧ Below w.heap.size w w' := by
  obtain ⟨n, hn⟩ : ∃ n, n = S.length := ⟨_, rfl⟩
  obtain ⟨m, hm⟩ : ∃ m, m = (cat S).length := ⟨_, rfl⟩
  have HLE := Lib.hid (fun i => cat_le S i)
  rw [← hn] at hs ⊢
  rw [← hm] at hl HLE ⊢
  have HN := Lib.hid hn
  have HM := Lib.hid hm
  have HT := Lib.hid hT0
  have HBk := Lib.hid hB0
  have hlt0 := hB0.lt
  clear hn hm hT0 hB0
  have HG : Hid (∀ wr, Below w.heap.size w wr → Calls Try.prog 86 #[.slice none 0 0, .int .i64 (m : Int)] wr fun e w' => ∃ v, e = .returned v ∧ w'.ownsRow w.heap.size 28 21 v 0 (flat []) ∧ Below wr.heap.size wr w') := by
    intro wr hb
    by_cases h0 : m = 0
    · subst h0
      exact (grow_none wr).mono fun e w' ⟨he, hw⟩ => ⟨_, he, World.ownsRow_nil _ _ _ _, hw ▸ Below.refl _ _⟩
    · refine (grow_some m (by omega) (by omega) wr).mono ?_
      rintro e w' ⟨v, he, ho, hb2⟩
      refine ⟨v, he, ⟨ho.1, ho.2.imp id ?_⟩, hb2⟩
      rintro ⟨g, cap, cur, h1, h2, h3⟩
      exact ⟨g, cap, cur, h1, Nat.le_trans hb.size h2, h3⟩
  go_enter Try.func65, Try.ntmps65
  go_wp2
  go_loop [3, 5, 11] (fun z _ i => ∃ q : Nat, q ≤ n ∧ i = .int .i64 (q : Int) ∧ z = .int .i64 ((cat (S.take q)).length : Int)) (fun _ _ i => n - (intOf i).toNat)
  case atStart => exact ⟨0, by omega, rfl, rfl⟩
  case round =>
    obtain ⟨q, hq, rfl, rfl⟩ := hrel
    by_cases hlt : q < n
    · obtain ⟨x, hx⟩ : ∃ x, S[q]? = some x := ⟨_, List.getElem?_eq_getElem (by have := HN.out; omega)⟩
      obtain ⟨a, c, hsh⟩ := (HT.out q x hx).form
      have c0 := row_slice HBk.out hx
      rw [hsh] at c0
      have hct := congrArg List.length (cat_take hx)
      rw [List.length_append] at hct
      have hle := HLE.out (q + 1)
      obtain ⟨z, hz⟩ : ∃ z, z = (cat (S.take q)).length := ⟨_, rfl⟩
      rw [← hz] at hct ⊢
      rw [hct] at hle
      have HCT := Lib.hid hct
      generalize x.2.length = k at *
      have hw1 : IntKind.i64.wrap ((z : Int) + (k : Int)) = (z : Int) + (k : Int) := IntWalk.i64_in _ (by omega)
      have hg : ¬ (z : Int) + (k : Int) < 0 := by omega
      clear hx hsh hct hz
      go_wp2
      exact ⟨⟨q + 1, by omega, by go_num, by rw [HCT.out]; go_num⟩, by simp [intOf]; omega⟩
    · obtain rfl : n = q := by omega
      have hall : S.take n = S := by rw [HN.out, List.take_length]
      rw [hall, ← HM.out]
      go_upto_region 10 with (go_at_call 86; (with_reducible refine (HG.out _ (Below.refl _ _)).mono ?_); rintro e w1 ⟨v0, rfl, hO, hb1⟩)
      have HO := Lib.hid hO
      have HB := Lib.hid hb1
      clear hO hb1 hall HG
      go_wp2
      go_loopw [6, 8, 27] (fun v _ i wr => ∃ q : Nat, q ≤ n ∧ i = .int .i64 (q : Int) ∧ Below w.heap.size w wr ∧ wr.ownsRow w.heap.size 28 21 v (cat (S.take q)).length (flat (cat (S.take q)))) (fun _ _ i _ => n - (intOf i).toNat)
      case atStart => exact ⟨0, by omega, rfl, HB.out, HO.out⟩
      case round =>
        obtain ⟨q, hq, rfl, hB, hO⟩ := hrel
        replace HB := Lib.hid hB
        replace HO := Lib.hid hO
        clear hB hO
        by_cases hlt : q < n
        · obtain ⟨x, hx⟩ : ∃ x, S[q]? = some x := ⟨_, List.getElem?_eq_getElem (by have := HN.out; omega)⟩
          have hTx : Lies wr x.1 x.2 := (HT.out q x hx).bel HB.out
          have c0 := row_slice (HBk.out.below HB.out hlt0) hx
          obtain ⟨v, K⟩ := x
          simp only at hTx c0
          have hct := cat_take hx
          simp only at hct
          have hle := HLE.out (q + 1)
          rw [hct, List.length_append] at hle
          have HTX := Lib.hid hTx
          have HCT := Lib.hid hct
          have hs2 := HB.out.size
          obtain ⟨z, hz⟩ : ∃ z, z = (cat (S.take q)).length := ⟨_, rfl⟩
          obtain ⟨k, hk⟩ : ∃ k, k = K.length := ⟨_, rfl⟩
          rw [← hz] at hle HO
          rw [← hk] at hle
          have HSX : Hid (Src wr v k 21 (flat K)) := by rw [hk]; exact lies_src HTX.out
          have HZ := Lib.hid hz
          have HK := Lib.hid hk
          clear hx hTx hct hz hk
          obtain ⟨a, c, rfl⟩ := HTX.out.form
          go_wp2_with (at_builtin; refine wpList_joinP rfl _ _ rfl w.heap.size _ (cat (S.take q)) K z k rfl HO.out _ rfl HSX.out (by omega) HB.out hs2 ?_; intro v' w' h1 h2 h3; have H1 := Lib.hid h1; have H2 := Lib.hid h2; clear h1 h2 h3)
          refine ⟨⟨q + 1, by omega, by go_num, H2.out, ?_⟩, by simp [intOf]; omega⟩
          rw [HCT.out, List.length_append, ← HZ.out, ← HK.out]
          exact H1.out
        · obtain rfl : n = q := by omega
          have hall : S.take n = S := by rw [HN.out, List.take_length]
          rw [hall, ← HM.out] at HO
          go_wp2
          go_ret
          exact ⟨_, rfl, HO.out, HB.out⟩
end Go.Proofs.Ytfajfmcabpmchaa

namespace Go.Proofs.Ytfajfmcabpmchaa
set_option maxRecDepth 100000
open Go Go.RowKit Go.Sort

theorem infoT : (Try.prog.info? 43).map (fun i => (i.zero, i.size, i.bytes)) = some (some (.agg (tabA (0, 0) (0, 0) nilS nilS)), 44, 112) := by kernel_rfl
theorem run_sliceT (s p : Pe) (a b : Option Addr) (n c m d : Nat) (w : World) : (Instr.buildSlice 22 1 #[(0, .agg (tabA s p (.slice a n c) (.slice b m d)))]).run Try.prog w = .ok (.slice (some ⟨w.heap.size, 0, none⟩) 1 1) (w.alloc (.cells (tabA s p (.slice a n c) (.slice b m d)) 43)) := by kernel_rfl
theorem p_sliceT {ops : Array Oper} {rest : List Oper} {o : Oper} {a : Act} {w : World} {Q : Exit → Act → World → Prop} (hgd : o.guard = none) (x : Operand) (ho : o.op = .buildSlice 22 1 #[(0, x)])
    (s p : Pe) (a1 a2 : Option Addr) (n c m d : Nat) (hx : a.eval x = .agg (tabA s p (.slice a1 n c) (.slice a2 m d))) (h : wpList Try.prog ops Q rest (a.put o.dst (.slice (some ⟨w.heap.size, 0, none⟩) 1 1)) (w.alloc (.cells (tabA s p (.slice a1 n c) (.slice a2 m d)) 43))) : wpList Try.prog ops Q (o :: rest) a w := by
  refine wpList_plain hgd fun K hK => ?_
  unfold Oper.wp execOp
  simp only [ho, List.map_toArray, List.map_cons, List.map_nil, hx, Sem.run_bind, run_sliceT s p a1 a2 n c m d w, Sem.run_pure, Result.andThen_ok]
  exact hK _ _ h
theorem p_addV {w : World} {x : Tv} {ops : Array Oper} {rest : List Oper} {o : Oper} {a : Act} {Q : Exit → Act → World → Prop} (hgd : o.guard = none) (s y : Operand)
    (ho : o.op = .call { callee := .builtin .append, args := #[s, y], argTypes := #[22, 22] }) (B : Nat) (v : Value) (X : List Tv) (hs : a.eval s = v) (g : Nat) (hg : w.heap.size = g) (hown : (w.alloc (.cells (tvA x) 43)).ownsRow B 43 44 v X.length (flatV X))
    (hx : a.eval y = .slice (some ⟨g, 0, none⟩) 1 1) (hl : X.length ≤ 1000000) (hbs : B ≤ g) (hu : x.u.oneCell' = true) (hv : x.v.oneCell' = true)
    (h : ∀ v' w', w'.ownsRow B 43 44 v' (X.length + 1) (flatV (X ++ [x])) → (w.alloc (.cells (tvA x) 43)).grownBy w' v.ownBlock → (v'.ownBlock = v.ownBlock ∨ v'.ownBlock = some (w.alloc (.cells (tvA x) 43)).heap.size) → wpList Try.prog ops Q rest (a.put o.dst v') w') :
    wpList Try.prog ops Q (o :: rest) a (w.alloc (.cells (tvA x) 43)) := by
  subst hg
  obtain ⟨i0, hi, hq⟩ := Option.map_eq_some_iff.1 infoT
  simp only [Prod.mk.injEq] at hq
  obtain ⟨q1, q2, q3⟩ := hq
  have hb := Blk.new w (tvA x) 43
  refine wpList_append_own_at (w := w.alloc (.cells (tvA x) 43)) hgd s y 22 ho B 43 i0 _ 44 112 Try.underlying22 hi q1 q2 q3 (tabA_size _ _ _ _) (by omega) v X.length (flatV X) hs hown ⟨w.heap.size, 0, none⟩ 1 1 (flatV [x]) hx (by rw [flatV_length]; rfl)
    (fun j u hj => by
      rw [flatV_single] at hj
      rw [Addr.add_mid]
      exact blk_range hb j u hj) (fun u hu' => by
      rw [flatV_single] at hu'
      exact (Array.all_eq_true_iff_forall_mem.1 (tabA_one (s := x.t.s) (p := x.t.p) hu hv)) u (by simpa [tabA] using hu')) (by unfold maxLen; omega) (by omega) (by simp; omega) ?_
  intro v' w' h1 h2 _ h4
  rw [← flatV_append] at h1
  exact h v' w' h1 h2 h4
/-- a row of tables of one's own -/
structure RowT (B : Nat) (w : World) (v : Value) (X : List Tv) : Prop where
  own : w.ownsRow B 43 44 v X.length (flatV X)
  ins : Ins w X
  ne : ∀ x ∈ X, ∀ b, v.ownBlock = some b → (0 < x.t.S.length → x.u.ownBlock ≠ some b) ∧ (0 < x.t.F.length → x.v.ownBlock ≠ some b)
theorem RowT.nil (B : Nat) (w : World) : RowT B w nilS [] := ⟨⟨rfl, .inl ⟨rfl, rfl⟩⟩, fun x hx => (by cases hx), fun x hx => (by cases hx)⟩
theorem RowT.bel {B : Nat} {w w' : World} {v : Value} {X : List Tv} (h : RowT B w v X) (hb : Below w.heap.size w w') : RowT B w' v X := ⟨own_bel h.own hb, h.ins.bel hb, h.ne⟩
theorem RowT.lies {B : Nat} {w : World} {v : Value} {X : List Tv} (h : RowT B w v X) : LiesT w v X := by
  refine ⟨?_, h.ins⟩
  rcases own_shape h.own with ⟨h1, h2⟩ | ⟨b, c, h1, h2, _, h4, _⟩
  · exact .inl ⟨⟨_, h1⟩, List.eq_nil_of_length_eq_zero h2⟩
  · exact .inr ⟨b, 0, c, h1, h2, h4⟩
theorem lies_grownO {w w' : World} {v : Value} {L : List Pe} {o : Option Nat} (h : Lies w v L) (hg : w.grownBy w' o) (hne : ∀ b, o = some b → 0 < L.length → v.ownBlock ≠ some b) : Lies w' v L := by
  cases o with
  | none => exact h.bel ⟨hg.os, hg.tape, hg.output, hg.size, fun i hi => hg.block i hi (by simp)⟩
  | some b => exact lies_but h hg (hne b rfl)
theorem RowT.add {B : Nat} {w w2 : World} {v v' : Value} {X : List Tv} {x : Tv} {o : Obj} (h : RowT B w v X) (hu : Lies w x.u x.t.S) (hf : Lies w x.v x.t.F) (hne : ∀ b, v.ownBlock = some b → (0 < x.t.S.length → x.u.ownBlock ≠ some b) ∧ (0 < x.t.F.length → x.v.ownBlock ≠ some b))
    (h1 : w2.ownsRow B 43 44 v' (X.length + 1) (flatV (X ++ [x]))) (h2 : (w.alloc o).grownBy w2 v.ownBlock) (h3 : v'.ownBlock = v.ownBlock ∨ v'.ownBlock = some (w.alloc o).heap.size) : RowT B w2 v' (X ++ [x]) := by
  have ka := (Below.refl w.heap.size w).alloc (Nat.le_refl _) o
  have hall : ∀ y ∈ X ++ [x], (Lies (w.alloc o) y.u y.t.S ∧ Lies (w.alloc o) y.v y.t.F) ∧ ∀ b, v.ownBlock = some b → (0 < y.t.S.length → y.u.ownBlock ≠ some b) ∧ (0 < y.t.F.length → y.v.ownBlock ≠ some b) := fun y hy => by
    rcases List.mem_append.1 hy with hy | hy
    · exact ⟨⟨(h.ins y hy).1.bel ka, (h.ins y hy).2.bel ka⟩, h.ne y hy⟩
    · rw [List.mem_singleton.1 hy]; exact ⟨⟨hu.bel ka, hf.bel ka⟩, hne⟩
  refine ⟨by rw [List.length_append]; exact h1, fun y hy => ?_, fun y hy b hb => ?_⟩
  · obtain ⟨⟨q1, q2⟩, q3⟩ := hall y hy
    exact ⟨lies_grownO q1 h2 fun b hb => (q3 b hb).1, lies_grownO q2 h2 fun b hb => (q3 b hb).2⟩
  · obtain ⟨⟨q1, q2⟩, q3⟩ := hall y hy
    rcases h3 with e | e
    · exact q3 b (by rw [← e]; exact hb)
    · rw [e, Option.some.injEq] at hb
      exact ⟨fun hn => lies_block q1 hn (Nat.le_of_eq hb), fun hn => lies_block q2 hn (Nat.le_of_eq hb)⟩
/-- what Settled answers -/
def StP (L : List Pe) (r : Nat) (ok : Bool) (e : Ending) (w' : World) : Prop :=
  (ok = false ∧ e = .returned (.tuple #[nilS, .int .i64 1])) ∨ (ok = true ∧ ∃ v X, e = .returned (.tuple #[v, .int .i64 0]) ∧ LiesT w' v X ∧ tabsOf X = setL L r)
def okS (r : Int) : Bool := decide (1 ≤ r) && decide (r ≤ 8)
end Go.Proofs.Ytfajfmcabpmchaa
