/- Rows of items, one behind the other, in a row of their own; a row cloned. -/
import Derived.Test.YtkicndengkcojaaRecThose
import Derived.Lib.AppendZeros
import Derived.Lib.SliceRun
namespace Go.Proofs.Ytkicndengkcojaa
set_option maxRecDepth 100000
open Go Go.RowKit Go.Sort

theorem own_empty {W : World} {B b G : Nat} {C : Array Value} (hb : B ≤ b) (hB : Blk W b C 53) (hs : C.size = G * 2) (hG : G ≤ maxLen) : W.ownsRow B 53 2 (.slice (some ⟨b, 0, none⟩) 0 G) 0 (flat []) :=
  ⟨rfl, .inr ⟨b, G, C, rfl, hb, hB, Nat.zero_le _, hG, hs, by simp [flat]⟩⟩
/-- room for some items -/
theorem wpList_room {w : World} {ops : Array Oper} {rest : List Oper} {o : Oper} {a : Act} {Q : Exit → Act → World → Prop} (hgd : o.guard = none) (s x : Operand)
    (ho : o.op = .call { callee := .builtin .append, args := #[s, x], argTypes := #[22, 3] }) (n : Nat) (hs : a.eval s = .slice none 0 0) (hx : a.eval x = .int .i64 (n : Int)) (h0 : 0 < n) (hn : n ≤ 1000000)
    (h : ∀ G W, W.ownsRow w.heap.size 53 2 (.slice (some ⟨w.heap.size, 0, none⟩) 0 G) 0 (flat []) → Below w.heap.size w W → wpList Try.prog ops Q rest (a.put o.dst (.slice (some ⟨w.heap.size, 0, none⟩) n G)) W) : wpList Try.prog ops Q (o :: rest) a w := by
  obtain ⟨i, hi, hq⟩ := Option.map_eq_some_iff.1 infoA
  simp only [Prod.mk.injEq] at hq
  obtain ⟨q1, q2, q3⟩ := hq
  have hr := Lib.run_append_nil_zeros (P := Try.prog) w 22 3 o.type 53 i _ .i64 .i64 Try.underlying22 Try.underlying3 hi q1 n h0 (by omega) (by omega) (by rw [q3]; omega)
  have hGe : n ≤ grownCap w n 0 53 := grownCap_ge ..
  have hGm : grownCap w n 0 53 ≤ maxLen := grownCap_le_maxLen w _ _ _ (by unfold maxLen; omega)
  generalize grownCap w n 0 53 = G at *
  refine wpList_plain hgd fun K hK => ?_
  unfold Oper.wp execOp
  simp only [ho, resolve, invoke, builtin, Sem.run_bind, Sem.run_pure, Result.andThen_ok, List.map_toArray, List.map_cons, List.map_nil, hs, hx, hr]
  refine hK _ _ (h G _ (own_empty (Nat.le_refl _) (Blk.new w.drew _ _) ?_ hGm) ((rdrew w).alloc (Nat.le_refl _) _))
  simp only [Array.size_append, size_zeroCells]
  rw [show (Value.agg #[Value.int .u64 0, Value.string ⟨#[]⟩]).cells.size = 2 from rfl]
  omega
theorem grow_none (w : World) : Calls Try.prog 96 #[.slice none 0 0, .int .i64 0] w fun e w' => e = .returned (.slice none 0 0) ∧ w = w' := by
  go_enter Try.func96, Try.ntmps96
  go_wp2
  go_ret
  exact ⟨rfl, rfl⟩
theorem grow_some (n : Nat) (h0 : 0 < n) (hn : n ≤ 1000000) (w : World) : Calls Try.prog 96 #[.slice none 0 0, .int .i64 (n : Int)] w fun e w' => ∃ v, e = .returned v ∧ w'.ownsRow w.heap.size 53 2 v 0 (flat []) ∧ Below w.heap.size w w' := by
  have hw : IntKind.i64.wrap (n : Int) = (n : Int) := IntWalk.i64_in _ (by omega)
  have g1 : ¬ (n : Int) < 0 := by omega
  have g2 : decide (0 < n) = true := decide_eq_true h0
  go_enter Try.func96, Try.ntmps96
  go_wp2_with (at_builtin; refine wpList_room rfl _ _ rfl n rfl rfl h0 hn ?_; intro G W h1 h2; have H1 := Lib.hid h1; have H2 := Lib.hid h2; clear h1 h2)
  go_ret
  exact ⟨_, rfl, H1.out, H2.out⟩

/-! rows, one behind the other -/
def cat (S : List (Value × List It)) : List It := S.flatMap (·.2)
theorem cat_take {S : List (Value × List It)} {i : Nat} {x : Value × List It} (hx : S[i]? = some x) : cat (S.take (i + 1)) = cat (S.take i) ++ x.2 := by
  obtain ⟨hp, rfl⟩ := List.getElem?_eq_some_iff.1 hx
  unfold cat
  rw [List.take_succ_eq_append_getElem hp, List.flatMap_append]
  simp
theorem cat_le (S : List (Value × List It)) (i : Nat) : (cat (S.take i)).length ≤ (cat S).length := by
  have h : cat S = cat (S.take i) ++ cat (S.drop i) := by
    unfold cat
    rw [← List.flatMap_append, List.take_append_drop]
  rw [h, List.length_append]
  omega
def ToldAll (w : World) (S : List (Value × List It)) : Prop := ∀ (i : Nat) (x : Value × List It), S[i]? = some x → Told w x.1 x.2
theorem ToldAll.bel {w w' : World} {S : List (Value × List It)} (h : ToldAll w S) (hb : Below w.heap.size w w') : ToldAll w' S := fun i x hx => (h i x hx).bel hb
/-- a slice that lies in a row of slices -/
theorem row_slice {w : World} {h : Nat} {S : List (Value × List It)} (hB : Blk w h (S.map (·.1)).toArray 22) {i : Nat} {x : Value × List It} (hx : S[i]? = some x) : w.cell? ⟨h, i, none⟩ = some x.1 := by
  rw [hB.cell]
  simp [hx]
set_option maxHeartbeats 2000000 in
theorem concat_any {w : World} {h : Nat} {S : List (Value × List It)} (hB0 : Blk w h (S.map (·.1)).toArray 22) (hT0 : ToldAll w S) (hl : (cat S).length ≤ 100000) (hs : S.length ≤ 1000) :
    Calls Try.prog 57 #[.slice (some ⟨h, 0, none⟩) S.length S.length] w fun e w' => ∃ v, e = .returned v ∧ w'.ownsRow w.heap.size 53 2 v (cat S).length (flat (cat S)) ∧ Below w.heap.size w w' := by
  obtain ⟨n, hn⟩ : ∃ n, n = S.length := ⟨_, rfl⟩
  obtain ⟨m, hm⟩ : ∃ m, m = (cat S).length := ⟨_, rfl⟩
  have HLE := Lib.hid (fun i => cat_le S i)
  rw [← hn] at hs ⊢
  rw [← hm] at hl HLE ⊢
  have HN := Lib.hid hn
  have HM := Lib.hid hm
  have HT := Lib.hid hT0
  have HBk := Lib.hid hB0
  have hlt0 := hB0.lt
  clear hn hm hT0 hB0
  have HG : Hid (∀ wr, Below w.heap.size w wr → Calls Try.prog 96 #[.slice none 0 0, .int .i64 (m : Int)] wr fun e w' => ∃ v, e = .returned v ∧ w'.ownsRow w.heap.size 53 2 v 0 (flat []) ∧ Below wr.heap.size wr w') := by
    intro wr hb
    by_cases h0 : m = 0
    · subst h0
      exact (grow_none wr).mono fun e w' ⟨he, hw⟩ => ⟨_, he, World.ownsRow_nil _ _ _ _, hw ▸ Below.refl _ _⟩
    · refine (grow_some m (by omega) (by omega) wr).mono ?_
      rintro e w' ⟨v, he, ho, hb2⟩
      refine ⟨v, he, ⟨ho.1, ho.2.imp id ?_⟩, hb2⟩
      rintro ⟨g, cap, cur, h1, h2, h3⟩
      exact ⟨g, cap, cur, h1, Nat.le_trans hb.size h2, h3⟩
  go_enter Try.func57, Try.ntmps57
  go_wp2
  go_loop [3, 5, 11] (fun z _ i => ∃ q : Nat, q ≤ n ∧ i = .int .i64 (q : Int) ∧ z = .int .i64 ((cat (S.take q)).length : Int)) (fun _ _ i => n - (intOf i).toNat)
  case atStart => exact ⟨0, by omega, rfl, rfl⟩
  case round =>
    obtain ⟨q, hq, rfl, rfl⟩ := hrel
    by_cases hlt : q < n
    · obtain ⟨x, hx⟩ : ∃ x, S[q]? = some x := ⟨_, List.getElem?_eq_getElem (by have := HN.out; omega)⟩
      obtain ⟨a, c, hsh⟩ := told_shape (HT.out q x hx)
      have c0 := row_slice HBk.out hx
      rw [hsh] at c0
      have hct := congrArg List.length (cat_take hx)
      rw [List.length_append] at hct
      have hle := HLE.out (q + 1)
      obtain ⟨z, hz⟩ : ∃ z, z = (cat (S.take q)).length := ⟨_, rfl⟩
      rw [← hz] at hct ⊢
      rw [hct] at hle
      have HCT := Lib.hid hct
      generalize x.2.length = k at *
      have hw1 : IntKind.i64.wrap ((z : Int) + (k : Int)) = (z : Int) + (k : Int) := IntWalk.i64_in _ (by omega)
      have hg : ¬ (z : Int) + (k : Int) < 0 := by omega
      clear hx hsh hct hz
      go_wp2
      exact ⟨⟨q + 1, by omega, by go_num, by rw [HCT.out]; go_num⟩, by simp [intOf]; omega⟩
    · obtain rfl : n = q := by omega
      have hall : S.take n = S := by rw [HN.out, List.take_length]
      rw [hall, ← HM.out]
      go_upto_region 10 with (go_at_call 96; (with_reducible refine (HG.out _ (Below.refl _ _)).mono ?_); rintro e w1 ⟨v0, rfl, hO, hb1⟩)
      have HO := Lib.hid hO
      have HB := Lib.hid hb1
      clear hO hb1 hall HG
      go_wp2
      go_loopw [6, 8, 27] (fun v _ i wr => ∃ q : Nat, q ≤ n ∧ i = .int .i64 (q : Int) ∧ Below w.heap.size w wr ∧ wr.ownsRow w.heap.size 53 2 v (cat (S.take q)).length (flat (cat (S.take q)))) (fun _ _ i _ => n - (intOf i).toNat)
      case atStart => exact ⟨0, by omega, rfl, HB.out, HO.out⟩
      case round =>
        obtain ⟨q, hq, rfl, hB, hO⟩ := hrel
        replace HB := Lib.hid hB
        replace HO := Lib.hid hO
        clear hB hO
        by_cases hlt : q < n
        · obtain ⟨x, hx⟩ : ∃ x, S[q]? = some x := ⟨_, List.getElem?_eq_getElem (by have := HN.out; omega)⟩
          have hTx : Told wr x.1 x.2 := (HT.out q x hx).bel HB.out
          have c0 := row_slice (HBk.out.below HB.out hlt0) hx
          obtain ⟨v, K⟩ := x
          simp only at hTx c0
          have hct := cat_take hx
          simp only at hct
          have hle := HLE.out (q + 1)
          rw [hct, List.length_append] at hle
          have hone := told_one hTx
          have HTX := Lib.hid hTx
          have HCT := Lib.hid hct
          have hs2 := HB.out.size
          obtain ⟨z, hz⟩ : ∃ z, z = (cat (S.take q)).length := ⟨_, rfl⟩
          obtain ⟨k, hk⟩ : ∃ k, k = K.length := ⟨_, rfl⟩
          rw [← hz] at hle HO
          rw [← hk] at hle
          have HSX : Hid (SrcI wr v k 2 (flat K)) := by rw [hk]; exact HTX.out
          have HZ := Lib.hid hz
          have HK := Lib.hid hk
          clear hx hTx hct hz hk
          obtain ⟨a, c, rfl⟩ := told_shape HTX.out
          go_wp2_with (at_builtin; refine wpList_joinA rfl _ _ rfl w.heap.size _ (cat (S.take q)) K z k rfl HO.out _ rfl HSX.out (by omega) HB.out hs2 ?_; intro v' w' h1 h2 h3; have H1 := Lib.hid h1; have H2 := Lib.hid h2; clear h1 h2 h3)
          refine ⟨⟨q + 1, by omega, by go_num, H2.out, ?_⟩, by simp [intOf]; omega⟩
          rw [HCT.out, List.length_append, ← HZ.out, ← HK.out]
          exact H1.out
        · obtain rfl : n = q := by omega
          have hall : S.take n = S := by rw [HN.out, List.take_length]
          rw [hall, ← HM.out] at HO
          go_wp2
          go_ret
          exact ⟨_, rfl, HO.out, HB.out⟩
/-! a row cloned -/
theorem clone_rec {w : World} {u : Value} {L : List It} (hT0 : Told w u L) (hl : L.length ≤ 1000000) : Calls Try.prog 60 #[u] w fun e w' => ∃ v, e = .returned v ∧ Told w' v L ∧ Below w.heap.size w w' := by
  have qT : ∀ (w : World) (a : Option Addr) (n c n' c' : Nat), (binOp .eql 22 (.slice a n c) (.slice none n' c')).run Try.prog w = .ok (.bool a.isNone) w := fun w a n c n' c' => Lib.run_eql_slice_nil w _ _ a n c n' c' Try.underlying22
  obtain ⟨n, hn⟩ : ∃ n, n = L.length := ⟨_, rfl⟩
  have HS : Hid (SrcI w u n 2 (flat L)) := by rw [hn]; exact hT0
  have HT := Lib.hid hT0
  rw [← hn] at hl
  have HN := Lib.hid hn
  rcases hT0.2 with ⟨rfl, h0⟩ | ⟨g, o, c, rfl, _⟩
  · clear hn hT0 h0
    go_enter Try.func60, Try.ntmps60
    go_wp2
    go_ret
    exact ⟨_, rfl, HT.out, Below.refl _ _⟩
  · rw [← hn] at HS HT ⊢
    clear hn hT0
    have hno : (some (⟨g, o, none⟩ : Addr)).isNone = false := rfl
    have HB0 : Hid (Below w.heap.size w (w.alloc (.cells #[] 53))) := (Below.refl _ _).alloc (Nat.le_refl _) _
    have HO0 : Hid ((w.alloc (.cells #[] 53)).ownsRow w.heap.size 53 2 (.slice (some ⟨w.heap.size, 0, none⟩) 0 0) 0 (flat [])) := own_empty (Nat.le_refl _) (Blk.new _ _ _) rfl (by unfold maxLen; omega)
    go_enter Try.func60, Try.ntmps60
    go_wp2_with (at_builtin; refine wpList_joinA rfl _ _ rfl w.heap.size _ [] L 0 n rfl HO0.out _ rfl (HS.out.bel HB0.out) (by omega) HB0.out HB0.out.size ?_; intro v' w' h1 h2 h3; have H1 := Lib.hid h1; have H2 := Lib.hid h2; clear h1 h2 h3)
    go_ret
    refine ⟨_, rfl, ?_, H2.out⟩
    have := H1.out
    rw [Nat.zero_add, List.nil_append, HN.out] at this
    exact told_own this
end Go.Proofs.Ytkicndengkcojaa
