/- The document's calls least and Least. -/
import Derived.Test.YtdhcilnkimmblaaMorTree
import Derived.Test.YtdhcilnkimmblaaLabRefSib
namespace Go.Proofs.Ytdhcilnkimmblaa
open Go.RowKit Go.Sort

/-- a rectangle and a label, boxed -/
structure MemT (w wr : World) (a b c d : Nat) (n : Int) (s : Nat) : Prop where
  below : Below w.heap.size w wr
  r : Blk wr w.heap.size (rectc a b c d) 25
  l : Blk wr (w.heap.size + 1) (labc n s) 36
theorem MemT.made (w : World) (a b c d : Nat) (n : Int) (s : Nat) : MemT w ((w.alloc (.cells (rectc a b c d) 25)).alloc (.cells (labc n s) 36)) a b c d n s :=
  ⟨((Below.refl _ _).alloc (Nat.le_refl _) _).alloc (by simp) _, (Blk.new w _ _).alloc _, by have h := Blk.new (w.alloc (.cells (rectc a b c d) 25)) (labc n s) 36; rwa [World.size_alloc] at h⟩
theorem MemT.grown {w wr w' : World} {a b c d : Nat} {n : Int} {s : Nat} (k : MemT w wr a b c d n s) (hb : Below wr.heap.size wr w') : MemT w w' a b c d n s :=
  ⟨k.below.trans (hb.mono k.below.size), k.r.below hb k.r.lt, k.l.below hb k.l.lt⟩
theorem MemT.alloc {w wr : World} {a b c d : Nat} {n : Int} {s : Nat} (k : MemT w wr a b c d n s) (o : Obj) : MemT w (wr.alloc o) a b c d n s :=
  ⟨k.below.alloc k.below.size o, k.r.alloc o, k.l.alloc o⟩

theorem refleast_past (a b c d z : Nat) (n : Int) (s lo hi : Nat) (HS : Gives Try.prog 36 #[.agg (labc n s)] (.tuple #[.int .u64 (lo : Int), .int .u64 (hi : Int), .int .i64 0])) (h : hi < z) : Gives Try.prog 32 #[.agg (rectc a b c d), .int .u64 (z : Int), .agg (labc n s)] (.tuple #[.int .u64 0, .bool false]) := by
  intro w
  go_enter Try.func32, Try.ntmps32
  go_upto_region 1 with (fail)
  have K := Lib.hid (MemT.made w a b c d n s)
  generalize (w.alloc _).alloc _ = W at *
  go_upto_region 2 with (first | (refine p_loadR rfl _ rfl _ rfl _ _ _ _ (by first | with_reducible exact K.out.r) ?_) | (refine p_loadL rfl _ rfl _ rfl _ _ (by first | with_reducible exact K.out.l) ?_) | (go_at_call 36; (with_reducible refine (HS.calls _).mono ?_); rintro e w1 ⟨rfl, hb⟩))
  replace K := Lib.hid (K.out.grown hb)
  clear hb
  go_wp2
  go_ret2
  exact ⟨rfl, K.out.below⟩

theorem refleast_apart (a b c d z : Nat) (n : Int) (s lo hi : Nat) (HS : Gives Try.prog 36 #[.agg (labc n s)] (.tuple #[.int .u64 (lo : Int), .int .u64 (hi : Int), .int .i64 0])) (h : ¬ hi < z) (HM : Gives Try.prog 23 #[.agg (rectc a b c d), .agg (labc n s)] (.bool false)) : Gives Try.prog 32 #[.agg (rectc a b c d), .int .u64 (z : Int), .agg (labc n s)] (.tuple #[.int .u64 0, .bool false]) := by
  intro w
  go_enter Try.func32, Try.ntmps32
  go_upto_region 1 with (fail)
  have K := Lib.hid (MemT.made w a b c d n s)
  generalize (w.alloc _).alloc _ = W at *
  go_upto_region 2 with (first | (refine p_loadR rfl _ rfl _ rfl _ _ _ _ (by first | with_reducible exact K.out.r) ?_) | (refine p_loadL rfl _ rfl _ rfl _ _ (by first | with_reducible exact K.out.l) ?_) | (go_at_call 36; (with_reducible refine (HS.calls _).mono ?_); rintro e w1 ⟨rfl, hb⟩))
  replace K := Lib.hid (K.out.grown hb)
  clear hb
  go_wp2_with (first | (go_guarded; refine o_loadR _ rfl _ rfl _ _ _ _ K.out.r ?_; simp only [Act.put, List.setIfInBounds_toArray, List.set_cons_succ, List.set_cons_zero]) | (go_guarded; refine o_loadL _ rfl _ rfl _ _ K.out.l ?_; simp only [Act.put, List.setIfInBounds_toArray, List.set_cons_succ, List.set_cons_zero]) | (go_at_call 23; (with_reducible refine (HM.calls _).mono ?_); rintro e w2 ⟨rfl, hb⟩))
  go_ret2
  exact ⟨rfl, (K.out.grown hb).below⟩

theorem refleast_whole (a b c d z : Nat) (n : Int) (s lo hi : Nat) (HS : Gives Try.prog 36 #[.agg (labc n s)] (.tuple #[.int .u64 (lo : Int), .int .u64 (hi : Int), .int .i64 0])) (h : ¬ hi < z) (HM : Gives Try.prog 23 #[.agg (rectc a b c d), .agg (labc n s)] (.bool true)) (HH : Gives Try.prog 25 #[.agg (rectc a b c d), .agg (labc n s)] (.bool true)) : Gives Try.prog 32 #[.agg (rectc a b c d), .int .u64 (z : Int), .agg (labc n s)] (.tuple #[.int .u64 ((max lo z : Nat) : Int), .bool true]) := by
  intro w
  go_enter Try.func32, Try.ntmps32
  go_upto_region 1 with (fail)
  have K := Lib.hid (MemT.made w a b c d n s)
  generalize (w.alloc _).alloc _ = W at *
  go_upto_region 2 with (first | (refine p_loadR rfl _ rfl _ rfl _ _ _ _ (by first | with_reducible exact K.out.r) ?_) | (refine p_loadL rfl _ rfl _ rfl _ _ (by first | with_reducible exact K.out.l) ?_) | (go_at_call 36; (with_reducible refine (HS.calls _).mono ?_); rintro e w1 ⟨rfl, hb⟩))
  replace K := Lib.hid (K.out.grown hb)
  clear hb
  go_upto_region 4 with (first | (go_guarded; refine o_loadR _ rfl _ rfl _ _ _ _ K.out.r ?_; simp only [Act.put, List.setIfInBounds_toArray, List.set_cons_succ, List.set_cons_zero]) | (go_guarded; refine o_loadL _ rfl _ rfl _ _ K.out.l ?_; simp only [Act.put, List.setIfInBounds_toArray, List.set_cons_succ, List.set_cons_zero]) | (go_at_call 23; (with_reducible refine (HM.calls _).mono ?_); rintro e w2 ⟨rfl, hb⟩))
  replace K := Lib.hid (K.out.grown hb)
  clear hb
  go_wp2_with (first | (refine p_loadR rfl _ rfl _ rfl _ _ _ _ (by first | with_reducible exact K.out.r) ?_) | (refine p_loadL rfl _ rfl _ rfl _ _ (by first | with_reducible exact K.out.l) ?_) | (go_at_call 25; (with_reducible refine (HH.calls _).mono ?_); rintro e w3 ⟨rfl, hb⟩))
  all_goals
    go_ret2
    exact ⟨by simp; omega, (K.out.grown hb).below⟩

theorem refleast_kids (a b c d z : Nat) (n : Int) (s lo hi : Nat) (HS : Gives Try.prog 36 #[.agg (labc n s)] (.tuple #[.int .u64 (lo : Int), .int .u64 (hi : Int), .int .i64 0])) (h : ¬ hi < z) (HM : Gives Try.prog 23 #[.agg (rectc a b c d), .agg (labc n s)] (.bool true)) (HH : Gives Try.prog 25 #[.agg (rectc a b c d), .agg (labc n s)] (.bool false)) (C V : Nat → Nat) (O : Nat → Bool) (v : Nat) (ok : Bool)
    (HC : ∀ k : Nat, k < 2 → Gives Try.prog 40 #[.agg (labc n s), .int .i64 (k : Int)] (.tuple #[.agg (labc (n + 1) (C k)), .int .i64 0]))
    (HL : ∀ k : Nat, k < 2 → Gives Try.prog 32 #[.agg (rectc a b c d), .int .u64 (z : Int), .agg (labc (n + 1) (C k))] (.tuple #[.int .u64 (V k : Int), .bool (O k)]))
    (h0 : O 0 = true → v = V 0 ∧ ok = true) (h1 : O 0 = false → O 1 = true → v = V 1 ∧ ok = true) (h2 : O 0 = false → O 1 = false → v = 0 ∧ ok = false) : Gives Try.prog 32 #[.agg (rectc a b c d), .int .u64 (z : Int), .agg (labc n s)] (.tuple #[.int .u64 (v : Int), .bool ok]) := by
  intro w
  go_enter Try.func32, Try.ntmps32
  go_upto_region 1 with (fail)
  have K := Lib.hid (MemT.made w a b c d n s)
  generalize (w.alloc _).alloc _ = W at *
  go_upto_region 2 with (first | (refine p_loadR rfl _ rfl _ rfl _ _ _ _ (by first | with_reducible exact K.out.r) ?_) | (refine p_loadL rfl _ rfl _ rfl _ _ (by first | with_reducible exact K.out.l) ?_) | (go_at_call 36; (with_reducible refine (HS.calls _).mono ?_); rintro e w1 ⟨rfl, hb⟩))
  replace K := Lib.hid (K.out.grown hb)
  clear hb
  go_upto_region 4 with (first | (go_guarded; refine o_loadR _ rfl _ rfl _ _ _ _ K.out.r ?_; simp only [Act.put, List.setIfInBounds_toArray, List.set_cons_succ, List.set_cons_zero]) | (go_guarded; refine o_loadL _ rfl _ rfl _ _ K.out.l ?_; simp only [Act.put, List.setIfInBounds_toArray, List.set_cons_succ, List.set_cons_zero]) | (go_at_call 23; (with_reducible refine (HM.calls _).mono ?_); rintro e w2 ⟨rfl, hb⟩))
  replace K := Lib.hid (K.out.grown hb)
  clear hb
  go_upto_region 6 with (first | (refine p_loadR rfl _ rfl _ rfl _ _ _ _ (by first | with_reducible exact K.out.r) ?_) | (refine p_loadL rfl _ rfl _ rfl _ _ (by first | with_reducible exact K.out.l) ?_) | (go_at_call 25; (with_reducible refine (HH.calls _).mono ?_); rintro e w3 ⟨rfl, hb⟩))
  replace K := Lib.hid (K.out.grown hb)
  clear hb HM HH HS
  have H0 := Lib.hid h0
  have H1 := Lib.hid h1
  have H2 := Lib.hid h2
  clear h0 h1 h2
  go_wp2
  go_loopw [11] (fun i wr => ∃ k : Nat, k ≤ 2 ∧ i = .int .i64 k ∧ MemT w wr a b c d n s ∧ (0 < k → O 0 = false) ∧ (1 < k → O 1 = false)) (fun i _ => 2 - (intOf i).toNat)
  case atStart => exact ⟨0, by omega, rfl, K.out, by omega, by omega⟩
  case round =>
    clear K
    obtain ⟨k, hk, rfl, K0, g0, g1⟩ := hrel
    have K := Lib.hid K0
    have G0 := Lib.hid g0
    have G1 := Lib.hid g1
    clear K0 g0 g1
    by_cases hlt : k < 2
    · have C1 := HC k hlt
      have L1 := HL k hlt
      have hO : Hid (O k = true → v = V k ∧ ok = true) := by
        unfold Hid
        intro ho
        rcases (by omega : k = 0 ∨ k = 1) with rfl | rfl
        · exact H0.out ho
        · exact H1.out (G0.out (by omega)) ho
      have hF : Hid (O k = false → (0 < k + 1 → O 0 = false) ∧ (1 < k + 1 → O 1 = false)) := by
        unfold Hid
        intro ho
        rcases (by omega : k = 0 ∨ k = 1) with rfl | rfl
        · exact ⟨fun _ => ho, by omega⟩
        · exact ⟨fun _ => G0.out (by omega), fun _ => ho⟩
      clear HC HL H0 H1 H2 G0 G1
      generalize C k = ck at *
      generalize V k = vk at *
      generalize O k = o at *
      go_upto_region 10 with (first | (refine p_loadR rfl _ rfl _ rfl _ _ _ _ (by first | with_reducible exact K.out.r) ?_) | (refine p_loadL rfl _ rfl _ rfl _ _ (by first | with_reducible exact K.out.l) ?_) | (go_at_call 40; (with_reducible refine (C1.calls _).mono ?_); rintro e w4 ⟨rfl, hb⟩) | (refine wpList_store_newrow rfl 36 _ _ rfl (labc (n + 1) ck) rfl rfl infoLab (lab_all _ _) rfl ?_))
      have D := Lib.hid (Blk.new w4 (labc (n + 1) ck) 36)
      replace K := Lib.hid ((K.out.grown hb).alloc (.cells (labc (n + 1) ck) 36))
      clear hb
      generalize w4.heap.size = g4 at *
      generalize w4.alloc _ = W4 at *
      cases o
      · have F0 := Lib.hid (hF.out rfl)
        clear hF hO
        go_wp2_with (first | (refine p_loadR rfl _ rfl _ rfl _ _ _ _ (by first | with_reducible exact K.out.r) ?_) | (refine p_loadL rfl _ rfl _ rfl _ _ (by first | with_reducible exact D.out) ?_) | (go_at_call 32; (with_reducible refine (L1.calls _).mono ?_); rintro e w5 ⟨rfl, hb⟩))
        exact ⟨⟨k + 1, by omega, by go_num, K.out.grown hb, F0.out.1, F0.out.2⟩, by simp [intOf]; omega⟩
      · obtain ⟨e1, e2⟩ := hO.out rfl
        have E1 := Lib.hid e1
        have E2 := Lib.hid e2
        clear e1 e2 hO hF
        go_wp2_with (first | (refine p_loadR rfl _ rfl _ rfl _ _ _ _ (by first | with_reducible exact K.out.r) ?_) | (refine p_loadL rfl _ rfl _ rfl _ _ (by first | with_reducible exact D.out) ?_) | (go_at_call 32; (with_reducible refine (L1.calls _).mono ?_); rintro e w5 ⟨rfl, hb⟩))
        go_ret2
        exact ⟨by rw [E1.out, E2.out]; rfl, (K.out.grown hb).below⟩
    · obtain rfl : k = 2 := by omega
      have E := H2.out (G0.out (by omega)) (G1.out (by omega))
      have E1 := Lib.hid E.1
      have E2 := Lib.hid E.2
      clear E H0 H1 H2 G0 G1
      rw [show ((2 : Nat) : Int) = 2 from rfl]
      go_wp2
      go_ret2
      exact ⟨by rw [E1.out, E2.out]; rfl, K.out.below⟩

theorem refleast_any (a b c d z : Nat) (hz : z < 18446744073709551616) : ∀ (m n s : Nat), n + m = 64 → s < 18446744073709551616 → lowB n s = true → ∀ v ok, LeastAt (InL a b c d n s) z v ok →
    Gives Try.prog 32 #[.agg (rectc a b c d), .int .u64 (z : Int), .agg (labc n s)] (.tuple #[.int .u64 (v : Int), .bool ok]) := by
  intro m
  induction m with
  | zero =>
    intro n s hn hs hi v ok hl
    obtain rfl : n = 64 := by omega
    have hgap := gap_full
    have HS : Gives Try.prog 36 #[.agg (labc ((64 : Nat) : Int) s)] (.tuple #[.int .u64 (s : Int), .int .u64 ((s + (gap 64 - 1) : Nat) : Int), .int .i64 0]) := fun w => refSpan_yes 64 s w (by omega) hs hi
    have HB := refbox_ok ((64 : Nat) : Int) s s (s + (gap 64 - 1)) hs (by rw [gap_full]; omega) HS
    have HM := refMeets_ok a b c d ((64 : Nat) : Int) s _ _ _ _ HB
    have HH := refHolds_ok a b c d ((64 : Nat) : Int) s _ _ _ _ HB
    by_cases h : s + (gap 64 - 1) < z
    · obtain ⟨rfl, rfl⟩ := hl.uniq (tree_past hi h)
      exact refleast_past a b c d z _ s _ _ HS h
    · cases hm : meetsB a b c d (evX s) (evX (s + (gap 64 - 1))) (odY s) (odY (s + (gap 64 - 1)))
      · rw [hm] at HM
        obtain ⟨rfl, rfl⟩ := hl.uniq (tree_apart hs hi hm)
        exact refleast_apart a b c d z _ s _ _ HS h HM
      · have hh : holdsB a b c d (evX s) (evX (s + (gap 64 - 1))) (odY s) (odY (s + (gap 64 - 1))) = true := by
          rw [gap_full] at hm ⊢
          exact tree_full hm
        rw [hm] at HM
        rw [hh] at HH
        have e := hl.uniq (tree_whole hs hi hz (by omega) hh)
        rw [e.1, e.2]
        exact refleast_whole a b c d z _ s _ _ HS h HM HH
  | succ m ih =>
    intro n s hn hs hi v ok hl
    have hroom := lab_room hs hi
    have hg := gap_pos n
    have HS : Gives Try.prog 36 #[.agg (labc (n : Int) s)] (.tuple #[.int .u64 (s : Int), .int .u64 ((s + (gap n - 1) : Nat) : Int), .int .i64 0]) := fun w => refSpan_yes n s w (by omega) hs hi
    have HB := refbox_ok (n : Int) s s (s + (gap n - 1)) hs (by omega) HS
    have HM := refMeets_ok a b c d (n : Int) s _ _ _ _ HB
    have HH := refHolds_ok a b c d (n : Int) s _ _ _ _ HB
    by_cases h : s + (gap n - 1) < z
    · obtain ⟨rfl, rfl⟩ := hl.uniq (tree_past hi h)
      exact refleast_past a b c d z _ s _ _ HS h
    · cases hm : meetsB a b c d (evX s) (evX (s + (gap n - 1))) (odY s) (odY (s + (gap n - 1)))
      · rw [hm] at HM
        obtain ⟨rfl, rfl⟩ := hl.uniq (tree_apart hs hi hm)
        exact refleast_apart a b c d z _ s _ _ HS h HM
      · rw [hm] at HM
        cases hh : holdsB a b c d (evX s) (evX (s + (gap n - 1))) (odY s) (odY (s + (gap n - 1)))
        · rw [hh] at HH
          obtain ⟨v0, o0, l0⟩ := LeastAt.exists (InL a b c d (n + 1) (chB n s 0)) z
          obtain ⟨v1, o1, l1⟩ := LeastAt.exists (InL a b c d (n + 1) (chB n s 1)) z
          have G0 := ih (n + 1) (chB n s 0) (by omega) (chB_lt (by omega) hs hi) (chB_low (by omega) hi) v0 o0 l0
          have G1 := ih (n + 1) (chB n s 1) (by omega) (chB_lt (by omega) hs hi) (chB_low (by omega) hi) v1 o1 l1
          refine refleast_kids a b c d z n s _ _ HS h HM HH (fun k => chB n s k) (fun k => if k = 0 then v0 else v1) (fun k => if k = 0 then o0 else o1) v ok ?_ ?_ ?_ ?_ ?_
          · intro k hk
            exact refChild_bits n s k (by omega) hs hi hk
          · intro k hk
            rcases (by omega : k = 0 ∨ k = 1) with rfl | rfl
            · exact G0
            · exact G1
          · intro ho
            simp only [if_pos] at ho ⊢
            subst ho
            exact hl.uniq (tree_left (by omega) hi l0)
          · intro ho ho1
            simp at ho ho1
            subst ho ho1
            exact hl.uniq (tree_right (by omega) hi l0 l1)
          · intro ho ho1
            simp at ho ho1
            subst ho ho1
            have e := hl.uniq (tree_right (by omega) hi l0 l1)
            rcases l1 with ⟨e1, _⟩ | ⟨_, e1, _⟩
            · cases e1
            · rw [e1] at e; exact e
        · rw [hh] at HH
          have e := hl.uniq (tree_whole hs hi hz (by omega) hh)
          rw [e.1, e.2]
          exact refleast_whole a b c d z _ s _ _ HS h HM HH

theorem refLeast_any {a b c d z v : Nat} {ok : Bool} (hz : z < 18446744073709551616) (h : LeastAt (fun u => insideB a b c d u = true) z v ok) :
    Gives Try.prog 12 #[.agg (rectc a b c d), .int .u64 (z : Int)] (.tuple #[.int .u64 (v : Int), .bool ok]) := by
  intro w
  have HL := refleast_any a b c d z hz 64 0 0 rfl (by omega) (by decide +kernel) v ok (h.congr fun u hu => (inL_root hu).symm)
  rw [show labc ((0 : Nat) : Int) 0 = #[.int .i64 0, .int .u64 0] from rfl] at HL
  clear h hz
  go_enter Try.func12, Try.ntmps12
  go_upto_region 1 with (fail)
  have A1 := Lib.hid (Blk.new w (rectc a b c d) 25)
  have B1 := Lib.hid ((Below.refl w.heap.size w).alloc (Nat.le_refl _) (.cells (rectc a b c d) 25))
  generalize w.alloc (.cells (rectc a b c d) 25) = W at *
  go_wp2_with (first | (refine p_loadR rfl _ rfl _ rfl _ _ _ _ A1.out ?_) | (go_at_call 32; (with_reducible refine (HL.calls _).mono ?_); rintro e w1 ⟨rfl, hb⟩))
  go_ret2
  exact ⟨rfl, B1.out.trans (hb.mono B1.out.size)⟩
end Go.Proofs.Ytdhcilnkimmblaa
