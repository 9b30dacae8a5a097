/- The peers that a table knows. -/
import Derived.Test.YtfajfmcabpmchaaTabIs
import Derived.Test.YtfajfmcabpmchaaTabSort
import Derived.Test.YtfajfmcabpmchaaTabFirsts
import Derived.WalkMore
namespace Go.Proofs.Ytfajfmcabpmchaa
set_option maxRecDepth 100000
open Go Go.RowKit Go.Shelf Go.Sort
attribute [local go_sem] Oper.semAt_some

def filB (s x : Pe) : Bool := decide (0 ≤ x.1) && !decide (x.1 = s.1)
def fil (s : Pe) (l : List Pe) : List Pe := l.filter (filB s)
def knL (s p : Pe) (S L : List Pe) : List Pe := knF (fil s (p :: (S ++ L)))
theorem fil_snoc (s : Pe) (l : List Pe) (x : Pe) : fil s (l ++ [x]) = fil s l ++ if filB s x then [x] else [] := by
  unfold fil
  rw [List.filter_append]
  congr 1
  cases h : filB s x <;> simp [h]
/-- a plain region, in a round -/
theorem list_round {P : Program} {ops : Array Oper} {n l : Nat} {Q : Exit → Act → World → Prop} (hQ : ¬ LetsOut Q) : ∀ (os : List Oper) (a : Act) (w : World), (∀ o ∈ os, ∀ c, o.op ≠ .defer c) → wpList P ops Q os a w → wpListIn (Fence.wide.inRound l) n P ops Q os a w
  | [], _, _, _, h => h
  | o :: os, a, w, hd, h => by
    unfold wpListIn
    unfold wpList at h
    split
    · rename_i hw
      rw [if_pos hw] at h
      rcases h with h | h
      · exact oper_round (hd o (List.mem_cons_self ..)) (Oper.wp_mono (fun a w h2 => list_round hQ os a w (fun o ho => hd o (List.mem_cons_of_mem _ ho)) h2) h)
      · exact absurd h.2 hQ
    · rename_i hw
      rw [if_neg hw] at h
      exact ⟨fun _ _ => trivial, list_round hQ os _ _ (fun o ho => hd o (List.mem_cons_of_mem _ ho)) h⟩
theorem region_round {P : Program} {n l id : Nat} {Q : Exit → Act → World → Prop} {os : List Oper} {a : Act} {w : World} (hd : noDefer os.toArray = true) (hO : ∀ a w, ¬ Q .outgrown a w) (h : wpList P os.toArray Q os a w) : (Code.region id os.toArray false).wpIn (Fence.wide.inRound l) n P Q a w :=
  wpIn_region_lit (list_round (fun ⟨a, w, h⟩ => hO a w h) os a w (fun o ho c => by
    have := (Array.all_eq_true_iff_forall_mem.1 hd) o (by simpa using ho)
    intro e; rw [e] at this; cases this) h)
/-- a peer is put behind a row of one's own -/
theorem wpList_addG {w : World} {ops : Array Oper} {rest : List Oper} {o : Oper} {a : Act} {Q : Exit → Act → World → Prop} (hgd : o.guard = none) (s x : Operand)
    (ho : o.op = .call { callee := .builtin .append, args := #[s, x], argTypes := #[37, 37] }) (B : Nat) (v : Value) (L : List Pe) (n : Nat) (hs : a.eval s = v) (hown : w.ownsRow B 28 21 v n (flat L))
    (g c : Nat) (p : Pe) (hx : a.eval x = .slice (some ⟨g, 0, none⟩) 1 c) (hr : w.rangeAt g 0 (peC p)) (hl : n + 1 ≤ 2000000) (hbs : B ≤ w.heap.size)
    (h : ∀ v' w', w'.ownsRow B 28 21 v' (n + 1) (flat (L ++ [p])) → w.grownBy w' v.ownBlock → wpList Try.prog ops Q rest (a.put o.dst v') w') : wpList Try.prog ops Q (o :: rest) a w := by
  obtain ⟨i, hi', hq⟩ := Option.map_eq_some_iff.1 infoP
  simp only [Prod.mk.injEq] at hq
  obtain ⟨q1, q2, q3⟩ := hq
  refine wpList_append_own_at (w := w) hgd s x 37 ho B 28 i _ 21 32 Try.underlying37 hi' q1 q2 q3 (peA_size _) (by omega) v n (flat L) hs hown ⟨g, 0, none⟩ 1 c (flat [p]) hx (by rw [flat_length]; rfl) (fun j y hj => by rw [Addr.add_mid]; rw [flat_single] at hj; exact hr j y hj) (flat_one _) (by unfold maxLen; omega) (by omega) hbs ?_
  intro v' w' h1 h2 _ _
  rw [← flat_append] at h1
  exact h v' w' h1 h2
theorem lies_but {w w' : World} {v : Value} {L : List Pe} {b : Nat} (h : Lies w v L) (hg : w.grownBy w' (some b)) (hne : 0 < L.length → v.ownBlock ≠ some b) : Lies w' v L := by
  rcases h with h | ⟨b', o, c, rfl, h2, h3⟩
  · exact .inl h
  · refine .inr ⟨b', o, c, rfl, h2, ?_⟩
    by_cases he : L = []
    · subst he; intro j u hu; simp [flat] at hu
    · have hl := range_lt h3 (flat_ne he)
      intro j u hu
      exact (World.cell?_of_block (a := ⟨b', o + j, none⟩) (hg.block b' hl (fun e => hne (List.length_pos_iff.2 he) e))).trans (h3 j u hu)
theorem cell_but {w w' : World} {b k i : Nat} {v : Value} (h : w.cell? ⟨k, i, none⟩ = some v) (hg : w.grownBy w' (some b)) (hne : k ≠ b) : w'.cell? ⟨k, i, none⟩ = some v :=
  (World.cell?_of_block (a := ⟨k, i, none⟩) (hg.block k (World.block_lt_of_cell? w _ h) (by simpa using hne))).trans h
theorem EachR.but {c0 g m b : Nat} {vs : Nat → Value} {Ls : Nat → List Pe} {W W' : World} (h : EachR c0 g m vs Ls W) (hb : W.grownBy W' (some b)) (h1 : c0 ≠ b) (h2 : g ≠ b) (h3 : ∀ i, i < m → 0 < (Ls i).length → (vs i).ownBlock ≠ some b) : EachR c0 g m vs Ls W' :=
  ⟨cell_but h.c hb h1, fun i hi => cell_but (h.v i hi) hb h2, fun i hi => lies_but (h.l i hi) hb (h3 i hi)⟩
theorem lies_block {w : World} {v : Value} {L : List Pe} {b : Nat} (h : Lies w v L) (hn : 0 < L.length) (hb : w.heap.size ≤ b) : v.ownBlock ≠ some b := by
  obtain ⟨b', o, c, rfl, _, _, hlt⟩ := h.some hn
  intro e
  simp only [Value.ownBlock, Option.some.injEq] at e
  omega
/-- the world in which three rows are gone through -/
structure Ready3 (w W : World) (p : Pe) (u v : Value) (S L : List Pe) : Prop where
  bel : Below w.heap.size w W
  size : W.heap.size = w.heap.size + 3
  rd : EachR (w.heap.size + 2) (w.heap.size + 1) 3 (fun i => if i = 0 then .slice (some ⟨w.heap.size, 0, none⟩) 1 1 else if i = 1 then u else v) (fun i => if i = 0 then [p] else if i = 1 then S else L) W
theorem each_ready3 {w : World} (p : Pe) {u v : Value} {S L : List Pe} (hS : Lies w u S) (hL : Lies w v L) :
    Ready3 w (((w.alloc (.cells (peA p) 28)).alloc (.cells #[.slice (some ⟨w.heap.size, 0, none⟩) 1 1, u, v] 37)).alloc (.cells #[.slice (some ⟨w.heap.size + 1, 0, none⟩) 3 3] 91)) p u v S L := by
  have B1 := (Below.refl w.heap.size w).alloc (Nat.le_refl _) (.cells (peA p) 28)
  have B2 := B1.alloc (by simp) (.cells #[.slice (some ⟨w.heap.size, 0, none⟩) 1 1, u, v] 37)
  have B3 := B2.alloc (by simp; omega) (.cells #[.slice (some ⟨w.heap.size + 1, 0, none⟩) 3 3] 91)
  refine ⟨B3, by simp, ?_, fun i hi => ?_, fun i hi => ?_⟩
  · have := (Blk.new ((w.alloc (.cells (peA p) 28)).alloc (.cells #[.slice (some ⟨w.heap.size, 0, none⟩) 1 1, u, v] 37)) #[.slice (some ⟨w.heap.size + 1, 0, none⟩) 3 3] 91).cell 0
    rwa [World.size_alloc, World.size_alloc] at this
  · have := ((Blk.new (w.alloc (.cells (peA p) 28)) #[.slice (some ⟨w.heap.size, 0, none⟩) 1 1, u, v] 37).alloc (.cells #[.slice (some ⟨w.heap.size + 1, 0, none⟩) 3 3] 91)).cell i
    rw [World.size_alloc] at this
    rw [this]
    rcases i with _ | _ | _ | i
    · rfl
    · rfl
    · rfl
    · omega
  · rcases i with _ | _ | _ | i
    · refine .inr ⟨w.heap.size, 0, 1, rfl, Nat.le_refl _, ?_⟩
      have := blk_range (((Blk.new w (peA p) 28).alloc (.cells #[.slice (some ⟨w.heap.size, 0, none⟩) 1 1, u, v] 37)).alloc (.cells #[.slice (some ⟨w.heap.size + 1, 0, none⟩) 3 3] 91))
      rw [show flat (if 0 = 0 then [p] else if 0 = 1 then S else L) = peC p from flat_single p]
      exact this
    · exact hS.bel B3
    · exact hL.bel B3
    · omega
/-- what is known while a row grows, whose slice stands in block b *)-/
structure GrowR (W0 W : World) (b : Nat) (l : List Pe) : Prop where
  gr : W0.grownBy W (some b)
  ex : ∃ v, Blk W b #[v] 37 ∧ W.ownsRow W0.heap.size 28 21 v l.length (flat l)
theorem GrowR.other {W0 W W' : World} {b : Nat} {l : List Pe} {row : Option Nat} (h : GrowR W0 W b l) (hb : b < W0.heap.size) (hg : W.grownBy W' row) (hr : ∀ r, row = some r → W0.heap.size ≤ r ∧ ∃ o : Obj, W.heap[r]? = some o ∧ o.isCells = false) : GrowR W0 W' b l := by
  obtain ⟨v, h1, h2⟩ := h.ex
  have hsz := h.gr.size
  refine ⟨⟨hg.os.trans h.gr.os, hg.tape.trans h.gr.tape, hg.output.trans h.gr.output, Nat.le_trans hsz hg.size, fun i hi hne => ?_⟩, v, ?_, ?_⟩
  · exact (hg.block i (by omega) (fun e => by have := (hr i e.symm).1; omega)).trans (h.gr.block i hi hne)
  · exact (hg.block b h1.lt (fun e => by have := (hr b e.symm).1; omega)).trans h1
  · refine own_keep h2 fun k hk => hg.block k (h2.lt k hk).2 fun e => ?_
    obtain ⟨_, o, ho, hc⟩ := hr k e.symm
    rcases h2.2 with ⟨rfl, _⟩ | ⟨g, cap, cur, rfl, _, hg2, _⟩
    · cases hk
    · simp only [Value.ownBlock, Option.some.injEq] at hk
      subst hk
      rw [hg2] at ho
      cases ho
      cases hc
theorem GrowR.bel {W0 W W' : World} {b : Nat} {l : List Pe} (h : GrowR W0 W b l) (hb : b < W0.heap.size) (hg : Below W.heap.size W W') : GrowR W0 W' b l := h.other hb (bel_grown hg none) (fun r e => by cases e)
theorem own_one {w : World} {B e size n : Nat} {v : Value} {xs : List Value} (h : w.ownsRow B e size v n xs) : v.oneCell' = true := by
  rcases h.2 with ⟨rfl, _⟩ | ⟨g, cap, cur, rfl, _⟩ <;> rfl
theorem grow_blk {w w' : World} {B e size n b : Nat} {v : Value} {xs : List Value} {cs : Array Value} {t : TypeId} (hb : Blk w b cs t) (h : w.ownsRow B e size v n xs) (hg : w.grownBy w' v.ownBlock) (hlt : b < B) : Blk w' b cs t :=
  (hg.block b hb.lt (fun e => by have := (h.lt b e.symm).1; omega)).trans hb
theorem grow_step {W0 W w2 : World} {b : Nat} {l : List Pe} {x : Pe} {o : Obj} {v v' : Value} (h : GrowR W0 W b l) (hb : b < W0.heap.size) (hO : (W.alloc o).ownsRow W0.heap.size 28 21 v l.length (flat l))
    (hg : (W.alloc o).grownBy w2 v.ownBlock) (hO2 : w2.ownsRow W0.heap.size 28 21 v' (l.length + 1) (flat (l ++ [x]))) : KeepsFrom W0.heap.size W (w2.setRow b #[v']) ∧ GrowR W0 (w2.setRow b #[v']) b (l ++ [x]) := by
  obtain ⟨v0, hv0, _⟩ := h.ex
  have hsz := h.gr.size
  have B1 := (Below.refl W.heap.size W).alloc (Nat.le_refl _) o
  have hrow : ∀ (j : Nat) (o' : Obj), v.ownBlock = some j → (W.alloc o).heap[j]? = some o' → o'.isCells = true := fun j o' hj ho => by
    rcases hO.2 with ⟨rfl, _⟩ | ⟨g, cap, cur, rfl, _, hg2, _⟩
    · cases hj
    · simp only [Value.ownBlock, Option.some.injEq] at hj
      subst hj
      rw [hg2] at ho
      cases ho; rfl
  have K1 : KeepsOthers W w2 := (KeepsOthers.alloc W o).trans (KeepsOthers.of_grownBy hg hrow)
  have hsz2 : W0.heap.size ≤ w2.heap.size := Nat.le_trans hsz K1.size
  have hv2 : Blk w2 b #[v0] 37 := (hg.block b (Blk.lt (hv0.below B1 hv0.lt)) (fun e => by have := (hO.lt b e.symm).1; omega)).trans (hv0.below B1 hv0.lt)
  refine ⟨⟨Nat.le_trans K1.size (by rw [World.setRow]; simp), fun k o' hk ho hc => ?_⟩, ⟨?_, ?_, ?_, ?_, ?_⟩, v', Blk.setRow hv2 _, ?_⟩
  · rw [Go.setRow_other _ _ k _ (by omega)]
    exact K1.same k o' ho hc
  · exact (show (w2.setRow b #[v']).os = w2.os from rfl).trans (hg.os.trans h.gr.os)
  · exact (show (w2.setRow b #[v']).tape = w2.tape from rfl).trans (hg.tape.trans h.gr.tape)
  · exact (show (w2.setRow b #[v']).output = w2.output from rfl).trans (hg.output.trans h.gr.output)
  · exact Nat.le_trans hsz2 (by rw [World.setRow]; simp)
  · intro i hi hne
    rw [Go.setRow_other _ _ i _ (fun e => hne (by rw [e]))]
    have h1 : i < (W.alloc o).heap.size := by rw [World.size_alloc]; omega
    exact (hg.block i h1 (fun e => by have := (hO.lt i e.symm).1; omega)).trans ((B1.block i (by omega)).trans (h.gr.block i hi hne))
  · rw [List.length_append]
    exact own_keep hO2 fun k hk => Go.setRow_other _ _ k _ (fun e => by have := (hO2.lt k hk).1; omega)
theorem insertion_nil (w : World) : Calls Try.prog 94 #[nilS, .int .i64 0, .int .i64 0, cmpF] w fun r w' => r = .returned (.tuple #[]) ∧ w = w' := by
  go_enter Try.func94, Try.ntmps94
  go_wp2
  refine wp_loop_rounds 1 ?_
  rw [rounds_succ]
  go_wp2
  exact bodyPost_end (results_none rfl _ _ _) rfl ⟨rfl, rfl⟩
theorem stable_nil (w : World) : Calls Try.prog 91 #[nilS, .int .i64 0, cmpF] w fun r w' => r = .returned (.tuple #[]) ∧ w = w' := by
  have HC := Lib.hid insertion_nil
  go_enter Try.func91, Try.ntmps91
  go_wp2
  refine wp_loop_rounds 1 ?_
  rw [rounds_succ]
  go_wp2_with (go_at_call 94; (with_reducible refine (HC.out _).mono ?_); rintro r w2 ⟨rfl, rfl⟩)
  refine wp_loop_rounds 1 ?_
  rw [rounds_succ]
  go_wp2
  exact bodyPost_end (results_none rfl _ _ _) rfl ⟨rfl, rfl⟩
theorem sortStable_nil (w : World) : Calls Try.prog 75 #[nilS, cmpF] w fun r w' => r = .returned (.tuple #[]) ∧ w = w' := by
  have HC := Lib.hid stable_nil
  go_enter Try.func75, Try.ntmps75
  go_wp2_with (go_at_call 91; (with_reducible refine (HC.out _).mono ?_); rintro r w2 ⟨rfl, rfl⟩)
  exact bodyPost_end (results_none rfl _ _ _) rfl ⟨rfl, rfl⟩
theorem compact_nil (w : World) : Calls Try.prog 78 #[nilS, eqF] w fun r w' => r = .returned nilS ∧ w = w' := by
  go_enter Try.func78, Try.ntmps78
  go_wp2
  go_ret
  exact ⟨rfl, rfl⟩
theorem bel_but {B b : Nat} {w W W' : World} (h : Below B w W) (hg : W.grownBy W' (some b)) (hb : B ≤ b) (hs : B ≤ W.heap.size) : Below B w W' :=
  ⟨hg.os.trans h.os, hg.tape.trans h.tape, hg.output.trans h.output, Nat.le_trans h.size hg.size, fun i hi => (hg.block i (by omega) (by simp; omega)).trans (h.block i hi)⟩
theorem cells_but {w w' : World} {g b : Nat} {s p : Pe} {u v : Value} (h : TB w g s p u v) (hg : w.grownBy w' (some b)) (hne : g ≠ b) : TB w' g s p u v := (hg.block g h.lt (by simpa using hne)).trans h
set_option maxHeartbeats 8000000 in
theorem known_own {w : World} {s p : Pe} {u v : Value} {S L : List Pe} (hS : Lies w u S) (hF : Lies w v L) (hn : S.length + L.length ≤ 900) :
    Calls Try.prog 50 #[.agg (tabA s p u v)] w fun e w' => ∃ r, e = .returned r ∧ Lies w' r (knL s p S L) ∧ (∀ k, r.ownBlock = some k → w.heap.size ≤ k) ∧ Below w.heap.size w w' := by
  have B0 := ((Below.refl w.heap.size w).alloc (Nat.le_refl _) (.cells (tabA s p u v) 43)).alloc (by simp) (.cells #[.slice none 0 0] 37)
  have T0 : TB ((w.alloc (.cells (tabA s p u v) 43)).alloc (.cells #[.slice none 0 0] 37)) w.heap.size s p u v := Blk.alloc (Blk.new ..) _
  have R0 : Blk ((w.alloc (.cells (tabA s p u v) 43)).alloc (.cells #[.slice none 0 0] 37)) (w.heap.size + 1) #[.slice none 0 0] 37 := by
    have := Blk.new (w.alloc (.cells (tabA s p u v) 43)) #[.slice none 0 0] 37
    rwa [World.size_alloc] at this
  have hsz : ((w.alloc (.cells (tabA s p u v) 43)).alloc (.cells #[.slice none 0 0] 37)).heap.size = w.heap.size + 2 := by simp
  have HNB : Hid ((0 < S.length → u.ownBlock ≠ some (w.heap.size + 1)) ∧ (0 < L.length → v.ownBlock ≠ some (w.heap.size + 1))) := ⟨fun h => lies_block hS h (by omega), fun h => lies_block hF h (by omega)⟩
  obtain ⟨au, cu, rfl⟩ := hS.form
  obtain ⟨av, cv, rfl⟩ := hF.form
  have HS := Lib.hid (hS.bel B0)
  have HL := Lib.hid (hF.bel B0)
  have HNN := Lib.hid hn
  clear hS hF hn
  refine enterM Try.func50 rfl ?_
  simp only [Try.ntmps50, List.size_toArray, List.length_cons, List.length_nil, Nat.reduceAdd, Nat.reduceSub, Array.replicate_succ, Array.replicate_zero, List.push_toArray, List.append_toArray, List.nil_append, List.cons_append]
  go_upto_region 2 with (fail)
  generalize (w.alloc _).alloc _ = W at *
  generalize hg : w.heap.size = g at *
  have hsz2 := hsz
  have c1 := T0.cu
  have c2 := T0.cv
  have P1 := T0.pred
  have b1 := (Below.refl W.heap.size W).alloc (Nat.le_refl _) (.cells (peA p) 28)
  have c1 := cell_bel c1 b1
  have c2 := cell_bel c2 b1
  clear b1
  have e0 := each_ready3 p HS.out HL.out
  rw [hsz] at e0
  have E0 := Lib.hid e0
  clear e0
  have TH := Lib.hid T0
  have RH := Lib.hid R0
  have BH := Lib.hid B0
  clear T0 R0 B0
  go_upto_block 9 with (first
    | (refine p_midP rfl _ rfl g 21 rfl p P1 ?_)
    | (refine p_sliceP rfl _ rfl p rfl ?_)
    | (refine p_slices3 rfl _ _ _ rfl _ _ _ _ _ _ _ _ _ rfl rfl rfl ?_)
    | (go_at_call 43; (with_reducible refine (each_any _ _ _ _).mono ?_); rintro e w2 ⟨rfl, rfl⟩))
  obtain ⟨eb, es, er⟩ := E0.out
  have hT3 := TH.out.bel eb
  have hR3 := RH.out.below eb RH.out.lt
  have BW := belTo hg BH.out eb
  rw [hsz2] at es er
  (try simp only [World.size_alloc]); (try simp only [hsz2])
  clear E0 HS HL c1 c2 P1 TH RH BH hsz hsz2 eb
  generalize ((W.alloc _).alloc _).alloc _ = W3 at *
  have HT3 := Lib.hid hT3
  have HR3 := Lib.hid hR3
  have HE3 := Lib.hid er
  have HBW := Lib.hid BW
  clear hT3 hR3 er BW
  have hcat : catN (fun i => if i = 0 then [p] else if i = 1 then S else L) 3 = p :: (S ++ L) := by
    show ([] ++ [p] ++ S) ++ L = _
    rw [List.nil_append, List.append_assoc]; rfl
  refine (wpIn_wide (n := 5)).1 ?_
  refine range_in rfl (by omega) (lb := #[.pointer (some ⟨g + 2 + 2, 0, none⟩)]) rfl trivial (catN (fun i => if i = 0 then [p] else if i = 1 then S else L) 3) _ (goes_each (n := 4) (by omega) (g + 2 + 2) (g + 2 + 1) 3 _ _ (by omega) (fun i _ => by
    have := HNN.out
    rcases i with _ | _ | i
    · exact Nat.le_trans (Nat.le_refl 1) (by omega)
    · exact (by omega : S.length ≤ 1000000)
    · exact (by omega : L.length ≤ 1000000)))
    (fun k W => GrowR W3 W (g + 1) (fil s ((p :: (S ++ L)).take k)))
    (fun _ => False)
    (fun k W W' row hI hgr hr => hI.other (by omega) hgr hr) (fun _ W W' row hI hgr hr => hI)
    (fun k W hI => HE3.out.but hI.gr (by omega) (by omega) (fun i hi h0 => by
      rcases i with _ | _ | _ | i
      · intro e
        simp only [Value.ownBlock, Option.some.injEq, if_true] at e
        omega
      · exact HNB.out.1 h0
      · exact HNB.out.2 h0
      · omega)) ⟨World.grownBy.refl _ _, _, HR3.out, World.ownsRow_nil _ _ _ _⟩ ?a1 ?assign ?body ?done ?stop
  case assign =>
    intro l q1 x W K hq1 hK
    simp only [List.setIfInBounds_toArray, List.set_cons_succ, List.set_cons_zero]
    subst hq1
    refine wpIn_region_lit ?_
    refine in_round rfl (fun c e => by cases e) (wp_allocP rfl ?_)
    simp only [Act.put, List.setIfInBounds_toArray, List.set_cons_succ, List.set_cons_zero]
    refine in_storeP rfl _ _ rfl x rfl rfl (peA_size _) ?_
    refine wpListIn_nil ?_
    generalize hq1 : W.heap.size = q1 at *
    exact hK
  case body =>
    rintro l k1 q1 x W hx hP hq1 hI
    rw [hcat] at hx
    have hT : TB W g s p _ _ := (cells_but HT3.out hI.gr (by omega))
    have c0 := hT.sA
    have d0 := hP.A
    have d1 := hP.range
    have more : filB s x = true → fil s ((p :: (S ++ L)).take (k1 + 1)) = fil s ((p :: (S ++ L)).take k1) ++ [x] := fun h => by
      rw [List.take_add_one, hx]; simp only [Option.toList]; rw [fil_snoc, if_pos h]
    have less : filB s x = false → fil s ((p :: (S ++ L)).take (k1 + 1)) = fil s ((p :: (S ++ L)).take k1) := fun h => by
      rw [List.take_add_one, hx]; simp only [Option.toList]; rw [fil_snoc, if_neg (by rw [h]; simp), List.append_nil]
    have HM := Lib.hid more
    have HLe := Lib.hid less
    have HI := Lib.hid hI
    clear more less hI hx hT hcat
    have no : filB s x = false → ∀ a : Act, rnd W3.heap.size (fun k W => GrowR W3 W (g + 1) (fil s ((p :: (S ++ L)).take k))) (fun _ => False) (k1 + 1) W .normal a W := fun h _ => ⟨KeepsFrom.refl _ _, by show GrowR W3 W (g + 1) _; rw [HLe.out h]; exact HI.out⟩
    refine wpIn_block (wpIn_seq ?_)
    by_cases h1 : 0 ≤ x.1
    · by_cases h2 : x.1 = s.1
      · have hf : filB s x = false := by unfold filB; rw [decide_eq_true h2]; simp
        have HN := Lib.hid (no hf)
        have e1 : (x.1 != s.1) = false := by simpa using h2
        clear no HM HLe hf
        generalize x.1 = xa at *
        generalize s.1 = sa at *
        refine region_round (by kernel_rfl) (fun _ _ h => h) ?_
        go_wp2
        refine wpIn_cond_false rfl (wpIn_skip ?_)
        simp only [Exit.inBlock]
        exact HN.out _
      · have hf : filB s x = true := by unfold filB; rw [decide_eq_true h1, decide_eq_false h2]; rfl
        have HF := Lib.hid (HM.out hf)
        have e1 : (x.1 != s.1) = true := by simpa using h2
        obtain ⟨v, hv, hO⟩ := HI.out.ex
        have X1 := (PB.new W x).range
        have B1 := (Below.refl W.heap.size W).alloc (Nat.le_refl _) (.cells (peA x) 28)
        have hO1 := own_bel hO B1
        have hv1 := hv.below B1 hv.lt
        have hle : (fil s ((p :: (S ++ L)).take k1)).length + 1 ≤ 2000000 := by
          have h1 := List.length_filter_le (filB s) ((p :: (S ++ L)).take k1)
          have h2 : ((p :: (S ++ L)).take k1).length ≤ (p :: (S ++ L)).length := by rw [List.length_take]; omega
          rw [List.length_cons, List.length_append] at h2
          have := HNN.out
          unfold fil
          omega
        have hszW : W3.heap.size ≤ W.heap.size := HI.out.gr.size
        have d2 := hv.cell 0
        clear no HM HLe hf hv hO
        have HO := Lib.hid hO1
        have HV := Lib.hid hv1
        clear hO1 hv1
        refine region_round (by kernel_rfl) (fun _ _ h => h) ?_
        go_wp2
        refine wpIn_cond_true rfl ?_
        refine region_round (by kernel_rfl) (fun _ _ h => h) ?_
        go_wp2_with (first
          | (refine p_midP rfl _ rfl q1 0 rfl x d1 ?_)
          | (refine p_sliceP rfl _ rfl x rfl ?_)
          | (refine wpList_addG rfl _ _ rfl W3.heap.size v _ _ rfl HO.out W.heap.size 1 x rfl X1 hle (by rw [World.size_alloc]; omega) ?_; intro v' w2 ho2 hg2; have HO2 := Lib.hid ho2; have HG2 := Lib.hid hg2; have HV2 := Lib.hid (grow_blk HV.out HO.out hg2 (by omega)); clear ho2 hg2)
          | (refine p_into rfl 37 _ _ rfl (g + 1) 0 rfl v' rfl #[v] 37 HV2.out (by rw [one_cells (own_one HO2.out)]; exact sizeS) (by rw [one_cells (own_one HO2.out)]; exact Nat.le_refl _) (by rw [one_cells (own_one HO2.out)]; simp [own_one HO2.out]) #[v'] (by rw [one_cells (own_one HO2.out)]; rfl) ?_))
        obtain ⟨k1', k2'⟩ := grow_step (o := .cells (peA x) 28) HI.out (by omega : g + 1 < W3.heap.size) HO.out HG2.out HO2.out
        refine ⟨k1', ?_⟩
        show GrowR W3 _ (g + 1) (fil s ((p :: (S ++ L)).take (k1 + 1)))
        rw [HF.out]; exact k2'
    · have hf : filB s x = false := by unfold filB; rw [decide_eq_false h1]; rfl
      have HN := Lib.hid (no hf)
      clear no HM HLe hf
      refine region_round (by kernel_rfl) (fun _ _ h => h) ?_
      go_wp2
      refine wpIn_cond_false rfl (wpIn_skip ?_)
      simp only [Exit.inBlock]
      first | exact HN.out _ | (rw [← es]; exact HN.out _)
  case done =>
    rintro D W hD hI hK
    rw [hcat, List.take_length] at hI
    obtain ⟨v, hv, hO⟩ := hI.ex
    have hgw : Below g w W := bel_but HBW.out hI.gr (by omega) (by omega)
    have hsW := hI.gr.size
    have c0 := hv.cell 0
    have hlen : (fil s (p :: (S ++ L))).length ≤ 1000 := by
      have h1 := List.length_filter_le (filB s) (p :: (S ++ L))
      rw [List.length_cons, List.length_append] at h1
      have := HNN.out
      unfold fil
      omega
    have hknl : knL s p S L = knF (fil s (p :: (S ++ L))) := rfl
    generalize fil s (p :: (S ++ L)) = M at *
    have HKN := Lib.hid hknl
    have HGW := Lib.hid hgw
    have HK := Lib.hid hK
    clear hknl hgw hK hI hcat
    rcases own_dat hO with ⟨rfl, rfl⟩ | ⟨b, c, rfl, hc, hBb, hD1⟩
    · have hsn := fun w => sortStable_nil w
      have hcn := fun w => compact_nil w
      clear hO hv
      go_wp2_with (first
        | (go_at_call 75; (with_reducible refine (hsn _).mono ?_); rintro r w4 ⟨rfl, rfl⟩)
        | (go_at_call 78; (with_reducible refine (hcn _).mono ?_); rintro r w5 ⟨rfl, rfl⟩))
      exact postM1 D HK.out (results_tmp rfl _ _ _) ⟨_, rfl, by rw [HKN.out]; exact lies_nil _, fun k h => (by simp [Value.ownBlock] at h), by rw [hg]; exact bel_put HGW.out (by omega)⟩
    · have hS1 := Lib.hid (sortStable_any (c := c) hD1 hlen)
      have hbD : b ≠ D := fun e => by
        rcases hO.2 with ⟨h1, _⟩ | ⟨g', cap, cur, h1, _, h2, _⟩
        · cases h1
        · simp only [Value.slice.injEq, Option.some.injEq, Addr.mk.injEq, and_true] at h1
          rw [← h1.1, e, HK.out] at h2
          cases h2
      have hbW := hD1.lt
      clear hO hD1
      go_upto_region 7 with (go_at_call 75; (with_reducible refine hS1.out.mono ?_); rintro r w4 ⟨g2, ⟨rfl, hD4, hG4⟩, hS4⟩; have HD4 := Lib.hid hD4; have HG4 := Lib.hid hG4; have HS4 := Lib.hid hS4; clear hD4 hG4 hS4)
      have c4 := cell_but c0 HG4.out (by omega)
      have hC := Lib.hid (compact_any (c := c) HD4.out hlen hc)
      clear c0
      go_wp2_with (go_at_call 78; (with_reducible refine hC.out.mono ?_); rintro r w5 ⟨k, g3, rfl, hk5, hD5, hG5, hE5⟩; have HD5 := Lib.hid hD5; have HG5 := Lib.hid hG5; have HE5 := Lib.hid hE5; clear hD5 hG5 hE5)
      have hDW : D < W.heap.size := (Array.getElem?_eq_some_iff.1 HK.out).1
      have k4 := (HG4.out.block D hDW (by simpa using hbD.symm)).trans HK.out
      have k5 := (HG5.out.block D (Array.getElem?_eq_some_iff.1 k4).1 (by simpa using hbD.symm)).trans k4
      have hso : SO M (seg g2 0 M.length) := by have := HS4.out; rwa [seg_fun] at this
      refine postM1 D k5 (results_tmp rfl _ _ _) ⟨_, rfl, ?_, fun q h => by have h2 : (some b : Option Nat) = some q := h; rw [Option.some.injEq] at h2; omega, ?_⟩
      · have h1 := HD5.out.lies (c := c) (by omega)
        rw [HE5.out, cpt_kn hso, ← HKN.out] at h1
        have hkl : k = (knL s p S L).length := by
          have h2 := congrArg List.length HE5.out
          rw [seg_length, cpt_kn hso, ← HKN.out] at h2; omega
        exact lies_but h1 (grownBy_putObj' w5 D _) (fun _ => by simpa [Value.ownBlock] using hbD)
      · rw [hg]
        exact bel_put (bel_but (bel_but HGW.out HG4.out (by omega) (by omega)) HG5.out (by omega) (by have := HG4.out.size; omega)) (by omega)
  case stop => exact fun _ _ _ h _ => h.elim
theorem known_any {w : World} {s p : Pe} {u v : Value} {S L : List Pe} (hS : Lies w u S) (hF : Lies w v L) (hn : S.length + L.length ≤ 900) :
    Calls Try.prog 50 #[.agg (tabA s p u v)] w fun e w' => ∃ r, e = .returned r ∧ Lies w' r (knL s p S L) ∧ Below w.heap.size w w' :=
  (known_own hS hF hn).mono fun _ _ ⟨r, h1, h2, _, h3⟩ => ⟨r, h1, h2, h3⟩
end Go.Proofs.Ytfajfmcabpmchaa
