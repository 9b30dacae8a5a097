/- A walk over tables: what it goes through, and what it answers. -/
import Derived.Test.YtfajfmcabpmchaaWalBy
import Derived.WalkMore
namespace Go.Proofs.Ytfajfmcabpmchaa
set_option maxRecDepth 100000
open Go Go.RowKit Go.Sort

/-- the walk goes on at a table: n hops more at most -/
def wkV (X : List Tv) (fp : Tv → Pe) (dn : Tv → Bool) (nx : Tv → Pe × Bool) : Nat → Tv → List Int → Rou
  | 0, x, H => if dn x = true then ((H, fp x), 0) else if (nx x).2 = true then badR 2 else badR 7
  | n + 1, x, H => if dn x = true then ((H, fp x), 0) else if (nx x).2 = true then
      (match findV X (nx x).1.1 with
      | none => badR 5
      | some y => wkV X fp dn nx n y (H ++ [(nx x).1.1])) else badR 7
section
variable {X : List Tv} {fp : Tv → Pe} {dn : Tv → Bool} {nx : Tv → Pe × Bool} {x y : Tv}
theorem wv_done (h : dn x = true) (n : Nat) (H : List Int) : wkV X fp dn nx n x H = ((H, fp x), 0) := by
  cases n <;> rw [wkV, if_pos h]
theorem wv_none (h : dn x = false) (h2 : (nx x).2 = false) (n : Nat) (H : List Int) : wkV X fp dn nx n x H = badR 7 := by
  cases n <;> rw [wkV, if_neg (by rw [h]; simp), if_neg (by rw [h2]; simp)]
theorem wv_lim (h : dn x = false) (h2 : (nx x).2 = true) (H : List Int) : wkV X fp dn nx 0 x H = badR 2 := by
  rw [wkV, if_neg (by rw [h]; simp), if_pos h2]
theorem wv_off (h : dn x = false) (h2 : (nx x).2 = true) (h3 : findV X (nx x).1.1 = none) (n : Nat) (H : List Int) : wkV X fp dn nx (n + 1) x H = badR 5 := by
  rw [wkV, if_neg (by rw [h]; simp), if_pos h2, h3]
theorem wv_go (h : dn x = false) (h2 : (nx x).2 = true) (h3 : findV X (nx x).1.1 = some y) (n : Nat) (H : List Int) : wkV X fp dn nx (n + 1) x H = wkV X fp dn nx n y (H ++ [(nx x).1.1]) := by
  rw [wkV, if_neg (by rw [h]; simp), if_pos h2, h3]
end
theorem wkV_T (X : List Tv) (id : Nat) : ∀ (n : Nat) (x : Tv) (H : List Int), wkV X (fun x => firstP x.t.s x.t.S) (fun x => doneB x.t id) (fun x => nextT x.t id) n x H = wkG (tabsOf X) id n x.t H := by
  intro n
  induction n with
  | zero => intro x H; rw [wkV, wkG]
  | succ n ih =>
    intro x H
    rw [wkV, wkG, findV_T]
    cases findV X (nextT x.t id).1.1 with
    | none => rfl
    | some y => simp only [Option.map_some]; rw [ih]
/-- what a walk answers in memory -/
def RouP (B : Nat) (R : Rou) (e : Ending) (w' : World) : Prop := ∃ h, e = .returned (.tuple #[.agg (rtA h R.1.2), .int .i64 R.2]) ∧ w'.ownsRow B 3 1 h R.1.1.length (ints R.1.1)
theorem ints_none (w : World) (B : Nat) : w.ownsRow B 3 1 nilS 0 (ints []) := ⟨rfl, .inl ⟨rfl, rfl⟩⟩
/-- while a walk goes on -/
structure WkW (g mb ga gr : Nat) (w wr : World) (X : List Tv) (id : Nat) (x : Tv) (h : Value) (H : List Int) : Prop where
  bel : Below g w wr
  i : At wr g id
  r : RB wr (g + 1) nilS (0, 0)
  m : OwnsV wr mb X.length (mapV X)
  t : TB wr ga x.t.s x.t.p x.u x.v
  q : RB wr gr h (0, 0)
  o : wr.ownsRow (g + 2) 3 1 h H.length (ints H)
  ne : h.ownBlock ≠ some gr ∧ h.ownBlock ≠ some ga ∧ h.ownBlock ≠ some mb
  ord : g + 2 ≤ mb ∧ mb < ga ∧ ga < gr
section
variable {g mb ga gr : Nat} {w wr : World} {X : List Tv} {id : Nat} {x : Tv} {h : Value} {H : List Int}
theorem WkW.bel2 {w' : World} (k : WkW g mb ga gr w wr X id x h H) (hg : w.heap.size = g) (hb : Below wr.heap.size wr w') : WkW g mb ga gr w w' X id x h H :=
  ⟨belTo hg k.bel hb, k.i.below hb, k.r.bel hb, k.m.bel hb, k.t.bel hb, k.q.bel hb, own_bel k.o hb, k.ne, k.ord⟩
theorem WkW.at_ (k : WkW g mb ga gr w wr X id x h H) (y : Tv) : WkW g mb ga gr w (wr.setRow ga (tvA y)) X id y h H := by
  obtain ⟨o1, o2, o3⟩ := k.ord
  exact ⟨bel_setRow k.bel (by omega) _, Blk.setRow_other k.i _ _ (by omega), k.r.row _ (by omega), k.m.row (by omega) _, k.t.set _ _ _ _, k.q.row _ (by omega),
    own_keep k.o fun j hj => Go.setRow_other _ _ _ _ (fun e => k.ne.2.1 (by rw [hj, e])), k.ne, k.ord⟩
theorem WkW.hop {w2 : World} {h' : Value} {a : Int} {o : Obj} (k : WkW g mb ga gr w wr X id x h H) (hg : w.heap.size = g) (h1 : w2.ownsRow (g + 2) 3 1 h' (H.length + 1) (ints (H ++ [a]))) (h2 : (wr.alloc o).grownBy w2 h.ownBlock)
    (h3 : h'.ownBlock = h.ownBlock ∨ h'.ownBlock = some (wr.alloc o).heap.size) : WkW g mb ga gr w (w2.setRow gr (rtA h' (0, 0))) X id x h' (H ++ [a]) := by
  obtain ⟨o1, o2, o3⟩ := k.ord
  have ha := k.bel2 hg ((Below.refl wr.heap.size wr).alloc (Nat.le_refl _) o)
  obtain ⟨n1, n2, n3⟩ := ha.ne
  have lq := ha.q.lt
  have hlo : ∀ j, h.ownBlock = some j → g + 2 ≤ j := fun j hj => (ha.o.lt j hj).1
  have n' : h'.ownBlock ≠ some gr ∧ h'.ownBlock ≠ some ga ∧ h'.ownBlock ≠ some mb := by
    rcases h3 with e | e
    · rw [e]; exact ha.ne
    · rw [e]
      refine ⟨?_, ?_, ?_⟩ <;> (rw [ne_eq, Option.some.injEq]; omega)
  have same : ∀ j, j < (wr.alloc o).heap.size → h.ownBlock ≠ some j → w2.heap[j]? = (wr.alloc o).heap[j]? := fun j hj hn => h2.block j hj (fun e => hn e.symm)
  have b2 : Below g w w2 := ⟨h2.os.trans ha.bel.os, h2.tape.trans ha.bel.tape, h2.output.trans ha.bel.output, Nat.le_trans ha.bel.size h2.size, fun j hj =>
    (same j (by omega) (fun e => by have := hlo j e; omega)).trans (ha.bel.block j hj)⟩
  have q2 : RB w2 gr h (0, 0) := (same gr lq n1).trans ha.q
  refine ⟨bel_setRow b2 (by omega) _, Blk.setRow_other (g := g) (g' := gr) ((same g (by omega) (fun e => by have := hlo g e; omega)).trans ha.i) _ (by omega), ?_, ?_, ?_, q2.set _ _, ?_, n', k.ord⟩
  · exact RB.row (g := g + 1) ((same (g + 1) (by omega) (fun e => by have := hlo (g + 1) e; omega)).trans ha.r) _ (by omega)
  · exact (ha.m.same (same mb (by omega) n3)).row (by omega) _
  · exact Blk.setRow_other (g := ga) (g' := gr) ((same ga (by omega) n2).trans ha.t) _ (by omega)
  · rw [List.length_append]
    exact own_keep h1 fun j hj => Go.setRow_other _ _ _ _ (fun e => n'.1 (by rw [hj, e]))
end
theorem by_true {B : Nat} {X : List Tv} {e : Ending} {w' : World} (h : ByP B X true e w') : ∃ mb, e = .returned (.tuple #[.map (some mb), .bool true]) ∧ OwnsV w' mb X.length (mapV X) ∧ B ≤ mb := by
  rcases h with ⟨h, _⟩ | ⟨_, h⟩
  · cases h
  · exact h
theorem p_appI {w : World} {k : Int} {ops : Array Oper} {rest : List Oper} {o : Oper} {a : Act} {Q : Exit → Act → World → Prop} (hgd : o.guard = none) (s x : Operand)
    (ho : o.op = .call { callee := .builtin .append, args := #[s, x], argTypes := #[26, 26] }) (B : Nat) (v : Value) (H : List Int) (hs : a.eval s = v) (g : Nat) (hg : w.heap.size = g) (hown : (w.alloc (.cells #[.int .i64 k] 3)).ownsRow B 3 1 v H.length (ints H))
    (hx : a.eval x = .slice (some ⟨g, 0, none⟩) 1 1) (hl : H.length ≤ 1000000) (hbs : B ≤ g)
    (h : ∀ v' w', w'.ownsRow B 3 1 v' (H.length + 1) (ints (H ++ [k])) → (w.alloc (.cells #[.int .i64 k] 3)).grownBy w' v.ownBlock → (v'.ownBlock = v.ownBlock ∨ v'.ownBlock = some (w.alloc (.cells #[.int .i64 k] 3)).heap.size) → wpList Try.prog ops Q rest (a.put o.dst v') w') :
    wpList Try.prog ops Q (o :: rest) a (w.alloc (.cells #[.int .i64 k] 3)) := by
  subst hg
  obtain ⟨i0, hi, hq⟩ := Option.map_eq_some_iff.1 Cr.infoN
  simp only [Prod.mk.injEq] at hq
  obtain ⟨q1, q2, q3⟩ := hq
  have hb := Blk.new w #[.int .i64 k] 3
  refine wpList_append_own_at (w := w.alloc (.cells #[.int .i64 k] 3)) hgd s x 26 ho B 3 i0 _ 1 8 Try.underlying26 hi q1 q2 q3 rfl (by omega) v H.length (ints H) hs hown ⟨w.heap.size, 0, none⟩ 1 1 (ints [k]) hx rfl
    (fun j u hj => by
      rw [Addr.add_mid, Nat.zero_add, hb.cell]
      simpa [ints] using hj) (fun u hu => by simp [ints] at hu; subst hu; rfl) (by unfold maxLen; omega) (by omega) (by simp; omega) ?_
  intro v' w' h1 h2 _ h4
  rw [show ints H ++ ints [k] = ints (H ++ [k]) from (List.map_append (f := Value.int .i64) (l₁ := H) (l₂ := [k])).symm] at h1
  exact h v' w' h1 h2 h4
theorem rou_bad {B : Nat} {R0 : Rou} {c : Int} {w' : World} (h : R0 = badR c) : RouP B R0 (.returned (.tuple #[.agg (rtA nilS (0, 0)), .int .i64 c])) w' := by
  subst h
  exact ⟨nilS, rfl, ints_none _ _⟩
theorem rou_ok {B : Nat} {R0 : Rou} {H : List Int} {e : Pe} {h : Value} {w' : World} (hR : R0 = ((H, e), 0)) (ho : w'.ownsRow B 3 1 h H.length (ints H)) : RouP B R0 (.returned (.tuple #[.agg (rtA h e), .int .i64 0])) w' := by
  subst hR
  exact ⟨h, rfl, ho⟩
theorem own_baseI {w : World} {B B' n : Nat} {v : Value} {xs : List Value} (h : w.ownsRow B 3 1 v n xs) (hb : B' ≤ B) : w.ownsRow B' 3 1 v n xs := own_up (own_down h) fun k hk => Nat.le_trans hb (h.lt k hk).1
/-- what holds at the head of the loop -/
def GoR (X : List Tv) (fp : Tv → Pe) (dn : Tv → Bool) (nx : Tv → Pe × Bool) (R : Rou) (m g mb ga gr : Nat) (w : World) (id : Nat) (wr : World) : Prop :=
  ∃ (n : Nat) (x : Tv) (h : Value) (H : List Int), x ∈ X ∧ n + H.length = m + 1 ∧ WkW g mb ga gr w wr X id x h H ∧ wkV X fp dn nx n x H = R
theorem GoR.mk {X : List Tv} {fp : Tv → Pe} {dn : Tv → Bool} {nx : Tv → Pe × Bool} {R : Rou} {m g mb ga gr : Nat} {w : World} {id : Nat} {wr : World} (n : Nat) (x : Tv) (h : Value) (H : List Int) (hx : x ∈ X) (hn : n + H.length = m + 1) (hW : WkW g mb ga gr w wr X id x h H) (hR : wkV X fp dn nx n x H = R) :
    GoR X fp dn nx R m g mb ga gr w id wr := ⟨n, x, h, H, hx, hn, hW, hR⟩
theorem one_int (w : World) (a : Int) (B : Nat) (hB : B ≤ w.heap.size) : (w.alloc (.cells #[.int .i64 a] 3)).ownsRow B 3 1 (.slice (some ⟨w.heap.size, 0, none⟩) 1 1) 1 (ints [a]) :=
  ⟨rfl, .inr ⟨w.heap.size, 1, #[.int .i64 a], rfl, hB, heap_alloc_new _ _, Nat.le_refl _, by unfold maxLen; omega, rfl, rfl⟩⟩
/-- how many a route has -/
def lenAt (g : Nat) (w : World) : Nat := match w.cell? ⟨g, 0, none⟩ with | some (.slice _ n _) => n | _ => 0
theorem WkW.len {g mb ga gr : Nat} {w wr : World} {X : List Tv} {id : Nat} {x : Tv} {h : Value} {H : List Int} (k : WkW g mb ga gr w wr X id x h H) : lenAt gr wr = H.length := by
  obtain ⟨a, c, e⟩ := Cr.own_form k.o
  unfold lenAt
  rw [k.q.ch, e]
theorem WkW.made {g mb ga : Nat} {w W : World} {X : List Tv} {id : Nat} {x : Tv} {fr : Int} (bel : Below g w W) (i : At W g id) (r : RB W (g + 1) nilS (0, 0)) (m : OwnsV W mb X.length (mapV X)) (t : TB W ga x.t.s x.t.p x.u x.v) (o1 : g + 2 ≤ mb) (o2 : mb < ga) :
    WkW g mb ga (W.heap.size + 1) w ((W.alloc (.cells #[.int .i64 fr] 3)).alloc (.cells (rtA (.slice (some ⟨W.heap.size, 0, none⟩) 1 1) (0, 0)) 30)) X id x (.slice (some ⟨W.heap.size, 0, none⟩) 1 1) [fr] := by
  have hl := t.lt
  have hq := RB.new (W.alloc (.cells #[.int .i64 fr] 3)) (.slice (some ⟨W.heap.size, 0, none⟩) 1 1) (0, 0)
  rw [World.size_alloc] at hq
  have ho := one_int W fr (g + 2) (by omega)
  refine ⟨(bel.alloc (by omega) _).alloc (by rw [World.size_alloc]; omega) _, (i.alloc _).alloc _, (Blk.alloc (Blk.alloc r _) _), (m.alloc _).alloc _, (Blk.alloc (Blk.alloc t _) _), hq, ?_, ?_, o1, o2, by omega⟩
  · exact ho.alloc _
  · refine ⟨?_, ?_, ?_⟩ <;> (simp only [Value.ownBlock, ne_eq, Option.some.injEq]; omega)
end Go.Proofs.Ytfajfmcabpmchaa
