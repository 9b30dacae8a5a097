/- The program's map and the document's, side by side, and one of a script beside them. -/
import Derived.Test.YtbjlappppbaohaaSorCut
import Derived.Test.YtbjlappppbaohaaSorRef3
import Derived.Test.YtbjlappppbaohaaSorRef4
namespace Go.Proofs.Ytbjlappppbaohaa
open Go Go.RowKit Go.Sort

/-- two maps that share no block, made behind B; the blocks below B are as in w0 -/
structure Pair (B : Nat) (w0 w : World) (g h : Nat) (v u : Value) (L K : List It) : Prop where
  m : Mp w 57 61 g v L
  r : Rp w h u K
  below : Below B w0 w
  hg : B ≤ g
  hh : B ≤ h
  hv : ∀ f, v.ownBlock = some f → B ≤ f
  hu : ∀ f, u.ownBlock = some f → B ≤ f
  gh : g ≠ h
  vh : v.ownBlock ≠ some h
  ug : u.ownBlock ≠ some g
  vu : ∀ f, v.ownBlock = some f → u.ownBlock ≠ some f
/-- a block beside them -/
structure Boxed (w : World) (g h : Nat) (v u : Value) (q : Nat) (s : Stp) : Prop where
  blk : Blk w q (stpC s) 33
  qg : q ≠ g
  qh : q ≠ h
  vq : v.ownBlock ≠ some q
  uq : u.ownBlock ≠ some q
section
variable {B : Nat} {w0 w w' : World} {g h q : Nat} {v u v' : Value} {L K M : List It} {s : Stp}
theorem Pair.le (P : Pair B w0 w g h v u L K) : B ≤ w.heap.size := by have := P.m.lt; have := P.hg; omega
theorem Pair.bel (P : Pair B w0 w g h v u L K) (hb : Below w.heap.size w w') : Pair B w0 w' g h v u L K :=
  ⟨P.m.bel hb, Mp.bel P.r hb, P.below.trans (hb.mono P.le), P.hg, P.hh, P.hv, P.hu, P.gh, P.vh, P.ug, P.vu⟩
theorem Boxed.bel (X : Boxed w g h v u q s) (hb : Below w.heap.size w w') : Boxed w' g h v u q s := ⟨X.blk.below hb X.blk.lt, X.qg, X.qh, X.vq, X.uq⟩
theorem own_new {v v' : Value} {n b : Nat} (hv : v.ownBlock ≠ some b) (hb : b < n) (ho : v'.ownBlock = v.ownBlock ∨ ∃ f, v'.ownBlock = some f ∧ n ≤ f) : v'.ownBlock ≠ some b := by
  rcases ho with ho | ⟨f, ho, hf⟩
  · rw [ho]; exact hv
  · rw [ho]; intro e; injection e; omega
theorem Pair.map (P : Pair B w0 w g h v u L K) (A : After w w' g v v' M) : Pair B w0 w' g h v' u M K := by
  obtain ⟨hM, hC, ho⟩ := A
  have hul : ∀ f, u.ownBlock = some f → f < w.heap.size := Mp.own_lt P.r
  refine ⟨hM, Mp.chg P.r hC P.gh.symm P.vh P.ug (fun f hf e => P.vu f e hf), hC.below P.below P.le P.hg P.hv, P.hg, P.hh, ?_, P.hu, P.gh, own_new P.vh (Mp.lt P.r) ho, P.ug, ?_⟩
  · intro f hf
    rcases ho with ho | ⟨f', ho, hf'⟩
    · exact P.hv f (by rw [← ho]; exact hf)
    · rw [ho] at hf; injection hf; have := P.le; omega
  · intro f hf e
    exact own_new (fun e' => P.vu f e' e) (hul f e) ho hf
theorem Boxed.map (X : Boxed w g h v u q s) (A : After w w' g v v' M) : Boxed w' g h v' u q s := by
  obtain ⟨_, hC, ho⟩ := A
  exact ⟨X.blk.chg hC X.qg X.vq, X.qg, X.qh, own_new X.vq X.blk.lt ho, X.uq⟩
theorem Pair.ref (P : Pair B w0 w g h v u L K) (A : RAfter w w' h v' M) : Pair B w0 w' g h v v' L M := by
  obtain ⟨hM, hC, ho⟩ := A
  have hvl : ∀ f, v.ownBlock = some f → f < w.heap.size := P.m.own_lt
  have hgl := P.m.lt
  refine ⟨P.m.chg hC P.gh (by simp [Value.ownBlock]) P.vh (fun f _ => by simp [Value.ownBlock]), hM, hC.below P.below P.le P.hh (fun f hf => by simp [Value.ownBlock] at hf), P.hg, P.hh, P.hv, ?_, P.gh, P.vh, ?_, ?_⟩
  · intro f hf
    have := ho f hf
    have := P.le
    omega
  · intro e
    have := ho g e
    omega
  · intro f hf e
    have := ho f e
    have := hvl f hf
    omega
theorem Boxed.ref (X : Boxed w g h v u q s) (A : RAfter w w' h v' M) : Boxed w' g h v v' q s := by
  obtain ⟨_, hC, ho⟩ := A
  have hl := X.blk.lt
  exact ⟨X.blk.chg hC X.qh (by simp [Value.ownBlock]), X.qg, X.qh, X.vq, fun e => by have := ho q e; omega⟩
end

def Two (B : Nat) (w0 w : World) (g h : Nat) (L K : List It) : Prop := ∃ v u, Pair B w0 w g h v u L K
def TwoB (B : Nat) (w0 w : World) (g h : Nat) (L K : List It) (q : Nat) (s : Stp) : Prop := ∃ v u, Pair B w0 w g h v u L K ∧ Boxed w g h v u q s
def BoxC (w : World) (q : Nat) (s : Stp) : Prop := w.cell? ⟨q, 0, none⟩ = some (.int .i64 s.kind) ∧ w.cell? ⟨q, 1, none⟩ = some (.int .u64 (s.key : Int)) ∧ w.cell? ⟨q, 2, none⟩ = some (.string s.val) ∧ w.cell? ⟨q, 3, none⟩ = some (.int .u64 (s.hi : Int)) ∧ w.cell? ⟨q, 4, none⟩ = some (.int .i64 s.most)
section
variable {B : Nat} {w0 w w' : World} {g h q : Nat} {L K : List It} {s : Stp}
theorem TwoB.two (t : TwoB B w0 w g h L K q s) : Two B w0 w g h L K := by obtain ⟨v, u, P, _⟩ := t; exact ⟨v, u, P⟩
theorem TwoB.cells (t : TwoB B w0 w g h L K q s) : BoxC w q s := by
  obtain ⟨v, u, _, X⟩ := t
  exact ⟨X.blk.cell 0, X.blk.cell 1, X.blk.cell 2, X.blk.cell 3, X.blk.cell 4⟩
theorem TwoB.bel (t : TwoB B w0 w g h L K q s) (hb : Below w.heap.size w w') : TwoB B w0 w' g h L K q s := by
  obtain ⟨v, u, P, X⟩ := t
  exact ⟨v, u, P.bel hb, X.bel hb⟩
theorem Two.bel (t : Two B w0 w g h L K) (hb : Below w.heap.size w w') : Two B w0 w' g h L K := by
  obtain ⟨v, u, P⟩ := t
  exact ⟨v, u, P.bel hb⟩
theorem Two.below (t : Two B w0 w g h L K) : Below B w0 w := by
  obtain ⟨v, u, P⟩ := t
  exact P.below
/-- one of a script is laid beside them -/
theorem Two.box (t : Two B w0 w g h L K) (s : Stp) : TwoB B w0 (w.alloc (.cells (stpC s) 33)) g h L K w.heap.size s := by
  obtain ⟨v, u, P⟩ := t
  have h1 := P.m.lt
  have h2 := Mp.lt P.r
  refine ⟨v, u, P.bel ((Below.refl _ _).alloc (Nat.le_refl _) _), Blk.new _ _ _, by omega, by omega, fun e => ?_, fun e => ?_⟩
  · have := P.m.own_lt _ e; omega
  · have := Mp.own_lt P.r _ e; omega

/-! what changes one of them -/
theorem t_put (t : TwoB B w0 w g h L K q s) (k : Nat) (x : ByteArray) (hx : x.size ≤ 64) (hl : L.length + 1 ≤ 1000000) (hk : k < 18446744073709551616) :
    Calls Try.prog 15 #[.pointer (some ⟨g, 0, none⟩), .int .u64 (k : Int), .string x] w fun e w' => e = .returned (.tuple #[.string (valL L k), .bool (hasL L k), .int .i64 0]) ∧ TwoB B w0 w' g h (putL L k x) K q s := by
  obtain ⟨v, u, P, X⟩ := t
  refine (put_any P.m k x hx hl hk).mono ?_
  rintro e w' ⟨rfl, v', A⟩
  exact ⟨rfl, v', u, P.map A, X.map A⟩
theorem t_drop (t : TwoB B w0 w g h L K q s) (k : Nat) :
    Calls Try.prog 18 #[.pointer (some ⟨g, 0, none⟩), .int .u64 (k : Int)] w fun e w' => e = .returned (.tuple #[.string (valL L k), .bool (hasL L k)]) ∧ TwoB B w0 w' g h (dropL L k) K q s := by
  obtain ⟨v, u, P, X⟩ := t
  refine (drop_any P.m k).mono ?_
  rintro e w' ⟨rfl, v', A⟩
  exact ⟨rfl, v', u, P.map A, X.map A⟩
theorem t_rput (t : TwoB B w0 w g h L K q s) (k : Nat) (x : ByteArray) (hx : x.size ≤ 64) (hl : K.length + 1 ≤ 1000000) (hk : k < 18446744073709551616) :
    Calls Try.prog 22 #[.pointer (some ⟨h, 0, none⟩), .int .u64 (k : Int), .string x] w fun e w' => e = .returned (.tuple #[.string (valL K k), .bool (hasL K k), .int .i64 0]) ∧ TwoB B w0 w' g h L (putL K k x) q s := by
  obtain ⟨v, u, P, X⟩ := t
  refine (refput_any P.r k x hx hl hk).mono ?_
  rintro e w' ⟨rfl, u', A⟩
  exact ⟨rfl, v, u', P.ref A, X.ref A⟩
theorem t_rdrop (t : TwoB B w0 w g h L K q s) (k : Nat) :
    Calls Try.prog 23 #[.pointer (some ⟨h, 0, none⟩), .int .u64 (k : Int)] w fun e w' => e = .returned (.tuple #[.string (valL K k), .bool (hasL K k)]) ∧ TwoB B w0 w' g h L (dropL K k) q s := by
  obtain ⟨v, u, P, X⟩ := t
  refine (refdrop_any P.r k).mono ?_
  rintro e w' ⟨rfl, u', A⟩
  exact ⟨rfl, v, u', P.ref A, X.ref A⟩

/-! what only looks -/
theorem t_get (t : TwoB B w0 w g h L K q s) (k : Nat) : Calls Try.prog 14 #[.pointer (some ⟨g, 0, none⟩), .int .u64 (k : Int)] w fun e w' => e = .returned (.tuple #[.string (valL L k), .bool (hasL L k)]) ∧ Below w.heap.size w w' := by
  obtain ⟨v, u, P, _⟩ := t
  exact get_any P.m k
theorem t_rget (t : TwoB B w0 w g h L K q s) (k : Nat) : Calls Try.prog 24 #[.pointer (some ⟨h, 0, none⟩), .int .u64 (k : Int)] w fun e w' => e = .returned (.tuple #[.string (valL K k), .bool (hasL K k)]) ∧ Below w.heap.size w w' := by
  obtain ⟨v, u, P, _⟩ := t
  exact calls_below (refget_any P.r k)
theorem t_rank (t : TwoB B w0 w g h L K q s) (k : Nat) : Calls Try.prog 17 #[.pointer (some ⟨g, 0, none⟩), .int .u64 (k : Int)] w fun e w' => e = .returned (.int .i64 (rankL L k)) ∧ Below w.heap.size w w' := by
  obtain ⟨v, u, P, _⟩ := t
  exact rank_any P.m k
theorem t_rrank (t : TwoB B w0 w g h L K q s) (k : Nat) : Calls Try.prog 25 #[.pointer (some ⟨h, 0, none⟩), .int .u64 (k : Int)] w fun e w' => e = .returned (.int .i64 (rankL K k)) ∧ Below w.heap.size w w' := by
  obtain ⟨v, u, P, _⟩ := t
  exact calls_below (refrank_any P.r k)
theorem t_min (t : TwoB B w0 w g h L K q s) : Calls Try.prog 20 #[.pointer (some ⟨g, 0, none⟩)] w fun e w' => e = .returned (.tuple #[.agg (itC (minL L).1 (minL L).2), .bool (decide (0 < L.length))]) ∧ Below w.heap.size w w' := by
  obtain ⟨v, u, P, _⟩ := t
  exact min_any P.m
theorem t_max (t : TwoB B w0 w g h L K q s) : Calls Try.prog 21 #[.pointer (some ⟨g, 0, none⟩)] w fun e w' => e = .returned (.tuple #[.agg (itC (maxL L).1 (maxL L).2), .bool (decide (0 < L.length))]) ∧ Below w.heap.size w w' := by
  obtain ⟨v, u, P, _⟩ := t
  exact max_any P.m
theorem t_rmin (t : TwoB B w0 w g h L K q s) : Calls Try.prog 27 #[.pointer (some ⟨h, 0, none⟩)] w fun e w' => e = .returned (.tuple #[.agg (itC (minL K).1 (minL K).2), .bool (decide (0 < K.length))]) ∧ Below w.heap.size w w' := by
  obtain ⟨v, u, P, _⟩ := t
  exact refmin_any P.r
theorem t_rmax (t : TwoB B w0 w g h L K q s) : Calls Try.prog 28 #[.pointer (some ⟨h, 0, none⟩)] w fun e w' => e = .returned (.tuple #[.agg (itC (maxL K).1 (maxL K).2), .bool (decide (0 < K.length))]) ∧ Below w.heap.size w w' := by
  obtain ⟨v, u, P, _⟩ := t
  exact refmax_any P.r
/-- what a range answers that is told -/
def ToldP (w : World) (M : List It) (e : Ending) (w' : World) : Prop := ∃ a n c, e = .returned (.tuple #[.slice a n c, .int .i64 0]) ∧ Src w' (.slice a n c) n 2 (flat M) ∧ n ≤ 1000000 ∧ Below w.heap.size w w'
theorem t_range (t : TwoB B w0 w g h L K q s) (lo hi most : Nat) (hlh : ¬ hi < lo) : Calls Try.prog 16 #[.pointer (some ⟨g, 0, none⟩), .int .u64 (lo : Int), .int .u64 (hi : Int), .int .i64 (most : Int)] w (ToldP w ((rangeL L lo hi).take most)) := by
  obtain ⟨v, u, P, _⟩ := t
  refine (range_any P.m lo hi most hlh).mono ?_
  rintro e w' ⟨x, rfl, hr, hb⟩
  have ht := rows_told hr
  obtain ⟨a, c, rfl⟩ := Src.form ht
  refine ⟨a, _, c, rfl, ht, ?_, hb⟩
  rw [List.length_take]
  have := range_len L lo hi
  have := P.m.len
  omega
theorem t_rrange (t : TwoB B w0 w g h L K q s) (lo hi most : Nat) (hlh : ¬ hi < lo) (hm : most ≤ 9223372036854775807) : Calls Try.prog 26 #[.pointer (some ⟨h, 0, none⟩), .int .u64 (lo : Int), .int .u64 (hi : Int), .int .i64 (most : Int)] w (ToldP w ((rangeL K lo hi).take most)) := by
  obtain ⟨v, u, P, _⟩ := t
  refine (refrange_any P.r lo hi most hlh hm).mono ?_
  rintro e w' ⟨x, rfl, ho, hb⟩
  have ht := own_src ho
  obtain ⟨a, c, rfl⟩ := Src.form ht
  refine ⟨a, _, c, rfl, ht, ?_, hb⟩
  rw [List.length_take]
  have := range_len K lo hi
  have := Mp.len P.r
  omega
end
end Go.Proofs.Ytbjlappppbaohaa
