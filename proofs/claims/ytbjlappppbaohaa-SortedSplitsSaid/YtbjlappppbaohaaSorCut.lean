/- A row's beginning; what a range tells, with its place. -/
import Derived.Test.YtbjlappppbaohaaSorQ
namespace Go.Proofs.Ytbjlappppbaohaa
open Go Go.RowKit Go.Sort

/-- row[:r], behind a guard too -/
theorem o_to {P : Program} {w : World} {o : Oper} {a : Act} {K : Act → World → Prop} {Q : Exit → Act → World → Prop} (T : TypeId) (s hi_ : Operand)
    (ho : o.op = .slice T s none (some hi_) none) (e : TypeId) (size : Nat) (hT : P.underlying T = some (.slice e)) (hi : (P.info? e).map (·.size) = some size)
    (b off n c r : Nat) (z : Int) (hs : a.eval s = .slice (some ⟨b, off, none⟩) n c) (hlo : a.eval hi_ = .int .i64 z) (hz : z = (r : Int)) (hr : r ≤ c)
    (h : K (a.put o.dst (.slice (some ⟨b, off, none⟩) r c)) w) : o.wp P a w K Q := by
  subst hz
  have hel : P.elem T = e := by simp [Program.elem, hT]
  have hT' : P.underlying T = some (.slice (P.elem T)) := by rw [hel]; exact hT
  obtain ⟨i, hi', hq⟩ := Option.map_eq_some_iff.1 hi
  have hr' : (Instr.sliceAt T (.slice (some ⟨b, off, none⟩) n c) none (some (.int .i64 (r : Int))) none).run P w = .ok (sliced (some ⟨b, off, none⟩) 0 r c size) w := by
    rw [run_sliceAt_slice w T _ _ _ _ hT', run_slice_h w T _ n c hT' .i64 (r : Int) (by omega) (by omega), hel]
    simp [sizeOf, typeInfo, hi', Result.andThen, hq]
  have hv : sliced (some ⟨b, off, none⟩) 0 r c size = .slice (some ⟨b, off, none⟩) r c := by
    unfold sliced; split <;> simp [Addr.add_mid]
  unfold Oper.wp execOp
  simp only [ho, Option.map, hs, hlo, Sem.run_bind, Result.andThen_ok, hr', hv]
  exact h
theorem o_min {P : Program} {w : World} {o : Oper} {a : Act} {K : Act → World → Prop} {Q : Exit → Act → World → Prop} (x y : Operand) (t1 t2 : TypeId)
    (ho : o.op = .call { callee := .builtin .min, args := #[x, y], argTypes := #[t1, t2] }) (X Y : Int) (hx : a.eval x = .int .i64 X) (hy : a.eval y = .int .i64 Y) (k : Nat) (hk : (if Y < X then Y else X) = (k : Int))
    (h : K (a.put o.dst (.int .i64 (k : Int))) w) : o.wp P a w K Q := by
  have hr := run_min_int2 (P := P) w #[t1, t2] o.type .i64 .i64 X Y
  rw [hk] at hr
  unfold Oper.wp
  simp [execOp, ho, resolve, invoke, builtin, hx, hy, hr, Result.andThen]
  exact h
/-- a row that is told, with its place -/
def Lies (w : World) (b of c n : Nat) (K : List It) : Prop := n = K.length ∧ n ≤ c ∧ w.rangeAt b of (flat K) ∧ b < w.heap.size
theorem Lies.bel {w w' : World} {b of c n : Nat} {K : List It} (h : Lies w b of c n K) (hb : Below w.heap.size w w') : Lies w' b of c n K :=
  ⟨h.1, h.2.1, range_bel h.2.2.1 hb h.2.2.2, Nat.lt_of_lt_of_le h.2.2.2 hb.size⟩
theorem Lies.told {w : World} {b of c n : Nat} {K : List It} (h : Lies w b of c n K) : Src w (.slice (some ⟨b, of, none⟩) n c) n 2 (flat K) :=
  ⟨by rw [flat_length, h.1], .inr ⟨b, of, c, rfl, h.2.2.1⟩⟩
theorem Lies.take {w : World} {b of c n : Nat} {K : List It} (h : Lies w b of c n K) (r : Nat) (hr : r ≤ n) : Src w (.slice (some ⟨b, of, none⟩) r c) r 2 (flat (K.take r)) := by
  refine ⟨by rw [flat_length, List.length_take, ← h.1, Nat.min_eq_left hr], .inr ⟨b, of, c, rfl, fun j v hj => h.2.2.1 j v ?_⟩⟩
  rw [← flat_take, List.getElem?_take] at hj
  split at hj
  · exact hj
  · cases hj
theorem Lies.at {w : World} {b of c n : Nat} {K : List It} (h : Lies w b of c n K) {i : Nat} {x : It} (hx : K[i]? = some x) : w.cell? ⟨b, of + i * 2, none⟩ = some (.int .u64 (x.1 : Int)) := by
  have := h.2.2.1 _ _ (flat_get hx).1
  exact this
/-- what a range answers that is told -/
def HadLies (B : Nat) (w0 w : World) (g : Nat) (L K : List It) (e : Ending) (w' : World) : Prop := ∃ b of c n, e = .returned (.tuple #[.slice (some ⟨b, of, none⟩) n c, .int .i64 0]) ∧ Lies w' b of c n K ∧ Has B w0 w' g L ∧ Below w.heap.size w w'
theorem lies_range {B : Nat} {w0 w : World} {g : Nat} {L : List It} (h : Has B w0 w g L) (lo hi : Nat) (most : Nat) (hlh : ¬ hi < lo) :
    Calls Try.prog 16 #[.pointer (some ⟨g, 0, none⟩), .int .u64 (lo : Int), .int .u64 (hi : Int), .int .i64 (most : Int)] w (HadLies B w0 w g L ((rangeL L lo hi).take most)) := by
  have h' := h
  obtain ⟨v, hm, _⟩ := h
  refine (range_any hm lo hi most hlh).mono ?_
  rintro e w' ⟨u, rfl, ⟨b, rfl, hr, _, hb⟩, hbe⟩
  exact ⟨b, 0, _, _, rfl, ⟨rfl, Nat.le_refl _, hr, hb⟩, h'.bel hbe, hbe⟩
theorem lies_all {B : Nat} {w0 w : World} {g : Nat} {L : List It} (h : Has B w0 w g L) (lo hi : Nat) (most : Nat) (hlh : ¬ hi < lo) (hl : L.length ≤ most) :
    Calls Try.prog 16 #[.pointer (some ⟨g, 0, none⟩), .int .u64 (lo : Int), .int .u64 (hi : Int), .int .i64 (most : Int)] w (HadLies B w0 w g L (rangeL L lo hi)) := by
  have := lies_range h lo hi most hlh
  rwa [List.take_of_length_le (Nat.le_trans (range_len L lo hi) hl)] at this
/-- two rows that are told: the same? -/
theorem src_same {w : World} {u v : Value} {n m : Nat} {L K : List It} (hA : Src w u n 2 (flat L)) (hB : Src w v m 2 (flat K)) (hl : n ≤ 1000000) :
    Calls Try.prog 19 #[u, v] w fun e w' => e = .returned (.bool (decide (L = K))) ∧ Below w.heap.size w w' := by
  have h1 := hA.1
  have h2 := hB.1
  rw [flat_length] at h1 h2
  obtain rfl : n = L.length := by omega
  obtain rfl : m = K.length := by omega
  exact same_any hA hB hl
end Go.Proofs.Ytbjlappppbaohaa
