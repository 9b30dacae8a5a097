/- The document's map: a row without a key, Min, Max. Rows that grow. -/
import Derived.Test.YtbjlappppbaohaaSorRef
namespace Go.Proofs.Ytbjlappppbaohaa
open Go Go.RowKit Go.Sort

/-- one item is appended to a row of the call's own: what is appended lies in the block that was made last -/
theorem wpList_snocA {w w0 : World} {ops : Array Oper} {rest : List Oper} {o : Oper} {a : Act} {Q : Exit → Act → World → Prop} (hgd : o.guard = none) (s x : Operand)
    (ho : o.op = .call { callee := .builtin .append, args := #[s, x], argTypes := #[27, 27] }) (B : Nat) (v : Value) (L : List It) (n : Nat) (hs : a.eval s = v) (hown : w.ownsRow B 46 2 v n (flat L)) (hnL : n = L.length) (k : Nat) (str : ByteArray)
    (hx : a.eval x = .slice (some ⟨w.heap.size, 0, none⟩) 1 1) (hl : n ≤ 1000000) (hb : Below B w0 w) (hbs : B ≤ w.heap.size)
    (h : ∀ v' w', w'.ownsRow B 46 2 v' (n + 1) (flat (L ++ [(k, str)])) → Below B w0 w' → w.heap.size < w'.heap.size → wpList Try.prog ops Q rest (a.put o.dst v') w') : wpList Try.prog ops Q (o :: rest) a (w.alloc (.cells #[.int .u64 (k : Int), .string str] 46)) := by
  obtain ⟨i, hi', hq⟩ := Option.map_eq_some_iff.1 infoA
  simp only [Prod.mk.injEq] at hq
  obtain ⟨q1, q2, q3⟩ := hq
  refine wpList_append_own_at (w := w.alloc (.cells #[.int .u64 (k : Int), .string str] 46)) hgd s x 27 ho B 46 i _ 2 24 Try.underlying27 hi' q1 q2 q3 rfl (by omega) v n (flat L) hs (hown.alloc _) ⟨w.heap.size, 0, none⟩ 1 1 (flat [(k, str)]) hx rfl ?_ (flat_one _) (by unfold maxLen; omega) (by omega) (by simp; omega) ?_
  · intro j y hj
    rw [Addr.add_mid, Nat.zero_add, (Blk.new w #[.int .u64 (k : Int), .string str] 46).cell]
    simpa [flat] using hj
  · intro v' w' h1 h2 _ _
    rw [← flat_append] at h1
    have hg := h2.size
    rw [World.size_alloc] at hg
    exact h v' w' h1 ((hb.alloc hbs _).grown h2 (by simp; omega) fun k hk => (hown.lt k hk).1) (by omega)
/-- a row's cells, wherever they lie; of none the nil slice too -/
def Src (w : World) (v : Value) (k size : Nat) (xs : List Value) : Prop := xs.length = k * size ∧ ((v = .slice none 0 0 ∧ k = 0) ∨ ∃ g o c, v = .slice (some ⟨g, o, none⟩) k c ∧ w.rangeAt g o xs)
theorem range_drop {w : World} {g o : Nat} {xs : List Value} (h : w.rangeAt g o xs) (k : Nat) : w.rangeAt g (o + k) (xs.drop k) := fun j v hv => by
  rw [List.getElem?_drop] at hv
  rw [Nat.add_assoc]
  exact h (k + j) v hv
/-- row[r:] -/
theorem wpList_from {P : Program} {w : World} {ops : Array Oper} {rest : List Oper} {o : Oper} {a : Act} {Q : Exit → Act → World → Prop} (hgd : o.guard = none) (T : TypeId) (s lo : Operand)
    (ho : o.op = .slice T s (some lo) none none) (e : TypeId) (size : Nat) (hT : P.underlying T = some (.slice e)) (hi : (P.info? e).map (·.size) = some size)
    (v : Value) (n r : Nat) (xs : List Value) (B : Nat) (hs : a.eval s = v) (hlo : a.eval lo = .int .i64 r) (hr : r ≤ n) (hown : w.ownsRow B e size v n xs)
    (h : ∀ v', Src w v' (n - r) size (xs.drop (r * size)) → wpList P ops Q rest (a.put o.dst v') w) : wpList P ops Q (o :: rest) a w := by
  have hlen := hown.1
  have hel : P.elem T = e := by simp [Program.elem, hT]
  have hT' : P.underlying T = some (.slice (P.elem T)) := by rw [hel]; exact hT
  obtain ⟨i, hi', hq⟩ := Option.map_eq_some_iff.1 hi
  have run : ∀ al c, (Instr.sliceAt T (.slice al n c) (some (.int .i64 (r : Int))) none none).run P w = .ok (sliced al r n c size) w := fun al c => by
    rw [run_sliceAt_slice w T _ _ _ _ hT', run_slice_l w T al n c hT' .i64 (r : Int) (by omega) (by omega), hel]
    simp [sizeOf, typeInfo, hi', Result.andThen, hq]
  refine wpList_plain hgd fun K hK => ?_
  unfold Oper.wp execOp
  rcases own_shape hown with ⟨rfl, rfl⟩ | ⟨b, c, rfl, hc, _, hrg, _⟩
  · simp only [ho, Option.map, hs, hlo, Sem.run_bind, Result.andThen_ok, run]
    obtain rfl : r = 0 := by omega
    exact hK _ _ (h _ ⟨by rw [List.length_drop, hlen, Nat.sub_mul], .inl ⟨by simp [sliced], rfl⟩⟩)
  · simp only [ho, Option.map, hs, hlo, Sem.run_bind, Result.andThen_ok, run]
    refine hK _ _ (h _ ⟨by rw [List.length_drop, hlen, Nat.sub_mul], .inr ?_⟩)
    unfold sliced
    by_cases hcr : c = r
    · rw [if_pos hcr]
      have h4 : xs.drop (r * size) = [] := List.drop_eq_nil_of_le (by rw [hlen]; exact Nat.mul_le_mul_right _ (by omega))
      rw [h4]
      exact ⟨b, 0, _, rfl, fun j u hu => by simp at hu⟩
    · rw [if_neg hcr]
      exact ⟨b, 0 + r * size, c - r, by simp [Addr.add_mid], range_drop hrg _⟩
/-- append(out, row...) -/
theorem wpList_joinA {w w0 : World} {ops : Array Oper} {rest : List Oper} {o : Oper} {a : Act} {Q : Exit → Act → World → Prop} (hgd : o.guard = none) (s x : Operand)
    (ho : o.op = .call { callee := .builtin .append, args := #[s, x], argTypes := #[27, 27] }) (B : Nat) (v : Value) (L K : List It) (n m : Nat) (hs : a.eval s = v) (hown : w.ownsRow B 46 2 v n (flat L))
    (u : Value) (hx : a.eval x = u) (hS : Src w u m 2 (flat K)) (hl : n + m ≤ 2000000) (hb : Below B w0 w) (hbs : B ≤ w.heap.size)
    (h : ∀ v' w', w'.ownsRow B 46 2 v' (n + m) (flat (L ++ K)) → Below B w0 w' → w.heap.size ≤ w'.heap.size → wpList Try.prog ops Q rest (a.put o.dst v') w') : wpList Try.prog ops Q (o :: rest) a w := by
  obtain ⟨i, hi', hq⟩ := Option.map_eq_some_iff.1 infoA
  simp only [Prod.mk.injEq] at hq
  obtain ⟨q1, q2, q3⟩ := hq
  rcases hS.2 with ⟨rfl, rfl⟩ | ⟨g, of, c, rfl, hr⟩
  · have hK : K = [] := by
      have := hS.1
      rw [flat_length] at this
      exact List.eq_nil_of_length_eq_zero (by omega)
    subst hK
    have hr := run_append_owned_none (P := Try.prog) w B 27 o.type 46 i 2 Try.underlying27 hi' v n (flat L) hown
    refine wpList_plain hgd fun K hK => ?_
    unfold Oper.wp execOp
    simp only [ho, resolve, invoke, builtin, Sem.run_bind, Sem.run_pure, Result.andThen_ok, List.map_toArray, List.map_cons, List.map_nil, hs, hx, hr]
    exact hK _ _ (h v w (by rw [List.append_nil]; exact hown) hb (Nat.le_refl _))
  · refine wpList_append_own_at (w := w) hgd s x 27 ho B 46 i _ 2 24 Try.underlying27 hi' q1 q2 q3 rfl (by omega) v n (flat L) hs hown ⟨g, of, none⟩ m c (flat K) hx hS.1 (fun j y hj => by rw [Addr.add_mid]; exact hr j y hj) (flat_one _) (by unfold maxLen; omega) (by omega) hbs ?_
    intro v' w' h1 h2 _ _
    rw [← flat_append] at h1
    exact h v' w' h1 (hb.grown h2 hbs fun k hk => (hown.lt k hk).1) h2.size
theorem drop_take {L : List It} {p : Nat} {x : It} (k : Nat) (hx : L[p]? = some x) : dropL (L.take (p + 1)) k = if x.1 = k then dropL (L.take p) k else dropL (L.take p) k ++ [x] := by
  obtain ⟨hp, rfl⟩ := List.getElem?_eq_some_iff.1 hx
  rw [List.take_succ_eq_append_getElem hp, drop_append]
  by_cases h : L[p].1 = k
  · rw [if_pos h, show dropL [L[p]] k = [] from List.filter_cons_of_neg (by simpa using h), List.append_nil]
  · rw [if_neg h, show dropL [L[p]] k = [L[p]] from by rw [dropL, List.filter_cons_of_pos (by simpa using h)]; rfl]
set_option maxHeartbeats 2000000 in
theorem without_any {w : World} {g : Nat} {v : Value} {L : List It} (h : Rp w g v L) (k : Nat) : Calls Try.prog 34 #[.pointer (some ⟨g, 0, none⟩), .int .u64 (k : Int)] w fun e w' => ∃ u, e = .returned u ∧ w'.ownsRow w.heap.size 46 2 u (dropL L k).length (flat (dropL L k)) ∧ Below w.heap.size w w' := by
  have HM := Lib.hid h
  have hlen := Mp.len h
  obtain ⟨a, c, hv, _⟩ := Mp.form h (Below.refl _ _)
  obtain ⟨n, hn⟩ : ∃ n, n = L.length := ⟨_, rfl⟩
  rw [← hn] at hlen hv
  have HN := Lib.hid hn
  have HV := Lib.hid hv
  clear h hn hv
  go_enter Try.func34, Try.ntmps34
  go_wp2
  go_loopw [5, 6] (fun u i wr => ∃ (p : Nat), p ≤ n ∧ i = .int .i64 p ∧ wr.ownsRow w.heap.size 46 2 u (dropL (L.take p) k).length (flat (dropL (L.take p) k)) ∧ Below w.heap.size w wr) (fun _ i _ => n - (intOf i).toNat)
  case atStart => exact ⟨0, by omega, rfl, World.ownsRow_nil _ _ _ _, Below.refl _ _⟩
  case round =>
    obtain ⟨p, hp, rfl, hO, hB⟩ := hrel
    have HO := Lib.hid hO
    have HB := Lib.hid hB
    clear hO hB
    obtain ⟨a2, c2, hv2, c0⟩ := Mp.form HM.out HB.out
    obtain ⟨rfl, rfl⟩ : a = a2 ∧ c = c2 := by
      have := HV.out.symm.trans hv2
      simp only [Value.slice.injEq] at this
      exact ⟨this.1, this.2.2⟩
    rw [← HN.out] at c0
    clear hv2
    by_cases hlt : p < n
    · obtain ⟨x, hx⟩ : ∃ x, L[p]? = some x := ⟨_, List.getElem?_eq_getElem (by have := HN.out; omega)⟩
      obtain ⟨b, c', hv', d1, d2, d3, c1, c2, d4⟩ := Mp.at HM.out HB.out hx
      clear d1 d2 d3 d4
      obtain rfl : a = some ⟨b, 0, none⟩ := by
        have := HV.out.symm.trans hv'
        simp only [Value.slice.injEq] at this
        exact this.1
      have hdt := drop_take k hx
      have hdl : (dropL (L.take p) k).length ≤ p := Nat.le_trans (drop_len_le _ _) (by rw [List.length_take]; omega)
      clear hx hv'
      by_cases hk : x.1 = k
      · rw [if_pos hk] at hdt
        have HD := Lib.hid hdt
        have hd : ((x.1 : Int) == (k : Int)) = true := by rw [hk]; simp
        have hd2 : ((x.1 : Int) != (k : Int)) = false := by rw [hk]; simp
        clear hk hdt
        go_wp2
        exact ⟨⟨p + 1, by omega, by go_num, by rw [HD.out]; exact HO.out, HB.out⟩, by simp [intOf]; omega⟩
      · rw [if_neg hk] at hdt
        have HD := Lib.hid hdt
        have hd : ((x.1 : Int) == (k : Int)) = false := by
          rw [Bool.eq_false_iff]; intro h; simp at h; omega
        have hd2 : ((x.1 : Int) != (k : Int)) = true := by simp; omega
        clear hk hdt
        obtain ⟨m, hm⟩ : ∃ m, m = (dropL (L.take p) k).length := ⟨_, rfl⟩
        have HO2 := HO.out
        rw [← hm] at HO2 hdl
        have HO3 := Lib.hid HO2
        have HMm := Lib.hid hm
        have hs2 := HB.out.size
        clear HO2 hm
        go_wp2_with (at_builtin; refine wpList_snocA rfl _ _ rfl w.heap.size _ (dropL (L.take p) k) m rfl HO3.out HMm.out x.1 x.2 rfl (by omega) HB.out hs2 ?_; intro v' w' h1 h2 h3; have H1 := Lib.hid h1; have H2 := Lib.hid h2; clear h1 h2 h3)
        refine ⟨⟨p + 1, by omega, by go_num, ?_, H2.out⟩, by simp [intOf]; omega⟩
        rw [HD.out, List.length_append, ← HMm.out]
        exact H1.out
    · obtain rfl : n = p := by omega
      have hall : L.take n = L := by rw [HN.out, List.take_length]
      rw [hall] at HO
      go_wp2
      go_ret
      exact ⟨_, rfl, HO.out, HB.out⟩
end Go.Proofs.Ytbjlappppbaohaa
