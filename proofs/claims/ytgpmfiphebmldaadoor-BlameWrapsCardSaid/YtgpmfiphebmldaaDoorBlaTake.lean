/- Parts of the two rows: what is cut off, joined, and laid anew. -/
import Derived.Test.YtgpmfiphebmldaaDoorBlaSt
import Derived.Deep.Slices
namespace Go.Proofs.YtgpmfiphebmldaaDoor
open Go Go.RowKit Go.Sort

/-- a row's cells, wherever they lie; of none the nil slice too -/
def Src (w : World) (v : Value) (k size : Nat) (xs : List Value) : Prop := xs.length = k * size ∧ ((v = .slice none 0 0 ∧ k = 0) ∨ ∃ g o c, v = .slice (some ⟨g, o, none⟩) k c ∧ w.rangeAt g o xs)
theorem Src.later {w w' : World} {v : Value} {k size : Nat} {xs : List Value} (h : Src w v k size xs) (hb : ∀ i, i < w.heap.size → w'.heap[i]? = w.heap[i]?) : Src w' v k size xs := by
  refine ⟨h.1, h.2.imp id ?_⟩
  rintro ⟨g, o, c, hv, hr⟩
  refine ⟨g, o, c, hv, ?_⟩
  cases xs with
  | nil => intro j u hu; simp at hu
  | cons x xs => exact range_kept hr (p := fun i => i < w.heap.size) (fun i _ hp => hb i hp) (range_lt hr (by simp))
theorem range_drop {w : World} {g o : Nat} {xs : List Value} (h : w.rangeAt g o xs) (k : Nat) : w.rangeAt g (o + k) (xs.drop k) := fun j v hv => by
  rw [List.getElem?_drop] at hv
  rw [Nat.add_assoc]
  exact h (k + j) v hv
theorem range_take {w : World} {g o : Nat} {xs : List Value} (h : w.rangeAt g o xs) (k : Nat) : w.rangeAt g o (xs.take k) := fun j v hv => by
  rw [List.getElem?_take] at hv
  split at hv
  · exact h j v hv
  · cases hv
theorem own_src {w : World} {B e size n : Nat} {v : Value} {xs : List Value} (h : w.ownsRow B e size v n xs) : (v = .slice none 0 0 ∧ n = 0) ∨ ∃ g c, v = .slice (some ⟨g, 0, none⟩) n c ∧ n ≤ c ∧ w.rangeAt g 0 xs := by
  have hl := h.1
  rcases h.2 with ⟨h1, h0⟩ | ⟨g, cap, cur, hv, hb, hg, hc, _, _, ht⟩
  · exact .inl ⟨h1, h0⟩
  · refine .inr ⟨g, cap, hv, hc, fun j v hj => ?_⟩
    rw [Nat.zero_add, cell_of_row w g j cur e _ hg]
    rw [← ht, List.getElem?_take] at hj
    split at hj
    · simpa using hj
    · cases hj
/-- row[r:] -/
theorem wpList_from {P : Program} {w : World} {ops : Array Oper} {rest : List Oper} {o : Oper} {a : Act} {Q : Exit → Act → World → Prop} (hgd : o.guard = none) (T : TypeId) (s lo : Operand)
    (ho : o.op = .slice T s (some lo) none none) (e : TypeId) (size : Nat) (hT : P.underlying T = some (.slice e)) (hi : (P.info? e).map (·.size) = some size)
    (v : Value) (n r : Nat) (xs : List Value) (B : Nat) (hs : a.eval s = v) (hlo : a.eval lo = .int .i64 r) (hr : r ≤ n) (hown : w.ownsRow B e size v n xs)
    (h : ∀ v', Src w v' (n - r) size (xs.drop (r * size)) → wpList P ops Q rest (a.put o.dst v') w) : wpList P ops Q (o :: rest) a w := by
  obtain ⟨al, c, hv⟩ := own_shape hown
  have hlen := hown.1
  have hel : P.elem T = e := by simp [Program.elem, hT]
  have hT' : P.underlying T = some (.slice (P.elem T)) := by rw [hel]; exact hT
  obtain ⟨i, hi', hq⟩ := Option.map_eq_some_iff.1 hi
  have hr' : (Instr.sliceAt T v (some (.int .i64 (r : Int))) none none).run P w = .ok (sliced al r n c size) w := by
    rw [hv, run_sliceAt_slice w T _ _ _ _ hT', run_slice_l w T al n c hT' .i64 (r : Int) (by omega) (by omega), hel]
    simp [sizeOf, typeInfo, hi', Result.andThen, hq]
  refine wpList_plain hgd fun K hK => ?_
  unfold Oper.wp execOp
  simp only [ho, Option.map, hs, hlo, Sem.run_bind, Result.andThen_ok, hr']
  refine hK _ _ (h _ ⟨by rw [List.length_drop, hlen, Nat.sub_mul], ?_⟩)
  rcases own_src hown with ⟨h1, h2⟩ | ⟨g, c', h1, hc, h2⟩
  · rw [hv] at h1
    simp only [Value.slice.injEq] at h1
    obtain ⟨rfl, rfl, rfl⟩ := h1
    refine .inl ⟨?_, by omega⟩
    have h0 : r = 0 := by omega
    subst h0
    simp [sliced]
  · rw [hv] at h1
    simp only [Value.slice.injEq, true_and] at h1
    obtain ⟨rfl, rfl⟩ := h1
    unfold sliced
    by_cases hcr : c = r
    · rw [if_pos hcr]
      refine .inr ⟨g, 0, _, rfl, ?_⟩
      have h4 : xs.drop (r * size) = [] := List.drop_eq_nil_of_le (by rw [hlen]; exact Nat.mul_le_mul_right _ (by omega))
      rw [h4]
      intro j u hu; simp at hu
    · rw [if_neg hcr]
      refine .inr ⟨g, 0 + r * size, c - r, ?_, range_drop h2 _⟩
      simp [Addr.add_mid]
/-- row[:r] -/
theorem wpList_to {P : Program} {w : World} {ops : Array Oper} {rest : List Oper} {o : Oper} {a : Act} {Q : Exit → Act → World → Prop} (hgd : o.guard = none) (T : TypeId) (s hi_ : Operand)
    (ho : o.op = .slice T s none (some hi_) none) (e : TypeId) (size : Nat) (hT : P.underlying T = some (.slice e)) (hi : (P.info? e).map (·.size) = some size)
    (v : Value) (n r : Nat) (xs : List Value) (B : Nat) (hs : a.eval s = v) (hlo : a.eval hi_ = .int .i64 r) (hr : r ≤ n) (hown : w.ownsRow B e size v n xs)
    (h : ∀ v', Src w v' r size (xs.take (r * size)) → wpList P ops Q rest (a.put o.dst v') w) : wpList P ops Q (o :: rest) a w := by
  obtain ⟨al, c, hv⟩ := own_shape hown
  have hlen := hown.1
  have hel : P.elem T = e := by simp [Program.elem, hT]
  have hT' : P.underlying T = some (.slice (P.elem T)) := by rw [hel]; exact hT
  obtain ⟨i, hi', hq⟩ := Option.map_eq_some_iff.1 hi
  have hnc : n ≤ c := by
    rcases own_src hown with ⟨h1, h2⟩ | ⟨g, c', h1, hc, h2⟩
    · omega
    · rw [hv] at h1
      simp only [Value.slice.injEq, true_and] at h1
      omega
  have hr' : (Instr.sliceAt T v none (some (.int .i64 (r : Int))) none).run P w = .ok (sliced al 0 r c size) w := by
    rw [hv, run_sliceAt_slice w T _ _ _ _ hT', run_slice_h w T al n c hT' .i64 (r : Int) (by omega) (by omega), hel]
    simp [sizeOf, typeInfo, hi', Result.andThen, hq]
  refine wpList_plain hgd fun K hK => ?_
  unfold Oper.wp execOp
  simp only [ho, Option.map, hs, hlo, Sem.run_bind, Result.andThen_ok, hr']
  refine hK _ _ (h _ ⟨by rw [List.length_take, hlen]; exact Nat.min_eq_left (Nat.mul_le_mul_right _ hr), ?_⟩)
  rcases own_src hown with ⟨h1, h2⟩ | ⟨g, c', h1, hc, h2⟩
  · rw [hv] at h1
    simp only [Value.slice.injEq] at h1
    obtain ⟨rfl, rfl, rfl⟩ := h1
    refine .inl ⟨?_, by omega⟩
    have h0 : r = 0 := by omega
    subst h0
    simp [sliced]
  · rw [hv] at h1
    simp only [Value.slice.injEq, true_and] at h1
    obtain ⟨rfl, rfl⟩ := h1
    refine .inr ⟨g, 0, c, ?_, range_take h2 _⟩
    unfold sliced
    split <;> simp [Addr.add_mid]
/-- append(nil, row...) -/
theorem wpList_fromnil {P : Program} {w : World} {ops : Array Oper} {rest : List Oper} {o : Oper} {a : Act} {Q : Exit → Act → World → Prop} (hgd : o.guard = none) (s x : Operand) (t : TypeId)
    (ho : o.op = .call { callee := .builtin .append, args := #[s, x], argTypes := #[t, t] }) (base : Nat) (e : TypeId) (z : Value) (size bytes : Nat) (ht : P.underlying t = some (.slice e))
    (hi : (P.info? e).map (fun i => (i.zero, i.size, i.bytes)) = some (some z, size, bytes)) (hzs : z.cells.size = size) (hsz : 0 < size)
    (hs : a.eval s = .slice none 0 0) (v : Value) (k : Nat) (news : List Value) (hx : a.eval x = v) (hS : Src w v k size news) (h1 : ∀ u ∈ news, u.oneCell' = true)
    (h63 : k ≤ 9223372036854775807) (hbytes : k * bytes ≤ 140737488355328) (hbs : base ≤ w.heap.size)
    (h : ∀ v' w', w'.ownsRow base e size v' k news → w.grownBy w' none → (v'.ownBlock = none ∨ ∃ f, v'.ownBlock = some f ∧ w.heap.size ≤ f) → wpList P ops Q rest (a.put o.dst v') w') : wpList P ops Q (o :: rest) a w := by
  obtain ⟨i, hi', hq⟩ := Option.map_eq_some_iff.1 hi
  simp only [Prod.mk.injEq] at hq
  obtain ⟨q1, q2, q3⟩ := hq
  rcases hS.2 with ⟨rfl, rfl⟩ | ⟨g, of, c, rfl, hr⟩
  · have hn : news = [] := by have := hS.1; simpa using this
    subst hn
    have hr := run_append_owned_none (P := P) w base t o.type e i size ht hi' (.slice none 0 0) 0 [] (World.ownsRow_nil _ _ _ _)
    refine wpList_plain hgd fun K hK => ?_
    unfold Oper.wp execOp
    simp only [ho, resolve, invoke, builtin, Sem.run_bind, Sem.run_pure, Result.andThen_ok, List.map_toArray, List.map_cons, List.map_nil, hs, hx, hr]
    exact hK _ _ (h _ _ (World.ownsRow_nil _ _ _ _) ⟨rfl, rfl, rfl, Nat.le_refl _, fun _ _ _ => rfl⟩ (.inl rfl))
  · refine wpList_append_own_at (w := w) hgd s x t ho base e i z size bytes ht hi' q1 q2 q3 hzs hsz (.slice none 0 0) 0 [] hs (World.ownsRow_nil _ _ _ _) ⟨g, of, none⟩ k c news hx hS.1 (fun j y hj => by rw [Addr.add_mid]; exact hr j y hj) h1 (by unfold maxLen; omega) (by rw [Nat.zero_add]; exact hbytes) hbs ?_
    intro v' w' a1 a2 _ a4
    rw [Nat.zero_add, List.nil_append] at a1
    exact h v' w' a1 a2 (a4.imp (fun h => h) fun h => ⟨_, h, Nat.le_refl _⟩)
theorem snoc_block {w : World} {B e size n S k : Nat} {v v' : Value} {xs : List Value} (hO : w.ownsRow B e size v' (n + 1) xs) (hb : v'.ownBlock = v.ownBlock ∨ v'.ownBlock = some k) (hv : v.ownBlock = none ∨ ∃ f, v.ownBlock = some f ∧ S ≤ f) (hk : S ≤ k) : ∃ f, v'.ownBlock = some f ∧ S ≤ f := by
  obtain ⟨g, cap, rfl, _⟩ := own_range hO (Nat.succ_pos _)
  rcases hb with hb | hb
  · rcases hv with h | ⟨f, h, hf⟩
    · rw [h] at hb; cases hb
    · exact ⟨f, hb.trans h, hf⟩
  · exact ⟨k, hb, hk⟩

/-! the two joins, of any part -/
theorem join_nil (w : World) : Calls Tryd.prog 22 #[.slice none 0 0] w fun e w' => e = .returned .nilIface ∧ w = w' := by
  go_enter Tryd.func22, Tryd.ntmps22
  go_wp2
  refine wp_loop_rounds 1 ?_
  rw [rounds_succ]
  go_wp2
  go_ret
  exact ⟨rfl, rfl⟩
theorem join_src (p : Nat → Prop) (v : Value) (k : Nat) (vs : List Value) (os : List (Option ET)) (w : World) (hS : Src w v k 1 vs) (hE : Eos w p vs os) (hk : k ≤ 1000000) :
    Calls Tryd.prog 22 #[v] w fun e w' => ∃ v', e = .returned v' ∧ (v' = .nilIface ∨ ∃ b : Nat, v' = .iface 75 (.pointer (some ⟨b, 0, none⟩))) ∧ Eo w' (fun _ => True) v' (joinO os) ∧ Below w.heap.size w w' := by
  have hlen : os.length = k := by rw [← hE.length, hS.1, Nat.mul_one]
  rcases hS.2 with ⟨rfl, rfl⟩ | ⟨g, o, c, rfl, hr⟩
  · obtain rfl : os = [] := List.length_eq_zero_iff.1 hlen
    refine (join_nil w).mono ?_
    rintro e w' ⟨rfl, rfl⟩
    exact ⟨_, rfl, .inl rfl, rfl, Below.refl _ _⟩
  · refine (join_any p g o k c vs os w hlen hr hE hk).mono ?_
    rintro e w' ⟨v', rfl, h1, h2⟩
    refine ⟨v', rfl, ?_, h1.mono fun _ _ _ => trivial, h2⟩
    unfold joinO at h1
    split at h1
    · exact .inl h1
    · have h1 : Er w' _ v' (.join _) := h1
      cases h1 with
      | join b => exact .inr ⟨b, rfl⟩
theorem refjoin_nil (w : World) : Calls Tryd.prog 27 #[.slice none 0 0] w fun e w' => e = .returned (.agg zeroT) ∧ Below w.heap.size w w' := by
  have bel : Below w.heap.size w (w.alloc (.cells zeroT 32)) := (Below.refl _ _).alloc (Nat.le_refl _) _
  have hb := Blk.new w zeroT 32
  go_enter Tryd.func27, Tryd.ntmps27
  go_upto_region 1 with (fail)
  generalize hW : w.alloc _ = W
  rw [show w.alloc (.cells zeroT 32) = W from hW] at bel hb
  go_wp2
  refine wp_loop_rounds 1 ?_
  rw [rounds_succ]
  go_wp2_with (refine p_storeT rfl _ _ rfl w.heap.size rfl zeroT rfl rfl (tree_one ..) zeroT rfl hb ?_)
  exact bodyPost_ret (results_tree Tryd.results27 _ _ w.heap.size zeroT rfl rfl (hb.setRow _)) rfl ⟨rfl, bel_row bel _ (Nat.le_refl _) _⟩
theorem flatT_drop : ∀ (xs : List (Array Value)), (∀ X ∈ xs, X.size = 4) → ∀ r, (flatT xs).drop (r * 4) = flatT (xs.drop r) ∧ (flatT xs).take (r * 4) = flatT (xs.take r)
  | [], _, r => by simp [flatT]
  | Y :: xs, hs, 0 => by simp [flatT]
  | Y :: xs, hs, r + 1 => by
    have hY : Y.toList.length = 4 := by rw [Array.length_toList]; exact hs Y (List.mem_cons_self ..)
    obtain ⟨h1, h2⟩ := flatT_drop xs (fun Z hZ => hs Z (List.mem_cons_of_mem _ hZ)) r
    rw [List.drop_succ_cons, List.take_succ_cons, ← h1, show flatT (Y :: xs.take r) = Y.toList ++ flatT (xs.take r) from rfl, ← h2, show flatT (Y :: xs) = Y.toList ++ flatT xs from rfl]
    constructor
    · rw [List.drop_append, List.drop_eq_nil_of_le (by omega), List.nil_append, hY, show (r + 1) * 4 - 4 = r * 4 by omega]
    · rw [List.take_append, List.take_of_length_le (by omega), hY, show (r + 1) * 4 - 4 = r * 4 by omega]
theorem refjoin_src (p : Nat → Prop) (v : Value) (k : Nat) (xs : List (Array Value)) (os : List (Option ET)) (w : World) (hS : Src w v k 4 (flatT xs)) (hE : Tos w p xs os) (hk : k ≤ 1000000) :
    Calls Tryd.prog 27 #[v] w fun e w' => ∃ X, e = .returned (.agg X) ∧ To w' (fun _ => True) X (joinO os) ∧ Below w.heap.size w w' := by
  have hlen : os.length = k := by
    have h1 := hS.1
    rw [flatT_length xs hE.size, hE.1] at h1
    omega
  rcases hS.2 with ⟨rfl, rfl⟩ | ⟨g, o, c, rfl, hr⟩
  · obtain rfl : os = [] := List.length_eq_zero_iff.1 hlen
    refine (refjoin_nil w).mono ?_
    rintro e w' ⟨rfl, hb⟩
    exact ⟨_, rfl, rfl, hb⟩
  · refine (refjoin_any p g o k c xs os w hlen (flat_range hE.size hr) hE hk).mono ?_
    rintro e w' ⟨X, rfl, h1, h2⟩
    exact ⟨X, rfl, h1.mono fun _ _ _ => trivial, h2⟩
theorem Eos.cut {w : World} {p : Nat → Prop} {vs : List Value} {os : List (Option ET)} (h : Eos w p vs os) (r : Nat) : Eos w p (vs.drop r) (os.drop r) ∧ Eos w p (vs.take r) (os.take r) := by
  refine ⟨Eos.mk (by rw [List.length_drop, List.length_drop, h.length]) fun j v o h1 h2 => ?_, Eos.mk (by rw [List.length_take, List.length_take, h.length]) fun j v o h1 h2 => ?_⟩
  · rw [List.getElem?_drop] at h1 h2
    exact h.get _ v o h1 h2
  · rw [List.getElem?_take] at h1 h2
    split at h1
    · rename_i hj
      rw [if_pos hj] at h2
      exact h.get j v o h1 h2
    · cases h1
theorem Tos.cut {w : World} {p : Nat → Prop} {xs : List (Array Value)} {os : List (Option ET)} (h : Tos w p xs os) (r : Nat) : Tos w p (xs.drop r) (os.drop r) ∧ Tos w p (xs.take r) (os.take r) := by
  refine ⟨⟨by rw [List.length_drop, List.length_drop, h.1], fun j v o h1 h2 => ?_⟩, ⟨by rw [List.length_take, List.length_take, h.1], fun j v o h1 h2 => ?_⟩⟩
  · rw [List.getElem?_drop] at h1 h2
    exact h.2 _ v o h1 h2
  · rw [List.getElem?_take] at h1 h2
    split at h1
    · rename_i hj
      rw [if_pos hj] at h2
      exact h.2 j v o h1 h2
    · cases h1
/-- the two rows, laid anew behind all -/
theorem cut_fin {B : Nat} {W W1 W3 W7 : World} {lv mv : Value} {us : List Value} {xs : List (Array Value)} {L : List (Option ET)} (hB : B ≤ W.heap.size) (hL : LRow B W lv mv us L) (hM : MRow B W lv mv xs L)
    (h1 : Below W.heap.size W W1) {a : Value} {oa : Option ET} {pa : Nat → Prop} (hEa : Eo W1 pa a oa) (h3 : Below W1.heap.size W1 W3) {X : Array Value} {pX : Nat → Prop} {oX : Option ET} (hX : To W3 pX X oX) (h7 : Below W3.heap.size W3 W7)
    {x y : Value} (hx : ∃ f, x.ownBlock = some f ∧ W3.heap.size ≤ f) (hy : ∃ f, y.ownBlock = some f ∧ W3.heap.size ≤ f) (r : Nat) (hr : r ≤ L.length)
    (ox : W7.ownsRow B 30 1 x (r + 1) (us.take r ++ [a])) (oy : W7.ownsRow B 32 4 y (r + 1) ((flatT xs).take (r * 4) ++ X.toList)) :
    LRow B W7 x y (us.take r ++ [a]) (L.take r ++ [oa]) ∧ MRow B W7 x y (xs.take r ++ [X]) (L.take r ++ [oX]) ∧ Below B W W7 := by
  obtain ⟨f, hx, hf⟩ := hx
  obtain ⟨f', hy, hf'⟩ := hy
  have b13 : Below W.heap.size W W3 := h1.trans (h3.mono h1.size)
  have b17 : Below W1.heap.size W1 W7 := h3.trans (h7.mono h3.size)
  have b07 : Below W.heap.size W W7 := h1.trans (b17.mono h1.size)
  have hoff : ∀ i, i < W3.heap.size → off x y i := fun i hi => ⟨by rw [hx]; simp; omega, by rw [hy]; simp; omega⟩
  have hlen : (L.take r).length = r := by rw [List.length_take]; omega
  have ke : ∀ {w : World} {p : Nat → Prop} {v : Value} {o : Option ET}, Below w.heap.size w W7 → w.heap.size ≤ W3.heap.size → Eo w p v o → Eo W7 (off x y) v o := fun {w p v o} hb hs h =>
    ((h.mono (q := fun i => i < w.heap.size) fun i hi _ => hi).kept fun i hi _ => hb.block i hi).mono fun i _ hp => hoff i (Nat.lt_of_lt_of_le hp hs)
  have kt : ∀ {w : World} {p : Nat → Prop} {v : Array Value} {o : Option ET}, Below w.heap.size w W7 → w.heap.size ≤ W3.heap.size → To w p v o → To W7 (off x y) v o := fun {w p v o} hb hs h =>
    ((h.mono (q := fun i => i < w.heap.size) fun i hi _ => hi).kept fun i hi _ => hb.block i hi).mono fun i _ hp => hoff i (Nat.lt_of_lt_of_le hp hs)
  refine ⟨⟨by rw [List.length_append, hlen]; exact ox, ?_⟩, ⟨?_, ?_⟩, b07.mono hB⟩
  · refine Eos.append (Eos.mk (hL.is.cut r).2.length fun j v o g1 g2 => ke b07 b13.size ((hL.is.cut r).2.get j v o g1 g2)) ⟨ke b17 h3.size hEa, trivial⟩
  · rw [List.length_append, hlen, flatT_snoc, ← (flatT_drop xs hM.is.size r).2]
    exact oy
  · exact Tos.snoc ⟨(hM.is.cut r).2.1, fun j v o g1 g2 => kt b07 b13.size ((hM.is.cut r).2.2 j v o g1 g2)⟩ (kt h7 (Nat.le_refl _) hX)
theorem infoTr : (Tryd.prog.info? 32).map (·.size) = some 4 := by kernel_rfl
theorem infoEr : (Tryd.prog.info? 30).map (·.size) = some 1 := by kernel_rfl
theorem blk_ge {v : Value} {S : Nat} (h : v.ownBlock = none ∨ ∃ f, v.ownBlock = some f ∧ S ≤ f) : ∀ k, v.ownBlock = some k → S ≤ k := fun k hk => by
  rcases h with h | ⟨f, h, hf⟩
  · rw [h] at hk; cases hk
  · rw [h] at hk; cases hk; exact hf
theorem two_steps {W W4 W5 : World} {x0 : Value} {o : Obj} (h4 : W.grownBy W4 none) (hb : x0.ownBlock = none ∨ ∃ f, x0.ownBlock = some f ∧ W.heap.size ≤ f) (h5 : (W4.alloc o).grownBy W5 x0.ownBlock) : Below W.heap.size W W5 :=
  ((Below.refl W.heap.size W).grown h4 (Nat.le_refl _) (by simp)).grown (grow_alloc h5) h4.size (blk_ge hb)
theorem one_step {W W4 : World} (h4 : W.grownBy W4 none) : Below W.heap.size W W4 := (Below.refl W.heap.size W).grown h4 (Nat.le_refl _) (by simp)
theorem own_on {w w' : World} {B e size n : Nat} {v : Value} {xs : List Value} (h : w.ownsRow B e size v n xs) (hb : Below w.heap.size w w') : w'.ownsRow B e size v n xs :=
  h.kept (row := none) ⟨hb.os, hb.tape, hb.output, hb.size, fun k hk _ => hb.block k hk⟩ (by cases v.ownBlock <;> simp)
end Go.Proofs.YtgpmfiphebmldaaDoor
