/- The document's Codes, Code, Has and Again. -/
import Derived.Test.YtgpmfiphebmldaaDoorBlaRefJ
import Derived.Test.YtgpmfiphebmldaaDoorBlaTell
namespace Go.Proofs.YtgpmfiphebmldaaDoor
open Go.RowKit Go.Sort

def ET.kids : ET → List ET
  | .code _ => []
  | .wrap _ t => [t]
  | .join l => l
def ET.isCode : ET → Bool
  | .code _ => true
  | _ => false
theorem kids_codes (t : ET) (h : t.isCode = false) : t.codes = ET.codesL t.kids := by
  cases t with
  | code c => cases h
  | wrap op t => simp [ET.codes, ET.kids, ET.codesL]
  | join l => simp [ET.codes, ET.kids]
theorem kids_wt (t : ET) : ET.wtL t.kids ≤ t.wt := by
  cases t with
  | code c => simp [ET.kids, ET.wtL]
  | wrap op t => simp only [ET.kids, ET.wtL, ET.wt]; omega
  | join l => simp [ET.kids, ET.wt]
theorem ET.ind' {P : ET → Prop} (h : ∀ t : ET, (∀ s, s ∈ t.kids → P s) → P t) : ∀ t, P t := by
  intro t
  induction t using ET.ind with
  | hc c => exact h _ fun s hs => by cases hs
  | hw op t ih => exact h _ fun s hs => by simp [ET.kids] at hs; rw [hs]; exact ih
  | hj l ih => exact h _ fun s hs => ih s hs
/-- a tree's parts -/
theorem tr_parts {w : World} {p : Nat → Prop} {X : Array Value} {t : ET} (h : Tr w p X t) (hc : t.isCode = false) : ∃ (op : ByteArray) (g cap : Nat) (xs : List (Array Value)), X = treeC (kindO (some t)) 0 op (.slice (some ⟨g, 0, none⟩) t.kids.length cap) ∧ (kindO (some t) == 1) = false ∧ xs.length = t.kids.length ∧ g < w.heap.size ∧ p g ∧
    (∀ (j : Nat) Y, xs[j]? = some Y → w.rangeAt g (j * 4) Y.toList) ∧ (∀ (j : Nat) Y s, xs[j]? = some Y → t.kids[j]? = some s → Tr w p Y s) := by
  cases h with
  | code c => cases hc
  | wrap g cap op Y s hp _ hr hY =>
    refine ⟨op, g, cap, [Y], rfl, rfl, rfl, range_lt hr hY.ne, hp, ?_, ?_⟩
    · intro j Z hj
      rcases Nat.eq_zero_or_pos j with h0 | h0
      · subst h0
        simp at hj; subst hj; simpa using hr
      · rw [List.getElem?_eq_none (by simp; omega)] at hj; cases hj
    · intro j Z q h1 h2
      rcases Nat.eq_zero_or_pos j with h0 | h0
      · subst h0
        simp [ET.kids] at h1 h2; subst h1; subst h2; exact hY
      · rw [List.getElem?_eq_none (by simp; omega)] at h1; cases h1
  | join g cap xs ts hp hn _ hl hr hX =>
    have h0 : 0 < ts.length := List.length_pos_iff.2 hn
    refine ⟨⟨#[]⟩, g, cap, xs, rfl, rfl, hl, ?_, hp, ?_, hX⟩
    · exact range_lt (hr 0 (xs[0]'(by omega)) (List.getElem?_eq_getElem _)) (hX 0 (xs[0]'(by omega)) ts[0] (List.getElem?_eq_getElem _) (List.getElem?_eq_getElem _)).ne
    · intro j Y hj; rw [Nat.mul_comm]; exact hr j Y hj

def intV (l : List Int) : List Value := l.map (Value.int .i64)
theorem infoErrno : (Tryd.prog.info? 23).map (fun i => (i.zero, i.size, i.bytes)) = some (some (.int .i64 0), 1, 8) := by kernel_rfl
def Ints (B : Nat) (v : Value) (l : List Int) (w : World) : Prop := w.ownsRow B 23 1 v l.length (intV l)
/-- a row is put behind an own row -/
theorem wpList_cat {P : Program} {w : World} {ops : Array Oper} {rest : List Oper} {o : Oper} {a : Act} {Q : Exit → Act → World → Prop} (hgd : o.guard = none) (s x : Operand) (t : TypeId)
    (ho : o.op = .call { callee := .builtin .append, args := #[s, x], argTypes := #[t, t] }) (base : Nat) (e : TypeId) (z : Value) (bytes : Nat) (ht : P.underlying t = some (.slice e))
    (hi : (P.info? e).map (fun i => (i.zero, i.size, i.bytes)) = some (some z, 1, bytes)) (hzs : z.cells.size = 1)
    (v : Value) (n : Nat) (xs : List Value) (hs : a.eval s = v) (hown : w.ownsRow base e 1 v n xs) (g m c : Nat) (news : List Value) (hx : a.eval x = .slice (some ⟨g, 0, none⟩) m c) (hl : news.length = m) (hnews : w.rangeAt g 0 news) (h1 : ∀ u ∈ news, u.oneCell' = true)
    (h63 : n + m ≤ 9223372036854775807) (hbytes : (n + m) * bytes ≤ 140737488355328) (hbs : base ≤ w.heap.size)
    (h : ∀ v' w', w'.ownsRow base e 1 v' (n + m) (xs ++ news) → w.grownBy w' v.ownBlock → wpList P ops Q rest (a.put o.dst v') w') : wpList P ops Q (o :: rest) a w := by
  obtain ⟨i, hi', hq⟩ := Option.map_eq_some_iff.1 hi
  simp only [Prod.mk.injEq] at hq
  obtain ⟨q1, q2, q3⟩ := hq
  refine wpList_append_own_at (w := w) hgd s x t ho base e i z 1 bytes ht hi' q1 q2 q3 hzs (by decide) v n xs hs hown ⟨g, 0, none⟩ m c news hx (by omega) (fun j y hj => by rw [Addr.add_mid]; exact hnews j y hj) h1 (by unfold maxLen; omega) hbytes hbs ?_
  intro v' w' a1 a2 _ _
  exact h v' w' a1 a2
theorem own_later {w w' : World} {B e size n : Nat} {v : Value} {xs : List Value} (h : w.ownsRow B e size v n xs) (hb : Below w.heap.size w w') : w'.ownsRow B e size v n xs :=
  h.kept (row := none) ⟨hb.os, hb.tape, hb.output, hb.size, fun k hk _ => hb.block k hk⟩ (by cases v.ownBlock <;> simp)
theorem int_one (l : List Int) : ∀ u ∈ intV l, u.oneCell' = true := fun u hu => by
  simp only [intV, List.mem_map] at hu
  obtain ⟨n, _, rfl⟩ := hu
  rfl

/-- what Codes gives of a tree -/
def Cds (t : ET) : Prop := ∀ (X : Array Value) (w : World), Tr w (fun _ => True) X t → Calls Tryd.prog 31 #[.agg X] w fun e w' => ∃ v, e = .returned v ∧ Ints w.heap.size v t.codes w' ∧ Below w.heap.size w w'

set_option maxHeartbeats 1000000 in
set_option maxRecDepth 100000 in
theorem cds_code (c : Int) : Cds (.code c) := by
  intro X w hE
  cases hE with
  | code _ hc =>
  have b1 := Blk.new w (treeC 1 c ⟨#[]⟩ (.slice none 0 0)) 32
  have bel : Below w.heap.size w (w.alloc (.cells (treeC 1 c ⟨#[]⟩ (.slice none 0 0)) 32)) := (Below.refl _ _).alloc (Nat.le_refl _) _
  go_enter Tryd.func31, Tryd.ntmps31
  go_upto_region 1 with (fail)
  generalize hW : w.alloc _ = W
  rw [show w.alloc (.cells (treeC 1 c ⟨#[]⟩ (.slice none 0 0)) 32) = W from hW] at b1 bel
  have c0 : W.cell? ⟨w.heap.size, 0, none⟩ = some (.int .i64 1) := b1.cell 0
  have c1 : W.cell? ⟨w.heap.size, 1, none⟩ = some (.int .i64 c) := b1.cell 1
  have hs : w.heap.size ≤ W.heap.size := bel.size
  have hfin : ∀ (v' : Value) (w' : World), w'.ownsRow w.heap.size 23 1 v' (0 + 1) ([] ++ #[Value.int .i64 c].toList) → (W.alloc (.cells #[Value.int .i64 c] 23)).grownBy w' none → Ints w.heap.size v' [c] w' ∧ Below W.heap.size W w' := fun v' w' h1 h2 =>
    ⟨h1, ((Below.refl W.heap.size W).alloc (Nat.le_refl _) _).grown h2 (by rw [World.size_alloc]; omega) (fun k hk => by cases hk)⟩
  go_upto_region 4 with (at_builtin; refine wpList_snoc rfl _ _ 63 rfl w.heap.size 23 (.int .i64 0) 1 8 Tryd.underlying63 infoErrno rfl (by decide) (.slice none 0 0) 0 [] rfl (World.ownsRow_nil _ _ _ _) #[.int .i64 c] _ rfl rfl (by simp [Value.oneCell']) rfl (by omega) (by omega) hs ?_; intro v' w' hO' hG' _; obtain ⟨hI, hB'⟩ := hfin v' w' hO' hG'; clear hO' hG')
  have b1' := b1.below hB' b1.lt
  have c3 : w'.cell? ⟨w.heap.size, 3, none⟩ = some (.slice none 0 0) := b1'.cell 3
  go_wp2
  refine wp_loop_rounds 1 ?_
  rw [rounds_succ]
  go_wp2
  go_ret
  exact ⟨_, rfl, hI, bel.trans (hB'.mono bel.size)⟩

theorem kids_mem_wt {t s : ET} (h : s ∈ t.kids) : 2 + s.wt ≤ t.wt := Nat.le_trans (wtL_mem h) (kids_wt t)

set_option maxHeartbeats 1000000 in
set_option maxRecDepth 100000 in
theorem cds_node (t : ET) (hc : t.isCode = false) (hw : t.wt ≤ 1000000) (IH : ∀ s, s ∈ t.kids → Cds s) : Cds t := by
  intro X w hE
  have hok := hE.ok
  obtain ⟨op, g, cap, xs, hX, hk1, hxl, hgl, _, hr, hT⟩ := tr_parts hE hc
  have hcd := kids_codes t hc
  have hkw := kids_wt t
  have hb0 := wtL_length t.kids
  obtain ⟨n, hn⟩ : ∃ n, n = t.kids.length := ⟨_, rfl⟩
  have b1 := Blk.new w X 32
  have bel : Below w.heap.size w (w.alloc (.cells X 32)) := (Below.refl _ _).alloc (Nat.le_refl _) _
  rw [← hn] at hX hxl hb0
  have HN := Lib.hid hn
  have HR := Lib.hid hr
  have HT := Lib.hid hT
  have HI := Lib.hid IH
  have HC := Lib.hid hcd
  clear hn hr hT IH hcd hE
  generalize kindO (some t) = kd at *
  subst hX
  go_enter Tryd.func31, Tryd.ntmps31
  go_upto_region 1 with (fail)
  generalize hW : w.alloc _ = W
  rw [show w.alloc (.cells (treeC kd 0 op (.slice (some ⟨g, 0, none⟩) n cap)) 32) = W from hW] at b1 bel
  have c0 : W.cell? ⟨w.heap.size, 0, none⟩ = some (.int .i64 kd) := b1.cell 0
  have hs : w.heap.size + 1 ≤ W.heap.size := b1.lt
  go_wp2
  go_loopw [3, 4] (fun v i wr => ∃ k : Nat, k ≤ n ∧ i = .int .i64 k ∧ Below (w.heap.size + 1) W wr ∧ Ints (w.heap.size + 1) v (ET.codesL (t.kids.take k)) wr) (fun _ i _ => n - (intOf i).toNat)
  case atStart => exact ⟨0, by omega, rfl, Below.refl _ _, by simpa [ET.codesL, Ints, intV] using World.ownsRow_nil W (w.heap.size + 1) 23 1⟩
  case round =>
    obtain ⟨k, hk, rfl, hB, hO⟩ := hrel
    have HB := Lib.hid hB
    have HO := Lib.hid hO
    clear hB hO
    have b1' := b1.below HB.out (by omega)
    have c3 : wr.cell? ⟨w.heap.size, 3, none⟩ = some (.slice (some ⟨g, 0, none⟩) n cap) := b1'.cell 3
    have hBw : Below w.heap.size w wr := bel.trans (HB.out.mono (by omega))
    by_cases hlt : k < n
    · obtain ⟨Y, hyk⟩ : ∃ Y, xs[k]? = some Y := ⟨_, List.getElem?_eq_getElem (by omega)⟩
      obtain ⟨s, hsk⟩ : ∃ s, t.kids[k]? = some s := ⟨_, List.getElem?_eq_getElem (by rw [← HN.out]; omega)⟩
      have hms := List.mem_of_getElem? hsk
      have hY : Tr wr (fun _ => True) Y s := ((HT.out k Y s hyk hsk).kept (p := fun _ => True) fun i hi _ => hBw.block i hi)
      have hYs := hY.size
      have hry : wr.rangeAt g (k * 4) Y.toList := range_kept (HR.out k Y hyk) (p := fun _ => True) (fun i hi _ => hBw.block i hi) trivial
      have hC := HI.out s hms Y wr hY
      have hlen := codesL_le (t.kids.take k)
      have hlen2 := wtL_take t.kids k
      have hlen3 := codes_le s
      have hlen4 := kids_mem_wt hms
      have hsn := take_snoc t.kids k s hsk
      have hcs := codesL_snoc (t.kids.take k) s
      rw [← hsn] at hcs
      have hsok : s.codes ≠ [] := codes_ne s hY.ok
      have hs2 : w.heap.size + 1 ≤ wr.heap.size := by have := HB.out.size; omega
      have HC2 := Lib.hid hC
      have HS := Lib.hid hcs
      have HK := Lib.hid hsok
      clear hC hcs hsok hY hms hsn
      obtain ⟨L, hL⟩ : ∃ L, L = ET.codesL (t.kids.take k) := ⟨_, rfl⟩
      obtain ⟨M, hM⟩ : ∃ M, M = s.codes := ⟨_, rfl⟩
      rw [← hL] at HO HS hlen
      rw [← hM] at HC2 HS HK hlen3
      have HL := Lib.hid hL
      have HM := Lib.hid hM
      clear hL hM
      go_upto_region 7 with (fail)
      go_wp2_with (first
        | (refine p_midT rfl _ rfl g (k * 4) rfl Y hYs hry ?_)
        | (go_at_call 31; (with_reducible refine HC2.out.mono ?_); rintro e w2 ⟨v2, rfl, hv2, hb2⟩; obtain ⟨g2, cap2, rfl, hg2, hl2, hc2, hr2⟩ := own_range hv2 (List.length_pos_iff.2 HK.out); have hs3 := hb2.size)
        | (at_builtin; refine wpList_cat rfl _ _ 63 rfl (w.heap.size + 1) 23 (.int .i64 0) 8 Tryd.underlying63 infoErrno rfl u3 L.length (intV L) rfl (own_later HO.out hb2) g2 M.length cap2 (intV M) rfl (by simp [intV]) hr2 (int_one M) (by omega) (by omega) (by omega) ?_; intro v3 w3 hO3 hG3))
      refine ⟨⟨k + 1, by omega, by go_num, ?_, ?_⟩, by simp [intOf]; omega⟩
      · exact (HB.out.trans (hb2.mono hs2)).grown hG3 (by have := HB.out.size; omega) fun i hi => (HO.out.lt i hi).1
      · rw [HS.out]
        unfold Ints
        rw [List.length_append]
        have e : intV (L ++ M) = intV L ++ intV M := by simp [intV]
        rw [e]
        exact hO3
    · obtain rfl : n = k := by omega
      have hO := HO.out
      rw [HN.out, List.take_length] at hO
      have HO2 := Lib.hid hO
      clear hO HO
      go_wp2
      go_ret
      refine ⟨_, rfl, ?_, hBw⟩
      rw [HC.out]
      obtain ⟨h1, h2⟩ := HO2.out
      exact ⟨h1, h2.imp id fun ⟨g, cap, cur, a1, a2, a3⟩ => ⟨g, cap, cur, a1, by omega, a3⟩⟩

theorem cds_any (t : ET) (hw : t.wt ≤ 1000000) : Cds t := by
  induction t using ET.ind' with
  | h t ih =>
    cases hc : t.isCode with
    | true =>
      cases t with
      | code c => exact cds_code c
      | wrap op t => cases hc
      | join l => cases hc
    | false => exact cds_node t hc hw fun s hs => ih s hs (by have := kids_mem_wt hs; omega)
end Go.Proofs.YtgpmfiphebmldaaDoor
