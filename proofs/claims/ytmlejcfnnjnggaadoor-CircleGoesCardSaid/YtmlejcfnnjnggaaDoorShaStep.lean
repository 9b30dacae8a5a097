/- A step: the program's. -/
import Derived.Test.YtmlejcfnnjnggaaDoorShaWordsRef
import Derived.Laws.EntriesVeiled
namespace Go.Proofs.YtmlejcfnnjnggaaDoor
set_option maxRecDepth 100000
open Go.RowKit

/-- a state, as a value -/
def stv (h : S5) : Value := .agg (row32 h.list)
theorem infoSt : (Tryd.prog.info? 71).map (·.size) = some 5 := by kernel_rfl
theorem infoMx : (Tryd.prog.info? 84).map (·.size) = some 4 := by kernel_rfl
def zeroS : S5 := ⟨0, 0, 0, 0, 0⟩
theorem list_length (h : S5) : h.list.length = 5 := rfl
theorem infoRow (R : S5) : (Tryd.prog.info? 71).map (·.size) = some (row32 R.list).size := infoSt
theorem sizeRow (R R' : S5) : (row32 R.list).size = (row32 R'.list).size := rfl
theorem list_row_size (h : S5) : (row32 h.list).size = 5 := rfl

theorem results_arr2 {P : Program} {fn : Func} {p t : Tmp} {ty : TypeId} (h : fn.results = #[.cell p ty, .tmp t]) (tmps : Array Value) (w : World) (g : Nat) (cs : Array Value) (ty' : TypeId) (d : TypeDesc)
    (hp : tmps.getD p undef = .pointer (some ⟨g, 0, none⟩)) (hg : Blk w g cs ty') (hu : P.underlying ty = some d) (hd : (match d with | .struct _ | .array _ _ => true | _ => false) = true) (hi : (P.info? ty).map (·.size) = some cs.size) :
    (results fn tmps).run P w = .ok (.tuple #[.agg cs, tmps.getD t undef]) w := by
  have hp' : tmps[p]?.getD undef = .pointer (some ⟨g, 0, none⟩) := by simpa using hp
  simp [results, h, hp', asAddr, run_loadVar_row w g ty' ty cs (0, 0) d hg hu hd hi]

theorem results_st2 {fn : Func} {p t : Tmp} (h : fn.results = #[.cell p 71, .tmp t]) (tmps : Array Value) (w : World) (g : Nat) (R : S5) (v : Value)
    (hp : tmps.getD p undef = .pointer (some ⟨g, 0, none⟩)) (hv : tmps.getD t undef = v) (hg : Blk w g (row32 R.list) 71) :
    (results fn tmps).run Tryd.prog w = .ok (.tuple #[stv R, v]) w := by
  rw [results_arr2 h tmps w g _ 71 _ hp hg Tryd.underlying71 rfl infoSt, hv]
  rfl
theorem start_any (w : World) : Calls Tryd.prog 56 #[] w fun e w' => e = .returned (stv startS) ∧ Below w.heap.size w w' := by
  go_enter Tryd.func56, Tryd.ntmps56
  go_wp2
  refine bodyPost_ret (results_cell_row Tryd.results56 _ _ w.heap.size 71 (row32 startS.list) (0, 0) _ rfl (Blk.new w _ _) Tryd.underlying71 rfl infoSt) rfl ?_
  exact ⟨rfl, (Below.refl _ _).alloc (Nat.le_refl _) _⟩
theorem refStart_any (w : World) : Calls Tryd.prog 62 #[] w fun e w' => e = .returned (stv startS) ∧ Below w.heap.size w w' := by
  go_enter Tryd.func62, Tryd.ntmps62
  go_wp2
  refine bodyPost_ret (results_cell_row Tryd.results62 _ _ w.heap.size 71 (row32 startS.list) (0, 0) _ rfl (Blk.new w _ _) Tryd.underlying71 rfl infoSt) rfl ?_
  exact ⟨rfl, (Below.refl _ _).alloc (Nat.le_refl _) _⟩
/-- the four mixers -/
def mixV : Array Value := #[.func (.func 74) #[] #[], .func (.func 75) #[] #[], .func (.func 76) #[] #[], .func (.func 77) #[] #[]]
theorem mixers_any (w : World) : Calls Tryd.prog 67 #[] w fun e w' => e = .returned (.agg mixV) ∧ Below w.heap.size w w' := by
  go_enter Tryd.func67, Tryd.ntmps67
  go_wp2
  refine bodyPost_ret (results_cell_row Tryd.results67 _ _ w.heap.size 84 mixV (0, 0) _ rfl (Blk.new w _ _) Tryd.underlying84 rfl infoMx) rfl ?_
  exact ⟨rfl, (Below.refl _ _).alloc (Nat.le_refl _) _⟩
theorem mixers_lit (w : World) : Calls Tryd.prog 67 #[] w fun e w' => e = .returned (.agg #[.func (.func 74) #[] #[], .func (.func 75) #[] #[], .func (.func 76) #[] #[], .func (.func 77) #[] #[]]) ∧ Below w.heap.size w w' := mixers_any w
theorem run_callFunc {P : Program} {f : FuncId} {fn : Func} (hf : P.funcs[f]? = some fn) (hname : (fn.name == "runtime.NumGoroutine") = false) (hb : fn.body.isNone = false) (args : Array Value) (w : World) :
    (callFunc f args).run P w = .ok (.enter f args) w := by
  have h1 : fn.name ≠ "runtime.NumGoroutine" := by simpa using hname
  have h2 : ¬ fn.body = none := by intro e; rw [e] at hb; cases hb
  simp [callFunc, hf, h1, h2]
/-- a mixer, whichever -/
theorem mix_of (t : Nat) (h : t < 80) : ∃ f : FuncId, mixV[t / 20]? = some (.func (.func f) #[] #[]) ∧ (∀ args w, (callFunc f args).run Tryd.prog w = .ok (.enter f args) w) ∧ ∀ (b c d : Nat) (w : World), b < 4294967296 → c < 4294967296 → d < 4294967296 →
    Calls Tryd.prog f #[.int .u32 (b : Int), .int .u32 (c : Int), .int .u32 (d : Int)] w fun e w' => e = .returned (.tuple #[.int .u32 ((fOf t b c d : Nat) : Int), .int .u32 ((kOf t : Nat) : Int)]) ∧ w = w' := by
  rcases (by omega : t < 20 ∨ (20 ≤ t ∧ t < 40) ∨ (40 ≤ t ∧ t < 60) ∨ 60 ≤ t) with h1 | h1 | h1 | h1
  · rw [show t / 20 = 0 by omega]; exact ⟨_, rfl, run_callFunc Tryd.func74 (by kernel_rfl) (by kernel_rfl), fun b c d w hb hc hd => mix1 t b c d w hb hc hd h1⟩
  · rw [show t / 20 = 1 by omega]; exact ⟨_, rfl, run_callFunc Tryd.func75 (by kernel_rfl) (by kernel_rfl), fun b c d w hb hc hd => mix2 t b c d w hb hc hd h1⟩
  · rw [show t / 20 = 2 by omega]; exact ⟨_, rfl, run_callFunc Tryd.func76 (by kernel_rfl) (by kernel_rfl), fun b c d w hb hc hd => mix3 t b c d w hb hc hd h1⟩
  · rw [show t / 20 = 3 by omega]; exact ⟨_, rfl, run_callFunc Tryd.func77 (by kernel_rfl) (by kernel_rfl), fun b c d w hb hc hd => mix4 t b c d w hb hc hd h1⟩

theorem box_st (h : S5) : stv h = .agg #[.int .u32 (h.a : Nat), .int .u32 (h.b : Nat), .int .u32 (h.c : Nat), .int .u32 (h.d : Nat), .int .u32 (h.e : Nat)] := rfl
theorem step_no (h : S5) (s : ByteArray) (w : World) (hs : s.size ≠ 64) : Calls Tryd.prog 57 #[stv h, .string s] w fun e w' => e = .returned (.tuple #[stv zeroS, .int .i64 1]) ∧ Below w.heap.size w w' := by
  rw [box_st]
  go_enter Tryd.func57, Tryd.ntmps57
  go_wp2_with (go_at_call 66; refine (words_no s _ hs).mono ?_; rintro e w' ⟨rfl, rfl⟩)
  refine bodyPost_ret (results_arr2 Tryd.results57 _ _ (w.heap.size + 1) (row32 zeroS.list) 71 _ rfl (heap_alloc2_new _ _ _) Tryd.underlying71 rfl infoSt) rfl ?_
  exact ⟨rfl, ((Below.refl _ _).alloc (Nat.le_refl _) _).alloc (by simp) _⟩
theorem refStep_no (h : S5) (s : ByteArray) (w : World) (hs : s.size ≠ 64) : Calls Tryd.prog 63 #[stv h, .string s] w fun e w' => e = .returned (.tuple #[stv zeroS, .int .i64 1]) ∧ Below w.heap.size w w' := by
  rw [box_st]
  go_enter Tryd.func63, Tryd.ntmps63
  go_wp2_with (go_at_call 71; refine (refWords_no s _ hs).mono ?_; rintro e w' ⟨rfl, rfl⟩)
  refine bodyPost_ret (results_arr2 Tryd.results63 _ _ (w.heap.size + 1) (row32 zeroS.list) 71 _ rfl (heap_alloc2_new _ _ _) Tryd.underlying71 rfl infoSt) rfl ?_
  exact ⟨rfl, ((Below.refl _ _).alloc (Nat.le_refl _) _).alloc (by simp) _⟩

/-- the memory of Step -/
structure MemS (w wr : World) (g p q : Nat) (s : ByteArray) (h : S5) (m : List Nat) : Prop where
  below : Below w.heap.size w wr
  h : Blk wr w.heap.size (row32 h.list) 71
  z : Blk wr (w.heap.size + 1) (row32 zeroS.list) 71
  words : ∀ t, t < 80 → wr.cell? ⟨g, t, none⟩ = some (.int .u32 (wd s t : Nat))
  mix : Blk wr p mixV 84
  m : Blk wr q (row32 m) 71
  gq : g ≠ q
  pq : p ≠ q
  hq : w.heap.size + 1 < q
theorem MemS.drew {w wr : World} {g p q : Nat} {s : ByteArray} {h : S5} {m : List Nat} (k : MemS w wr g p q s h m) : MemS w wr.drew g p q s h m :=
  ⟨k.below.drew, k.h, k.z, k.words, k.mix, k.m, k.gq, k.pq, k.hq⟩
theorem MemS.drewN {w wr : World} {g p q : Nat} {s : ByteArray} {h : S5} {m : List Nat} (k : MemS w wr g p q s h m) (n : Nat) : MemS w (wr.drewN n) g p q s h m :=
  ⟨bel_drewN k.below n, k.h.drewN n, k.z.drewN n, fun t ht => (by simpa using k.words t ht), k.mix.drewN n, k.m.drewN n, k.gq, k.pq, k.hq⟩
theorem MemS.row {w wr : World} {g p q : Nat} {s : ByteArray} {h : S5} {m : List Nat} (k : MemS w wr g p q s h m) (m' : List Nat) : MemS w (wr.setRow q (row32 m')) g p q s h m' :=
  ⟨bel_setRow k.below (by have := k.hq; omega) _, k.h.setRow_other _ _ (by have := k.hq; omega), k.z.setRow_other _ _ (by have := k.hq; omega),
    fun t ht => (cell_setRow_other wr q _ ⟨g, t, none⟩ (by simpa using k.gq)).trans (k.words t ht), k.mix.setRow_other _ _ k.pq, k.m.setRow _, k.gq, k.pq, k.hq⟩
theorem MemS.put {w wr : World} {g p q : Nat} {s : ByteArray} {h : S5} {m : List Nat} (k : MemS w wr g p q s h m) (i v : Nat) : MemS w (wr.setCell ⟨q, i, none⟩ (.int .u32 (v : Int))) g p q s h (m.set i v) :=
  ⟨k.below.setCell (p := ⟨q, i, none⟩) (by have := k.hq; simp; omega) _, k.h.other _ _ _ (by have := k.hq; omega), k.z.other _ _ _ (by have := k.hq; omega),
    fun t ht => by
      have := k.words t ht
      rw [World.cell?, heap_setCell_other _ _ _ _ (by simpa using k.gq)]
      exact this, k.mix.other _ _ _ k.pq, by rw [← row32_set]; exact k.m.put _ _, k.gq, k.pq, k.hq⟩

theorem rnd_wrap (a f e k x : Nat) : IntKind.u32.wrap (IntKind.u32.wrap (IntKind.u32.wrap (IntKind.u32.wrap ((a : Int) + f) + e) + k) + x) = (((((a + f) % 4294967296 + e) % 4294967296 + k) % 4294967296 + x) % 4294967296 : Nat) := by
  simp only [IntKind.wrap_u32']; omega

/-- the first k of the numbers are added -/
def addf (h m : S5) (k i : Nat) : Nat := if i < k then (m.list.getD i 0 + h.list.getD i 0) % 4294967296 else m.list.getD i 0
theorem list_tab (m : S5) : m.list = tab 5 (fun i => m.list.getD i 0) := rfl
theorem addf_zero (h m : S5) : tab 5 (addf h m 0) = m.list := rfl
theorem addf_full (h m : S5) : tab 5 (addf h m 5) = (added h m).list := by
  unfold added
  simp only [Nat.add_comm h.a, Nat.add_comm h.b, Nat.add_comm h.c, Nat.add_comm h.d, Nat.add_comm h.e]
  rfl
theorem addf_step (h m : S5) (k : Nat) : (tab 5 (addf h m k)).set k ((m.list.getD k 0 + h.list.getD k 0) % 4294967296) = tab 5 (addf h m (k + 1)) := by
  rw [tab_set]
  refine tab_congr fun i _ => ?_
  unfold addf
  by_cases e : i = k
  · rw [if_pos e, if_pos (by omega), e]
  · rw [if_neg e]
    by_cases e2 : i < k
    · rw [if_pos e2, if_pos (by omega)]
    · rw [if_neg e2, if_neg (by omega)]
theorem list_lt {m : S5} (h : m.ok) (i : Nat) : m.list.getD i 0 < 4294967296 := by
  obtain ⟨ha, hb, hc, hd, he⟩ := h
  match i with
  | 0 => exact ha
  | 1 => exact hb
  | 2 => exact hc
  | 3 => exact hd
  | 4 => exact he
  | n + 5 => simp [S5.list]

set_option maxHeartbeats 2000000 in
set_option maxRecDepth 100000 in
theorem step_yes (st : S5) (hok : st.ok) (s : ByteArray) (w : World) (hs : s.size = 64) : Calls Tryd.prog 57 #[stv st, .string s] w fun e w' => e = .returned (.tuple #[stv (stepS st s), .int .i64 0]) ∧ Below w.heap.size w w' := by
  have HS := Lib.hid hs
  have HOK := Lib.hid hok
  clear hs hok
  rw [box_st]
  go_enter Tryd.func57, Tryd.ntmps57
  go_upto_region 2 with (go_at_call 66; refine (words_yes s _ HS.out).mono ?_; rintro e w1 ⟨g, cap, rfl, hg, hwd, hb⟩)
  have B1 : Below w.heap.size w w1 := (((Below.refl _ _).alloc (Nat.le_refl _) _).alloc (by simp) _).trans (hb.mono (by simp; omega))
  have H1 : Blk w1 w.heap.size (row32 st.list) 71 := Blk.below (heap_alloc2_old _ _ _) hb (by simp; omega)
  have Z1 : Blk w1 (w.heap.size + 1) (row32 zeroS.list) 71 := Blk.below (heap_alloc2_new _ _ _) hb (by simp)
  have hsz : w.heap.size + 2 ≤ w1.heap.size := by have := hb.size; simp at this; omega
  have HW := Lib.hid hwd
  clear hb hwd
  go_upto_region 5 with (go_at_call 67; refine (mixers_lit _).mono ?_; rintro e w2 ⟨rfl, hb⟩)
  have B2 : Below w.heap.size w (w2.alloc (.cells mixV 84)) := (B1.trans (hb.mono B1.size)).alloc (Nat.le_trans B1.size hb.size) _
  have H2 := (H1.below hb H1.lt).alloc (.cells mixV 84)
  have Z2 := (Z1.below hb Z1.lt).alloc (.cells mixV 84)
  have M2 := Blk.new w2 mixV 84
  have W2 : Hid (∀ t, t < 80 → (w2.alloc (.cells mixV 84)).cell? ⟨g, t, none⟩ = some (.int .u32 (wd s t : Nat))) := fun t ht => by
    have h1 := HW.out t ht
    have h2 := hb.cell (p := ⟨g, t, none⟩) hg
    have h3 : (w2.alloc (.cells mixV 84)).cell? ⟨g, t, none⟩ = w2.cell? ⟨g, t, none⟩ := World.cell?_of_block (Below.heap_alloc w2 _ g (Nat.lt_of_lt_of_le hg hb.size))
    rw [h3, h2, h1]
  have hg2 : g < w2.heap.size := Nat.lt_of_lt_of_le hg hb.size
  have hsz2 : w.heap.size + 2 ≤ w2.heap.size := Nat.le_trans hsz hb.size
  have hs3 : (w2.alloc (.cells mixV 84)).heap.size = w2.heap.size + 1 := by simp
  clear hb H1 Z1 B1 HW hsz
  rw [show (#[Value.func (Fn.func 74) #[] #[], Value.func (Fn.func 75) #[] #[], Value.func (Fn.func 76) #[] #[], Value.func (Fn.func 77) #[] #[]] : Array Value) = mixV from rfl]
  generalize w2.alloc _ = W at *
  generalize w2.heap.size = p at *
  have HH2 := Lib.hid H2
  have HS3 := Lib.hid hs3
  clear H2 hs3
  go_upto_region 6 with (first | (refine wpList_load_row rfl 71 _ rfl w.heap.size rfl 71 _ (0, 0) _ HH2.out Tryd.underlying71 rfl infoSt ?_) | (refine wpList_store_newrow rfl 71 _ _ rfl (row32 st.list) rfl rfl infoSt (row32_one _) rfl ?_))
  rw [HS3.out]
  have K0 : MemS w (W.alloc (.cells (row32 st.list) 71)) g p (p + 1) s st st.list :=
    ⟨B2.alloc B2.size _, HH2.out.alloc _, Z2.alloc _, fun t ht => (by
      have h3 : (W.alloc (.cells (row32 st.list) 71)).cell? ⟨g, t, none⟩ = W.cell? ⟨g, t, none⟩ := World.cell?_of_block (Below.heap_alloc W _ g (by rw [HS3.out]; omega))
      rw [h3]; exact W2.out t ht), M2.alloc _, by have := Blk.new W (row32 st.list) 71; rw [HS3.out] at this; exact this, by omega, by omega, by omega⟩
  generalize W.alloc _ = V at *
  have HK := Lib.hid K0
  clear K0 B2 Z2 M2 W2 HH2 HS3 W hg hg2
  go_wp2
  go_loopw [31] (fun i wr => ∃ k : Nat, k ≤ 80 ∧ i = .int .i64 k ∧ MemS w wr g p (p + 1) s st (runs (wd s) st k).list) (fun i _ => 80 - (intOf i).toNat)
  case atStart => exact ⟨0, by omega, rfl, HK.out⟩
  case round =>
    clear HK
    obtain ⟨k, hk, rfl, K⟩ := hrel
    by_cases hlt : k < 80
    · obtain ⟨f, hf, hcf, hmix⟩ := mix_of k hlt
      have HR : Hid (runs (wd s) st (k + 1) = rnd k (wd s k) (runs (wd s) st k)) := rfl
      have ok := runs_ok (wd s) HOK.out k
      have c0 : wr.cell? ⟨p + 1, 0, none⟩ = some (.int .u32 ((runs (wd s) st k).a : Nat)) := K.m.cell 0
      have c1 : wr.cell? ⟨p + 1, 1, none⟩ = some (.int .u32 ((runs (wd s) st k).b : Nat)) := K.m.cell 1
      have c2 : wr.cell? ⟨p + 1, 2, none⟩ = some (.int .u32 ((runs (wd s) st k).c : Nat)) := K.m.cell 2
      have c3 : wr.cell? ⟨p + 1, 3, none⟩ = some (.int .u32 ((runs (wd s) st k).d : Nat)) := K.m.cell 3
      have c4 : wr.cell? ⟨p + 1, 4, none⟩ = some (.int .u32 ((runs (wd s) st k).e : Nat)) := K.m.cell 4
      have cm : wr.cell? ⟨p, k / 20, none⟩ = some (.func (.func f) #[] #[]) := (K.mix.cell _).trans hf
      have cw := K.words k hlt
      have HM := Lib.hid hmix
      have HK := Lib.hid K
      have lw := wd_lt s k
      clear K hmix hf
      generalize runs (wd s) st k = r at *
      obtain ⟨ra, rb, rc, rd, re⟩ := r
      obtain ⟨la, lb, lc, ld, le⟩ := ok
      simp only at la lb lc ld le c0 c1 c2 c3 c4
      generalize wd s k = x at *
      go_wp2
      go_quiet (fail)
      replace HK := Lib.hid (HK.out.drewN nq)
      have cm1 : (wr.drewN nq).cell? ⟨p, k / 20, none⟩ = some (.func (.func f) #[] #[]) := by simpa using cm
      have cw1 : (wr.drewN nq).cell? ⟨g, k, none⟩ = some (.int .u32 (x : Int)) := by simpa using cw
      clear c0 c1 c2 c3 c4 cm cw
      generalize wr.drewN nq = W1 at *
      go_wp2_with fail
      refine (HM.out rb rc rd _ lb lc ld).mono ?_
      rintro e w' ⟨rfl, rfl⟩
      have lf : fOf k rb rc rd < 4294967296 := fOf_lt lb lc ld
      have lk := kOf_lt k
      have H5 : Hid (Calls Tryd.prog 68 #[.int .u32 (ra : Int), .int .i64 5] W1.drew fun e w' => e = .returned (.int .u32 ((rotl ra 5 : Nat) : Int)) ∧ w' = W1.drew) :=
        (rot5 ra _ la).mono fun _ _ ⟨a, b⟩ => ⟨a, b.symm⟩
      have l5 := rotl_lt ra 5 (by omega) la
      have HR2 : Hid (rnd k x ⟨ra, rb, rc, rd, re⟩ = ⟨((((rotl ra 5 + fOf k rb rc rd) % 4294967296 + re) % 4294967296 + kOf k) % 4294967296 + x) % 4294967296, ra, rotl rb 30, rc, rd⟩) := rfl
      generalize rotl ra 5 = r5 at *
      generalize fOf k rb rc rd = ff at *
      generalize kOf k = kk at *
      go_wp2_with fail
      refine wp_region_tail 13 (by kernel_rfl) (by kernel_rfl) ?_
      simp only [List.take_succ_cons, List.take_zero, List.drop_succ_cons, List.drop_zero]
      repeat still_step
      still_call H5.out
      repeat still_step
      refine wpStill_nil ?_
      clear cw1 cm1 H5 HM hcf
      replace HK := Lib.hid HK.out.drew
      generalize W1.drew = W2 at *
      rw [rnd_wrap]
      have ly : ((((r5 + ff) % 4294967296 + re) % 4294967296 + kk) % 4294967296 + x) % 4294967296 < 4294967296 := Nat.mod_lt _ (by decide)
      generalize ((((r5 + ff) % 4294967296 + re) % 4294967296 + kk) % 4294967296 + x) % 4294967296 = y at *
      go_wp2_with (first | (go_at_call 68; refine (rot30 rb _ lb).mono ?_; rintro e w' ⟨rfl, rfl⟩) | (refine wpList_store_row rfl 71 _ _ rfl (p + 1) (row32 [y, ra, rotl rb 30, rc, rd]) rfl rfl 71 _ HK.out.m infoSt rfl (row32_one _) ?_))
      refine ⟨⟨k + 1, by omega, by go_num, ?_⟩, by simp [intOf]; omega⟩
      rw [HR.out, HR2.out]
      exact HK.out.row _
    · obtain rfl : k = 80 := by omega
      rw [show ((80 : Nat) : Int) = 80 from rfl]
      have ok := runs_ok (wd s) HOK.out 80
      have HX : Hid (added st (runs (wd s) st 80) = stepS st s) := rfl
      rw [← addf_zero st] at K
      generalize runs (wd s) st 80 = m at *
      have HK := Lib.hid K
      have HMO := Lib.hid ok
      clear K ok
      go_wp2
      go_loopw [76] (fun i wr => ∃ k : Nat, k ≤ 5 ∧ i = .int .i64 k ∧ MemS w wr g p (p + 1) s st (tab 5 (addf st m k))) (fun i _ => 5 - (intOf i).toNat)
      case atStart => exact ⟨0, by omega, rfl, HK.out⟩
      case round =>
        clear HK
        obtain ⟨k, hk, rfl, K⟩ := hrel
        have HK := Lib.hid K
        clear K
        by_cases hlt : k < 5
        · go_wp2
          have c1 : wr.cell? ⟨p + 1, k, none⟩ = some (.int .u32 (m.list.getD k 0 : Nat)) := by
            rw [HK.out.m.cell, row32_tab _ _ _ hlt, addf, if_neg (by omega)]
          have c2 : wr.cell? ⟨w.heap.size, k, none⟩ = some (.int .u32 (st.list.getD k 0 : Nat)) := by
            rw [HK.out.h.cell, list_tab, row32_tab _ _ _ hlt]; rfl
          have f1 := HK.out.m.free k
          have HS2 := Lib.hid (addf_step st m k)
          have b0 : (0 : Int) ≤ (k : Int) ∧ (k : Int) < 5 := by omega
          generalize m.list.getD k 0 = x at *
          generalize st.list.getD k 0 = y at *
          refine wp_region_tail 8 (by kernel_rfl) (by kernel_rfl) ?_
          simp only [List.take_succ_cons, List.take_zero, List.drop_succ_cons, List.drop_zero]
          repeat still_step
          refine wpStill_nil ?_
          rw [show IntKind.u32.wrap ((x : Int) + y) = (((x + y) % 4294967296 : Nat) : Int) by rw [IntKind.wrap_u32']; omega]
          go_wp2
          go_roundw
          case rel =>
            refine ⟨k + 1, by omega, by go_num, ?_⟩
            rw [← HS2.out]
            exact HK.out.drew.put k _
          case measure => simp [intOf]; omega
        · obtain rfl : k = 5 := by omega
          have K5 := HK.out
          rw [addf_full, HX.out] at K5
          clear HK HX
          generalize hR : stepS st s = R at *
          have HR := Lib.hid hR
          clear hR
          have HK := Lib.hid K5
          clear K5
          go_wp2_with (first | (refine wpList_load_row rfl 71 _ rfl (p + 1) rfl 71 _ (0, 0) _ HK.out.m Tryd.underlying71 rfl (infoRow _) ?_) | (refine wpList_store_row rfl 71 _ _ rfl (w.heap.size + 1) _ rfl rfl 71 _ HK.out.z (infoRow _) (sizeRow _ _) (row32_one _) ?_))
          refine bodyPost_ret (results_st2 Tryd.results57 _ _ (w.heap.size + 1) R (.int .i64 0) rfl rfl (HK.out.z.setRow _)) rfl ?_
          rw [HR.out]
          exact ⟨rfl, bel_setRow HK.out.below (by omega) _⟩
end Go.Proofs.YtmlejcfnnjnggaaDoor
