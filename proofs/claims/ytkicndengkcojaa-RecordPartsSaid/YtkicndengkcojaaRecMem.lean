/- Records in memory: loaded, stored, handed back; what throws an error. -/
import Derived.Test.YtkicndengkcojaaRecNum
import Derived.Test.YtkicndengkcojaaRecLab
import Derived.Test.YtkicndengkcojaaPkB
import Derived.Test.YtkicndengkcojaaPkC
import Derived.Recover
namespace Go.Proofs.Ytkicndengkcojaa
set_option maxRecDepth 100000
open Go Go.RowKit Go.Sort

/-- a record's cells, its items being u -/
def recC (r : Rc) (u : Value) : Array Value := #[.int .i64 r.kind, u, .int .i64 r.nl, .int .u64 (r.nb : Int), .int .u64 (r.mark : Int)]
theorem infoRec : (Try.prog.info? 27).map (·.size) = some 5 := by kernel_rfl
theorem zero_rec : (#[.int .i64 0, .slice none 0 0, .int .i64 0, .int .u64 0, .int .u64 0] : Array Value) = recC zeroR (.slice none 0 0) := rfl
theorem told_one {w : World} {u : Value} {K : List It} (h : Told w u K) : u.oneCell' = true := by
  rcases h.2 with ⟨rfl, _⟩ | ⟨g, o, c, rfl, _⟩ <;> rfl
theorem told_nil (w : World) : Told w (.slice none 0 0) [] := ⟨rfl, .inl ⟨rfl, rfl⟩⟩
theorem told_shape {w : World} {u : Value} {K : List It} (h : Told w u K) : ∃ a c, u = .slice a K.length c := by
  rcases h.2 with ⟨rfl, h0⟩ | ⟨g, o, c, rfl, _⟩
  · rw [h0]; exact ⟨_, _, rfl⟩
  · exact ⟨_, _, rfl⟩
theorem told_at {w : World} {a : Option Addr} {n c : Nat} {L : List It} (h : Told w (.slice a n c) L) {i : Nat} {x : It} (hx : L[i]? = some x) :
    ∃ b o, a = some ⟨b, o, none⟩ ∧ w.cell? ⟨b, o + i * 2, none⟩ = some (.int .u64 (x.1 : Int)) ∧ w.cell? ⟨b, o + i * 2 + 1, none⟩ = some (.string x.2) ∧ w.rangeAt b (o + i * 2) (itC x.1 x.2).toList := by
  obtain ⟨b, o, c1, e, h1, h2, _, h3⟩ := SrcI.at h hx
  simp only [Value.slice.injEq] at e
  exact ⟨b, o, e.1, h1, h2, h3⟩
theorem told_own {w : World} {B e : Nat} {v : Value} {K : List It} (h : w.ownsRow B e 2 v K.length (flat K)) : Told w v K := by
  rcases own_shape h with ⟨rfl, h0⟩ | ⟨b, c, rfl, _, _, hr, _⟩
  · exact ⟨flat_length K, .inl ⟨rfl, h0⟩⟩
  · exact ⟨flat_length K, .inr ⟨b, 0, c, rfl, hr⟩⟩
theorem o_row {P : Program} {o : Oper} {a : Act} {w : World} {K : Act → World → Prop} {Q : Exit → Act → World → Prop} (ty : TypeId) (x : Operand) (ho : o.op = .load ty x) (g : Nat) (hx : a.eval x = .pointer (some ⟨g, 0, none⟩)) (cs : Array Value) (t : TypeId) (d : TypeDesc)
    (hg : Blk w g cs t) (hu : P.underlying ty = some d) (hd : (match d with | .struct _ | .array _ _ => true | _ => false) = true) (hi : (P.info? ty).map (·.size) = some cs.size) (h : K (a.put o.dst (.agg cs)) w) : o.wp P a w K Q :=
  wp_load_row ty x ho g hx t cs (0, 0) d hg hu hd hi h

/-! a state as an argument -/
theorem rec_one {r : Rc} {u : Value} (h : u.oneCell' = true) : (recC r u).all (·.oneCell') = true := by cases u <;> simp_all [recC, Value.oneCell']
theorem p_loadR {ops : Array Oper} {rest : List Oper} {o : Oper} {a : Act} {w : World} {Q : Exit → Act → World → Prop} (hgd : o.guard = none) (x : Operand) (ho : o.op = .load 27 x)
    (g : Nat) (hx : a.eval x = .pointer (some ⟨g, 0, none⟩)) (r : Rc) (u : Value) (hg : Blk w g (recC r u) 27)
    (h : wpList Try.prog ops Q rest (a.put o.dst (.agg (recC r u))) w) : wpList Try.prog ops Q (o :: rest) a w :=
  wpList_load_row hgd 27 x ho g hx 27 (recC r u) (0, 0) _ hg Try.underlying27 rfl infoRec h
theorem o_loadR {o : Oper} {a : Act} {w : World} {K : Act → World → Prop} {Q : Exit → Act → World → Prop} (x : Operand) (ho : o.op = .load 27 x)
    (g : Nat) (hx : a.eval x = .pointer (some ⟨g, 0, none⟩)) (r : Rc) (u : Value) (hg : Blk w g (recC r u) 27) (h : K (a.put o.dst (.agg (recC r u))) w) : o.wp Try.prog a w K Q :=
  o_row 27 x ho g hx (recC r u) 27 _ hg Try.underlying27 rfl infoRec h
theorem q_loadR {W : World} {o : Oper} {a : Act} {K : Act → Prop} (x : Operand) (ho : o.op = .load 27 x) (g : Nat) (hx : a.eval x = .pointer (some ⟨g, 0, none⟩)) (r : Rc) (u : Value)
    (hg : Blk W g (recC r u) 27) (hk : K (a.put o.dst (.agg (recC r u)))) : o.quiet Try.prog a (fun w' => ∃ p : Regrown, w' = grow (redrawn W p.d) p.os) K :=
  q_row 27 x ho g hx (recC r u) 27 _ hg Try.underlying27 rfl infoRec hk
theorem p_storeR {ops : Array Oper} {rest : List Oper} {o : Oper} {a : Act} {w : World} {Q : Exit → Act → World → Prop} (hgd : o.guard = none) (x y : Operand) (ho : o.op = .store 27 x y)
    (g : Nat) (hx : a.eval x = .pointer (some ⟨g, 0, none⟩)) (r : Rc) (u : Value) (hy : a.eval y = .agg (recC r u)) (hu : u.oneCell' = true) (r' : Rc) (u' : Value) (hg : Blk w g (recC r' u') 27)
    (h : wpList Try.prog ops Q rest (a.put o.dst undef) (w.setRow g (recC r u))) : wpList Try.prog ops Q (o :: rest) a w :=
  wpList_store_row hgd 27 x y ho g (recC r u) hx hy 27 (recC r' u') hg infoRec rfl (rec_one hu) h
theorem results_rec1 {fn : Func} {p : Tmp} (h : fn.results = #[.cell p 27]) (tmps : Array Value) (w : World) (g : Nat) (r : Rc) (u : Value)
    (hp : tmps.getD p undef = .pointer (some ⟨g, 0, none⟩)) (hg : Blk w g (recC r u) 27) :
    (results fn tmps).run Try.prog w = .ok (.agg (recC r u)) w := by
  have hp' : tmps[p]?.getD undef = .pointer (some ⟨g, 0, none⟩) := by simpa using hp
  simp [results, h, hp', asAddr, run_loadVar_row w g 27 27 (recC r u) (0, 0) _ hg Try.underlying27 rfl infoRec]
theorem results_rec2 {fn : Func} {p t : Tmp} (h : fn.results = #[.cell p 27, .tmp t]) (tmps : Array Value) (w : World) (g : Nat) (r : Rc) (u v : Value)
    (hp : tmps.getD p undef = .pointer (some ⟨g, 0, none⟩)) (hv : tmps.getD t undef = v) (hg : Blk w g (recC r u) 27) :
    (results fn tmps).run Try.prog w = .ok (.tuple #[.agg (recC r u), v]) w := by
  have hp' : tmps[p]?.getD undef = .pointer (some ⟨g, 0, none⟩) := by simpa using hp
  have hv' : tmps[t]?.getD undef = v := by simpa using hv
  simp [results, h, hp', hv', asAddr, run_loadVar_row w g 27 27 (recC r u) (0, 0) _ hg Try.underlying27 rfl infoRec]

/-! a row of items does not lie where a record does -/
def NoIt (cs : Array Value) : Prop := ∀ o k s, cs[o]? = some (.int .u64 k) → cs[o + 1]? = some (.string s) → False
theorem noIt_rec (r : Rc) (u : Value) : NoIt (recC r u) := by
  intro o k s h1 h2
  match o, h1, h2 with
  | 0, h1, h2 => simp [recC] at h1
  | 1, h1, h2 => simp [recC] at h2
  | 2, h1, h2 => simp [recC] at h1
  | 3, h1, h2 => simp [recC] at h2
  | 4, h1, h2 => simp [recC] at h2
  | o + 5, h1, h2 => simp [recC] at h1
theorem noIt_int (n : Int) : NoIt #[.int .i64 n] := by
  intro o k s h1 h2
  match o, h1, h2 with
  | 0, h1, h2 => simp at h1
  | o + 1, h1, h2 => simp at h1
theorem noIt_lab (n : Int) (b : Nat) : NoIt (labc n b) := by
  intro o k s h1 h2
  match o, h1, h2 with
  | 0, h1, h2 => simp [labc] at h1
  | 1, h1, h2 => simp [labc] at h2
  | o + 2, h1, h2 => simp [labc] at h1
theorem told_but {w w' : World} {g : Nat} {cs : Array Value} {t : TypeId} {u : Value} {K : List It} (h : Told w u K) (hg : Blk w g cs t) (hn : NoIt cs) (hk : ∀ j, j < w.heap.size → j ≠ g → w'.heap[j]? = w.heap[j]?) : Told w' u K := by
  obtain ⟨h1, h2⟩ := h
  refine ⟨h1, h2.imp id ?_⟩
  rintro ⟨b, o, c, rfl, hr⟩
  refine ⟨b, o, c, rfl, ?_⟩
  cases K with
  | nil => intro j v hj; simp [flat] at hj
  | cons x K =>
    have hlt := range_lt hr (by simp [flat])
    have hne : b ≠ g := by
      rintro rfl
      have a1 := hr 0 (.int .u64 (x.1 : Int)) rfl
      have a2 := hr 1 (.string x.2) rfl
      rw [hg.cell] at a1 a2
      exact hn _ _ _ a1 a2
    intro j v hj
    exact (World.cell?_of_block (a := ⟨b, o + j, none⟩) (hk b hlt hne)).trans (hr j v hj)
theorem told_setRow {w : World} {g : Nat} {cs : Array Value} {t : TypeId} {u : Value} {K : List It} (h : Told w u K) (hg : Blk w g cs t) (hn : NoIt cs) (cs' : Array Value) : Told (w.setRow g cs') u K :=
  told_but h hg hn fun j _ hj => Go.setRow_other w g j cs' hj
theorem told_setCell {w : World} {g : Nat} {cs : Array Value} {t : TypeId} {u : Value} {K : List It} (h : Told w u K) (hg : Blk w g cs t) (hn : NoIt cs) (i : Nat) (v : Value) : Told (w.setCell ⟨g, i, none⟩ v) u K :=
  told_but h hg hn fun _ _ hj => Below.heap_setCell _ _ _ _ (by simpa using hj)

/-- a call that ends by a thrown error -/
def Pan (n : Nat) : Ending := .panicked [{ v := .iface 29 (.int .i64 (n : Int)), recovered := false }]
theorem pan_eq (n : Nat) : Pan n = .panicked [{ v := .iface 29 (.int .i64 (n : Int)), recovered := false }] := rfl
theorem refuse_no (n : Nat) (w : World) : Calls Try.prog 34 #[.bool false, .int .i64 (n : Int)] w fun e w' => e = .returned (.tuple #[]) ∧ w = w' := by
  go_enter Try.func34, Try.ntmps34
  go_wp2
  go_end0
  exact ⟨rfl, rfl⟩
theorem refuse_yes (n : Nat) (w : World) : Calls Try.prog 34 #[.bool true, .int .i64 (n : Int)] w fun e w' => e = Pan n ∧ w = w' := by
  go_enter Try.func34, Try.ntmps34
  go_wp2
  exact ⟨rfl, rfl, rfl⟩
end Go.Proofs.Ytkicndengkcojaa
