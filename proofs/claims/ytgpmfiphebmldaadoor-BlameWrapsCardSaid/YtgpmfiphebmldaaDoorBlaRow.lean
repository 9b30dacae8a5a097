/- The document's row of blame. -/
import Derived.Test.YtgpmfiphebmldaaDoorBlaCode
import Derived.Test.YtgpmfiphebmldaaDoorBlaSame
namespace Go.Proofs.YtgpmfiphebmldaaDoor
open Go.RowKit Go.Sort

theorem new_code (c : Int) (hc : ¬ c = 0) (w : World) : Calls Tryd.prog 23 #[.int .i64 c] w fun e w' => e = .returned (.iface 59 (.int .i64 c)) ∧ w' = w := by
  have h : (c == 0) = false := by simpa using hc
  go_enter Tryd.func23, Tryd.ntmps23
  go_wp2
  go_ret
  exact ⟨rfl, rfl⟩
theorem new_zero (w : World) : Calls Tryd.prog 23 #[.int .i64 0] w fun e w' => e = .returned .nilIface ∧ w' = w := by
  go_enter Tryd.func23, Tryd.ntmps23
  go_wp2
  go_ret
  exact ⟨rfl, rfl⟩
theorem lit_sl (W : World) (s : ByteArray) (T : TypeId) : Sl (W.alloc (.cells #[.string s] T)) (.slice (some ⟨W.heap.size, 0, none⟩) 1 1) [s] :=
  .inr ⟨by simp, W.heap.size, 0, 1, rfl, blk_range (Blk.new W #[.string s] T)⟩

def getB : ByteArray := ⟨#[103, 101, 116]⟩
/-- the row's error -/
def T0 : ET := .wrap getB (.join [.code 7, .code 10])
theorem T0_text : bs T0.text = ⟨#[103, 101, 116, 58, 32, 101, 114, 114, 111, 114, 32, 55, 59, 32, 101, 114, 114, 111, 114, 32, 49, 48]⟩ := by
  have h7 : Lib.itoa 7 = [55] := by
    rw [show (7 : Int) = ((7 : Nat) : Int) from rfl, Lib.itoa_nonneg, Lib.decDigits_one (by decide)]; rfl
  have h10 : Lib.itoa 10 = [49, 48] := by
    rw [show (10 : Int) = ((10 : Nat) : Int) from rfl, Lib.itoa_nonneg, Lib.decDigits_two (by decide) (by decide)]; rfl
  unfold T0
  simp only [ET.text, ET.textL, h7, h10]
  rfl
theorem T0_ok : okC 7 ∧ okC 10 := by unfold okC; omega

set_option maxHeartbeats 4000000 in
set_option maxRecDepth 100000 in
theorem blamed_any (w : World) (hG : Glob w) : Calls Tryd.prog 20 #[] w fun e w' => e = .returned (.bool true) ∧ Below w.heap.size w w' := by
  have n7 : ∀ w : World, Calls Tryd.prog 23 #[.int .i64 7] w fun e w' => e = .returned (.iface 59 (.int .i64 7)) ∧ w = w' := fun w => (new_code 7 (by decide) w).mono fun _ _ ⟨a, b⟩ => ⟨a, b.symm⟩
  have n10 := (new_code 10 (by decide) w).mono (R' := fun e w' => e = .returned (.iface 59 (.int .i64 10)) ∧ w = w') fun _ _ ⟨a, b⟩ => ⟨a, b.symm⟩
  have bel0 : Below w.heap.size w (w.alloc (.cells #[.nilIface, .iface 59 (.int .i64 7), .iface 59 (.int .i64 10)] 30)) := (Below.refl _ _).alloc (Nat.le_refl _) _
  have hE0 : Eos (w.alloc (.cells #[.nilIface, .iface 59 (.int .i64 7), .iface 59 (.int .i64 10)] 30)) (fun _ => True) [.nilIface, .iface 59 (.int .i64 7), .iface 59 (.int .i64 10)] [none, some (.code 7), some (.code 10)] :=
    ⟨rfl, Er.code 7 T0_ok.1, Er.code 10 T0_ok.2, trivial⟩
  have hJ := join_any (fun _ => True) w.heap.size 0 3 3 _ _ _ rfl (blk_range (Blk.new w #[.nilIface, .iface 59 (.int .i64 7), .iface 59 (.int .i64 10)] 30)) hE0 (by decide)
  have J := Lib.hid hJ
  clear hJ hE0
  go_enter Tryd.func20, Tryd.ntmps20
  go_upto_region 2 with (first
    | (go_at_call 23; (with_reducible refine (n7 _).mono ?_); rintro e w1 ⟨rfl, rfl⟩)
    | (go_at_call 23; (with_reducible refine n10.mono ?_); rintro e w1 ⟨rfl, rfl⟩)
    | (go_at_call 22; (with_reducible refine J.out.mono ?_); rintro e w2 ⟨v2, rfl, hv2, hb2⟩)
    | (go_at_call 21; (with_reducible refine (wrap_any (fun _ => True) ⟨#[103, 101, 116]⟩ v2 _ w2 (hv2.mono fun _ _ _ => trivial)).mono ?_); rintro e w3 ⟨v3, rfl, hv3, hb3⟩))
  have bel : Below w.heap.size w w3 := (bel0.trans (hb2.mono bel0.size)).trans (hb3.mono (bel0.trans (hb2.mono bel0.size)).size)
  have hE : Er w3 (fun _ => True) v3 T0 := (show Er w3 _ v3 T0 from hv3).mono fun _ _ _ => trivial
  have hG3 := hG.below bel hG.size
  have hA := hE.all (Nat.le_refl w3.heap.size)
  have hwt : wtO (some T0) ≤ 1000000 := by decide
  have hX : ∀ w', Below w3.heap.size w3 w' → Calls Tryd.prog 18 #[v3] w' fun e w'' => e = .returned (.string ⟨#[103, 101, 116, 58, 32, 101, 114, 114, 111, 114, 32, 55, 59, 32, 101, 114, 114, 111, 114, 32, 49, 48]⟩) ∧ Below w'.heap.size w' w'' := fun w' hb => by
    have := text_any _ v3 (some T0) w' (hA.bel hb) (hG3.below hb hG3.size) hwt
    rw [show textO (some T0) = T0.text from rfl, T0_text] at this
    exact this
  have hC : ∀ w', Below w3.heap.size w3 w' → Calls Tryd.prog 9 #[v3] w' fun e w'' => e = .returned (.int .i64 7) ∧ Below w'.heap.size w' w'' := fun w' hb => code_any _ v3 (some T0) w' (hA.bel hb) (hG3.below hb hG3.size) hwt
  have hN : ∀ w', Below w3.heap.size w3 w' → Calls Tryd.prog 13 #[v3] w' fun e w'' => e = .returned (.bool true) ∧ Below w'.heap.size w' w'' := fun w' hb => again_any _ v3 (some T0) w' (hA.bel hb) (hG3.below hb hG3.size) hwt
  have hN7 : ∀ w', Below w3.heap.size w3 w' → Calls Tryd.prog 13 #[.iface 59 (.int .i64 7)] w' fun e w'' => e = .returned (.bool false) ∧ Below w'.heap.size w' w'' := fun w' hb => again_any (fun _ => True) _ (some (.code 7)) w' (Er.code 7 T0_ok.1) (hG3.below hb hG3.size) (by decide)
  have hR : ∀ w', Below w3.heap.size w3 w' → Calls Tryd.prog 16 #[v3] w' fun e w'' => ∃ u, e = .returned u ∧ Txs w'.heap.size u [⟨#[103, 101, 116]⟩] w'' ∧ Below w'.heap.size w' w'' := fun w' hb => trail_any _ v3 (some T0) w' (hA.bel hb) hwt
  have hH0 : ∀ w', Below w3.heap.size w3 w' → Calls Tryd.prog 11 #[.nilIface, .int .i64 0] w' fun e w'' => e = .returned (.bool true) ∧ Below w'.heap.size w' w'' := fun w' hb => has_any (fun _ => True) .nilIface none 0 w' rfl (hG3.below hb hG3.size) (by decide)
  have hH1 : ∀ w', Below w3.heap.size w3 w' → Calls Tryd.prog 11 #[v3, .int .i64 1] w' fun e w'' => e = .returned (.bool false) ∧ Below w'.heap.size w' w'' := fun w' hb => has_any _ v3 (some T0) 1 w' (hA.bel hb) (hG3.below hb hG3.size) hwt
  have hS : ∀ (u : Value) (B : Nat) (w' : World), Txs B u [⟨#[103, 101, 116]⟩] w' → Calls Tryd.prog 15 #[u, .slice (some ⟨w'.heap.size, 0, none⟩) 1 1] (w'.alloc (.cells #[.string ⟨#[103, 101, 116]⟩] 9)) fun e w'' => e = .returned (.bool true) ∧ Below (w'.alloc (.cells #[.string ⟨#[103, 101, 116]⟩] 9)).heap.size (w'.alloc (.cells #[.string ⟨#[103, 101, 116]⟩] 9)) w'' := fun u B w' h =>
    same_any _ _ [⟨#[103, 101, 116]⟩] _ (h.sl.later ((Below.refl _ _).alloc (Nat.le_refl _) _)) (lit_sl w' _ _) (by decide)
  have e1 := beq_self ⟨#[103, 101, 116, 58, 32, 101, 114, 114, 111, 114, 32, 55, 59, 32, 101, 114, 114, 111, 114, 32, 49, 48]⟩
  have b0 := Below.refl w3.heap.size w3
  have step : ∀ {a b : World}, Below w3.heap.size w3 a → Below a.heap.size a b → Below w3.heap.size w3 b := fun h k => h.trans (k.mono h.size)
  clear hE hA hv3 hv2 hb2 hb3 bel0 hwt J n10
  go_wp2_with (first
    | (go_at_call 18; (with_reducible refine (hX _ b0).mono ?_); rintro e w4 ⟨rfl, k1⟩; have b1 := step b0 k1)
    | (go_at_call 9; (with_reducible refine (hC _ b1).mono ?_); rintro e w5 ⟨rfl, k2⟩; have b2 := step b1 k2)
    | (go_at_call 13; (with_reducible refine (hN _ b2).mono ?_); rintro e w6 ⟨rfl, k3⟩; have b3 := step b2 k3)
    | (go_at_call 23; (with_reducible refine (n7 _).mono ?_); rintro e w1 ⟨rfl, rfl⟩)
    | (go_at_call 13; (with_reducible refine (hN7 _ b3).mono ?_); rintro e w7 ⟨rfl, k4⟩; have b4 := step b3 k4)
    | (go_at_call 16; (with_reducible refine (hR _ b4).mono ?_); rintro e w8 ⟨u, rfl, hu, k5⟩; have b5 := step b4 k5)
    | (go_at_call 15; (with_reducible refine (hS u _ w8 hu).mono ?_); rintro e w9 ⟨rfl, k6⟩; have b6 := step (b5.alloc b5.size _) k6)
    | (go_at_call 11; (with_reducible refine (hH0 _ b6).mono ?_); rintro e w10 ⟨rfl, k7⟩; have b7 := step b6 k7)
    | (go_at_call 11; (with_reducible refine (hH1 _ b7).mono ?_); rintro e w11 ⟨rfl, k8⟩; have b8 := step b7 k8))
  go_ret
  exact ⟨rfl, bel.trans (b8.mono bel.size)⟩
end Go.Proofs.YtgpmfiphebmldaaDoor
