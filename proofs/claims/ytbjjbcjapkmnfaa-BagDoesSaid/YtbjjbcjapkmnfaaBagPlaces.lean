/- The iterator over a bag's places. -/
import Derived.Test.YtbjjbcjapkmnfaaBagSeq
namespace Go.Proofs.Ytbjjbcjapkmnfaa
open Go Go.RowKit Go.Shelf
attribute [local go_sem] Oper.semAt_some
variable {F : Fence} {n : Nat}

/-- what the iterator reads when k messages have come: the bag, and the messages that are still to come -/
def Rd (c0 g mb M : Nat) (L : List (Option Ml)) (k : Nat) (W : World) : Prop :=
  W.cell? ⟨c0, 0, none⟩ = some (.pointer (some ⟨g, 0, none⟩)) ∧ ∃ K, Bg W g mb M K ∧ K.length = L.length ∧ ∀ j, k ≤ cnt L j → K[j]? = L[j]?

/-- a message is stored into a block of its own -/
theorem put_ml {W : World} {b : Nat} {cur : Array Value} (hg : Blk W b cur 33) (hs : cur.size = 3) (m : Ml) : (storeCells ⟨b, 0, none⟩ (mlC m).toList).run Try.prog W = .ok () (W.setRow b (mlC m)) := by
  have h := run_storeCells_at Try.prog b 0 33 (mlC m).toList 0 cur W hg (by rw [hs]; exact Nat.le_refl _) (fun v hv => by simp [mlC] at hv; rcases hv with rfl | rfl | rfl <;> rfl)
  have e : cur.toList.drop (0 + (mlC m).toList.length) = [] := List.drop_eq_nil_of_le (by rw [Array.length_toList, hs]; exact Nat.le_refl _)
  rw [e] at h
  simpa using h
theorem grown_put (w : World) (o : Obj) (cs : Array Value) : w.grownBy ((w.alloc o).setRow w.heap.size cs) none :=
  ⟨rfl, rfl, rfl, by simp [World.setRow], fun k hk _ => (Go.setRow_other _ _ k cs (by omega)).trans (Below.heap_alloc w o k hk)⟩
abbrev mlE : Array Value := #[.int .i64 0, .int .i64 0, .string ⟨#[]⟩]

set_option maxRecDepth 100000 in
set_option maxHeartbeats 2000000 in
theorem goes_any (hf : F.fn 32) (hro : F.round = none) (hn : 1 ≤ n) (c0 g mb M : Nat) (L : List (Option Ml)) : Goes F n #[.pointer (some ⟨c0, 0, none⟩)] L (Rd c0 g mb M L) := by
  intro l J Jx W hJ hR hY h0
  have hlen : L.length ≤ 1000000 := by
    obtain ⟨_, K, hK, h1, _⟩ := hR 0 W h0
    rw [← h1]; exact hK.len
  obtain ⟨q0, q1⟩ : W.cell? ⟨c0, 0, none⟩ = some (.pointer (some ⟨g, 0, none⟩)) ∧ W.cell? ⟨g, 1, none⟩ = some (.int .i64 (L.length : Int)) := by
    obtain ⟨q0, K, hK, h1, _⟩ := hR 0 W h0
    have q1 := hK.c1
    rw [h1] at q1
    exact ⟨q0, q1⟩
  refine callsIn_of_wp Try.func32 rfl hf ?_ hro
  simp only [Try.ntmps32, List.size_toArray, List.length_cons, List.length_nil, Nat.reduceAdd, Nat.reduceSub, Array.replicate_succ, Array.replicate_zero, List.push_toArray, List.append_toArray, List.nil_append, List.cons_append]
  gi_wp2
  gi_loopw [3, 13] (fun p i wr => ∃ j : Nat, j ≤ L.length ∧ i = .int .i64 (j : Int) ∧ p = .int .i64 (cnt L j : Nat) ∧ J (cnt L j) wr) (fun _ i _ => L.length - (intOf i).toNat)
  case atStart => exact ⟨0, Nat.zero_le _, rfl, rfl, h0⟩
  case round =>
    obtain ⟨j, hj, rfl, rfl, hJs⟩ := hrel
    rcases Nat.lt_or_ge j L.length with hlt | hge
    · cases hx : L[j]? with
      | none => rw [List.getElem?_eq_none_iff] at hx; omega
      | some o =>
        obtain ⟨b0, K, hK, hKl, hKj⟩ := hR _ _ hJs
        have hKx := (hKj j (Nat.le_refl _)).trans hx
        have b2 := hK.c2
        have hle := hK.len
        have hnew : ∀ m, J (cnt L j) ((wr.alloc (.cells mlE 33)).setRow wr.heap.size (mlC m)) := fun m => hJ _ _ _ hJs (grown_put _ _ _)
        have hst := fun m => put_ml (Blk.new wr mlE 33) rfl m
        cases o with
        | none =>
          have hlook := hK.own.has_no hKx (by omega)
          have hs2 := hst mlZ
          have hJ2 := hnew mlZ
          rw [← cnt_no hx] at hJ2
          clear hK hKj hKx hst hnew hJs
          gi_wp2
          go_roundw
          case rel => exact ⟨j + 1, by omega, by go_num, by rw [cnt_no hx], hJ2⟩
          case measure => simp [intOf]; omega
        | some m =>
          have hlook := hK.own.has_yes hKx (by omega)
          have hs2 := hst m
          have hJ2 := hnew m
          obtain ⟨fn, tmps, assign, body, hy, hround⟩ := hY j m _ hx hJ2
          dsimp only [pn] at hy
          clear hK hKj hKx hst hnew hJs
          gi_wp2
          refine hround.mono ?_
          rintro e W3 (⟨rfl, hJ3⟩ | ⟨rfl, hJx3⟩)
          · gi_wp2
            go_roundw
            case rel =>
              have hcj := cnt_le L j
              exact ⟨j + 1, by omega, by go_num, by rw [cnt_yes hx, IntWalk.wrap64_in _ (by omega)]; rfl, by rw [cnt_yes hx]; exact hJ3⟩
            case measure => simp [intOf]; omega
          · gi_wp2
            refine bodyPost_ret (results_none rfl _ _ _) rfl ?_
            exact ⟨⟨_, rfl⟩, .inr hJx3⟩
    · obtain rfl : L.length = j := by omega
      rw [cnt_all] at hJs
      gi_wp2
      go_end0
      exact ⟨⟨_, rfl⟩, .inl hJs⟩

/-- a nil bag has no places -/
def RdN (c0 : Nat) (_ : Nat) (W : World) : Prop := W.cell? ⟨c0, 0, none⟩ = some (.pointer none)
set_option maxHeartbeats 1000000 in
theorem goes_nil (hf : F.fn 32) (hro : F.round = none) (c0 : Nat) : Goes F n #[.pointer (some ⟨c0, 0, none⟩)] [] (RdN c0) := by
  intro l J Jx W hJ hR hY h0
  have q0 : W.cell? ⟨c0, 0, none⟩ = some (.pointer none) := hR 0 W h0
  refine callsIn_of_wp Try.func32 rfl hf ?_ hro
  simp only [Try.ntmps32, List.size_toArray, List.length_cons, List.length_nil, Nat.reduceAdd, Nat.reduceSub, Array.replicate_succ, Array.replicate_zero, List.push_toArray, List.append_toArray, List.nil_append, List.cons_append]
  gi_wp2
  refine bodyPost_ret (results_none rfl _ _ _) rfl ?_
  exact ⟨⟨_, rfl⟩, .inl h0⟩

/-- the bag's pointer is laid in a block, which the iterator holds -/
theorem places_in (hf : F.fn 30) (hro : F.round = none) (p : Option Addr) (w : World) :
    CallsIn F n Try.prog 30 #[.pointer p] w fun e w' => e = .returned (.func (.func 32) #[] #[.pointer (some ⟨w.heap.size, 0, none⟩)]) ∧ w' = w.alloc (.cells #[.pointer p] 24) := by
  refine callsIn_of_wp Try.func30 rfl hf ?_ hro
  simp only [Try.ntmps30, List.size_toArray, List.length_cons, List.length_nil, Nat.reduceAdd, Nat.reduceSub, Array.replicate_succ, Array.replicate_zero, List.push_toArray, List.append_toArray, List.nil_append, List.cons_append]
  gi_wp2
  go_ret
  exact ⟨rfl, rfl⟩
end Go.Proofs.Ytbjjbcjapkmnfaa
