/- The document's timers: Tick. -/
import Derived.Test.YtboojbgcleknlaaTimRef3
namespace Go.Proofs.Ytboojbgcleknlaa
open Go Go.RowKit Go.Sort
section
variable {w w' : World} {r : Nat} {v : Value} {now : Int} {L K : List Du}
theorem reftick_past (R : Rf w r v now L) {t : Int} (ht : t < now) : Calls Try.prog 13 #[.pointer (some ⟨r, 0, none⟩), .int .i64 t] w fun e w' => e = .returned (.tuple #[.slice none 0 0, .int .i64 1]) ∧ w' = w := by
  have c1 := R.c1
  clear R
  go_enter Try.func13, Try.ntmps13
  go_wp2
  go_ret2
  exact ⟨rfl, rfl⟩
/-- where the ticks stand -/
structure Tir (w wr : World) (r : Nat) (v : Value) (t : Int) (K : List Du) (u : Value) (j : Nat) (L1 : List Du) (v1 : Value) : Prop where
  out : wr.ownsRow w.heap.size 3 1 u j (ints ((K.take j).map (·.id)))
  mem : Rf wr r v1 t L1
  perm : L1.Perm (K.drop j)
  due : ∀ d ∈ K.take j, d.tm ≤ t
  kp : Kp w wr r r v.ownBlock
  nw : v1.ownBlock = v.ownBlock ∨ ∀ b, v1.ownBlock = some b → w.heap.size ≤ b
  le : j ≤ K.length
def TirA (w wr : World) (r : Nat) (v : Value) (t : Int) (K : List Du) (u : Value) (j : Nat) : Prop := ∃ L1 v1, Tir w wr r v t K u j L1 v1
/-- behind the ticks -/
def TirE (w w' : World) (r : Nat) (v : Value) (t : Int) (K : List Du) (u : Value) : Prop := (∃ L1, L1.Perm (restK t K) ∧ RfN w w' r v t L1) ∧ IsI w' u ((dueK t K).map (·.id))
theorem own_int {B n : Nat} {u : Value} {xs : List Value} (h : w.ownsRow B 3 1 u n xs) {k : Nat} (hk : u.ownBlock = some k) : ∃ cs, Blk w k cs 3 := by
  rcases h.2 with ⟨rfl, _⟩ | ⟨g, cap, cur, rfl, _, hg, _⟩
  · cases hk
  · obtain rfl : g = k := Option.some.inj hk
    exact ⟨cur, hg⟩
theorem Tir.bel {wr w2 : World} {t : Int} {u v1 : Value} {j : Nat} {L1 : List Du} (S : Tir w wr r v t K u j L1 v1) (hb : Below wr.heap.size wr w2) : Tir w w2 r v t K u j L1 v1 :=
  ⟨own_keep S.out fun k hk => hb.block k (S.out.lt k hk).2, S.mem.bel hb, S.perm, S.due, S.kp.trans (Kp.of hb r r _), S.nw, S.le⟩
theorem tir_step {wr : World} {t : Int} {u v1 : Value} {j : Nat} {L1 : List Du} (S : Tir w wr r v t K u j L1 v1) {d : Du} (hd : K[j]? = some d) (ht : d.tm ≤ t) (hl : K.length ≤ 1000) (ho : Ord K) (hu : Ids K) :
    ∃ q c' w3, (Builtin.append_ #[34, 34] 34 #[u, .slice (some ⟨wr.heap.size, 0, none⟩) 1 1]).run Try.prog (wr.alloc (.cells #[.int .i64 d.id] 3)) = .ok (.slice (some ⟨q, 0, none⟩) (j + 1) c') w3 ∧
      Calls Try.prog 11 #[.pointer (some ⟨r, 0, none⟩), .int .i64 d.id] w3 fun e w4 => e = .returned (.bool (decide ((delK d.id L1).length < L1.length))) ∧ Hid (TirA w w4 r v t K (.slice (some ⟨q, 0, none⟩) (j + 1) c') (j + 1)) := by
  obtain ⟨hj, e0⟩ := List.getElem?_eq_some_iff.1 hd
  have e1 : K.drop j = d :: K.drop (j + 1) := by rw [List.drop_eq_getElem_cons hj, e0]
  have hlen : ((K.take j).map (·.id)).length = j := by rw [List.length_map, List.length_take]; omega
  have hO := S.out
  have hws := S.kp.size
  obtain ⟨q, c', w3, hap, o3, g3⟩ := app_int (l := (K.take j).map (·.id)) (by rw [hlen]; exact hO) d.id hws (by omega)
  rw [hlen] at hap
  have hl3 : ((K.take j).map (·.id) ++ [d.id]).length = j + 1 := by rw [List.length_append, hlen]; rfl
  rw [hlen, hl3] at o3
  have hsn : (K.take j).map (·.id) ++ [d.id] = (K.take (j + 1)).map (·.id) := by rw [take_snoc hd]; simp
  rw [hsn] at o3
  refine ⟨q, c', w3, hap, ?_⟩
  have hs : ∀ k (cs : Array Value) (ty : TypeId), Blk wr k cs ty → 3 ≠ ty → w3.heap[k]? = wr.heap[k]? := fun k cs ty hk hne => (g3.block k (by have := hk.lt; simp; omega) (fun e => by
    obtain ⟨ds, hb⟩ := own_int hO e.symm
    exact hb.type hk hne rfl)).trans (Below.heap_alloc wr _ k hk.lt)
  have R3 : Rf w3 r v1 t L1 := S.mem.same (hs r _ _ S.mem.blk (by decide)) fun k hk => by
    obtain ⟨cur, hb⟩ := S.mem.own_blk hk
    exact hs k _ _ hb (by decide)
  have K3 : Kp w w3 r r v.ownBlock := ⟨g3.os.trans S.kp.os, g3.tape.trans S.kp.tape, g3.output.trans S.kp.output, by have := g3.size; simp at this; omega, fun k hk h1 h2 h3 => ((g3.block k (by simp; omega) (fun e => by have := (hO.lt k e.symm).1; omega)).trans (Below.heap_alloc wr _ k (by omega))).trans (S.kp.block k hk h1 h2 h3)⟩
  refine (refcancel_any R3 d.id).mono ?_
  rintro e w4 ⟨rfl, v4, R4, K4, n4⟩
  refine ⟨rfl, delK d.id L1, v4, ⟨?_, R4, ?_, ?_, ?_, ?_, by omega⟩⟩
  · refine own_keep o3 fun k hk => ?_
    obtain ⟨ds, hb⟩ := own_int o3 hk
    exact K4.block k hb.lt (hb.type R3.blk (by decide)) (hb.type R3.blk (by decide)) (fun e => by
      obtain ⟨cur, hc⟩ := R3.own_blk e
      exact hb.type hc (by decide) rfl)
  · have h1 := S.perm
    rw [e1] at h1
    have h2 := h1.filter (fun x => !decide (x.id = d.id))
    have hsub : ∀ x ∈ d :: K.drop (j + 1), x ∈ K := fun x hx => by rw [← e1] at hx; exact List.mem_of_mem_drop hx
    have hod : Ord (d :: K.drop (j + 1)) := by rw [← e1]; exact List.Pairwise.sublist (List.drop_sublist _ _) ho
    have h3 := del_head (fun a ha b hb => hu a (hsub a ha) b (hsub b hb)) hod
    unfold delK at h3 ⊢
    rw [h3] at h2
    exact h2
  · intro x hx
    rw [take_snoc hd] at hx
    rcases List.mem_append.1 hx with hx | hx
    · exact S.due x hx
    · rw [List.mem_singleton.1 hx]; exact ht
  · refine ⟨K4.os.trans K3.os, K4.tape.trans K3.tape, K4.output.trans K3.output, Nat.le_trans K3.size K4.size, fun i hi h1 h2 h3 => ?_⟩
    have hi3 := K3.size
    refine (K4.block i (by omega) h1 h2 ?_).trans (K3.block i hi h1 h2 h3)
    rcases S.nw with e | e
    · rw [e]; exact h3
    · intro x; have := e i x; omega
  · have hi3 := K3.size
    rcases n4 with n4 | n4
    · rcases S.nw with e | e
      · exact .inl (n4.trans e)
      · exact .inr fun b hb => e b (n4 ▸ hb)
    · exact .inr fun b hb => by have := n4 b hb; omega
theorem tir_end {wr : World} {t : Int} {u v1 : Value} {j : Nat} {L1 : List Du} (S : Tir w wr r v t K u j L1 v1) (he : ∀ d, K[j]? = some d → ¬ d.tm ≤ t) (ho : Ord K) : TirE w wr r v t K u ∧ j = (dueK t K).length := by
  have hle := S.le
  have hlen : ((K.take j).map (·.id)).length = j := by rw [List.length_map, List.length_take]; omega
  have hB : ∀ d ∈ K.drop j, ¬ d.tm ≤ t := by
    rcases Nat.lt_or_ge j K.length with hj | hj
    · have hod : Ord (K.drop j) := List.Pairwise.sublist (List.drop_sublist _ _) ho
      rw [List.drop_eq_getElem_cons hj] at hod ⊢
      exact later_all hod (he _ (List.getElem?_eq_getElem hj))
    · rw [List.drop_eq_nil_of_le hj]
      intro d hd
      cases hd
  obtain ⟨e1, e2⟩ := split_due S.due hB
  rw [List.take_append_drop] at e1 e2
  unfold TirE
  rw [e1, e2]
  exact ⟨⟨⟨L1, S.perm, v1, S.mem, S.kp, S.nw⟩, own_isI S.out hlen.symm⟩, by rw [List.length_take]; omega⟩
set_option maxRecDepth 100000 in
set_option maxHeartbeats 4000000 in
theorem reftick_any (R : Rf w r v now L) (hp : L.Perm K) (ho : Ord K) (hu : Ids K) (hl : K.length ≤ 1000) {t : Int} (ht : ¬ t < now) : Calls Try.prog 13 #[.pointer (some ⟨r, 0, none⟩), .int .i64 t] w fun e w' => ∃ a c, e = .returned (.tuple #[.slice a (dueK t K).length c, .int .i64 0]) ∧ TirE w w' r v t K (.slice a (dueK t K).length c) := by
  have c1 := R.c1
  have hf1 := R.blk.free 1
  have HI : Hid (TirA w (w.setCell ⟨r, 1, none⟩ (.int .i64 t)) r v t K (.slice none 0 0) 0) :=
    ⟨L, v, World.ownsRow_nil _ _ _ _, R.time t, hp, (fun d hd => by cases hd), Kp.own w r r _ 1 _, .inl rfl, Nat.zero_le _⟩
  have HO := Lib.hid ho
  have HU := Lib.hid hu
  clear R ho hu hp
  go_enter Try.func13, Try.ntmps13
  go_wp2
  go_loopw [6] (fun u wr => ∃ j : Nat, TirA w wr r v t K u j) (fun u _ => K.length - lenOf u)
  case atStart => exact ⟨0, HI.out⟩
  case round =>
    obtain ⟨j, L1, v1, S⟩ := hrel
    have hle := S.le
    have HS := Lib.hid S
    obtain ⟨ua, uc, rfl⟩ := own_form S.out
    have hod : Ord (K.drop j) := List.Pairwise.sublist (List.drop_sublist _ _) HO.out
    have HC := Lib.hid (refnext_any S.mem S.perm hod)
    clear S hod
    by_cases hj : j < K.length
    · obtain ⟨d, hd⟩ : ∃ d, K[j]? = some d := ⟨_, List.getElem?_eq_getElem hj⟩
      have e1 : K.drop j = d :: K.drop (j + 1) := by rw [List.drop_eq_getElem_cons hj, (List.getElem?_eq_some_iff.1 hd).2]
      rw [e1] at HC
      by_cases hdt : d.tm ≤ t
      · have hgt : ¬ t < d.tm := by omega
        have HD : Hid (∀ w2, Below wr.heap.size wr w2 → ∃ q c' w3, (Builtin.append_ #[34, 34] 34 #[.slice ua j uc, .slice (some ⟨w2.heap.size, 0, none⟩) 1 1]).run Try.prog (w2.alloc (.cells #[.int .i64 d.id] 3)) = .ok (.slice (some ⟨q, 0, none⟩) (j + 1) c') w3 ∧
            Calls Try.prog 11 #[.pointer (some ⟨r, 0, none⟩), .int .i64 d.id] w3 fun e w4 => e = .returned (.bool (decide ((delK d.id L1).length < L1.length))) ∧ Hid (TirA w w4 r v t K (.slice (some ⟨q, 0, none⟩) (j + 1) c') (j + 1))) :=
          fun w2 hb => tir_step (HS.out.bel hb) hd hdt hl HO.out HU.out
        clear hd e1
        go_wp2_with (first
          | (go_at_call 16; (with_reducible refine HC.out.mono ?_); rintro e w2 ⟨rfl, hb⟩; obtain ⟨q, c', w3, hap, hC2⟩ := HD.out w2 hb; have HAP := Lib.hid hap; have HC2 := Lib.hid hC2; clear hap hC2 hb; simp only [nextV])
          | (at_builtin; refine Lib.wpList_append_run _ rfl _ _ 34 34 rfl _ _ rfl rfl _ _ HAP.out ?_)
          | (go_at_call 11; (with_reducible refine HC2.out.mono ?_); rintro e w4 ⟨rfl, hF⟩))
        exact ⟨⟨j + 1, hF.out⟩, by simp [lenOf]; omega⟩
      · have hgt : t < d.tm := by omega
        have HE : Hid (∀ w2, Below wr.heap.size wr w2 → TirE w w2 r v t K (.slice ua j uc) ∧ j = (dueK t K).length) := fun w2 hb => tir_end (HS.out.bel hb) (fun x hx => by rw [hd] at hx; rw [← Option.some.inj hx]; exact hdt) HO.out
        clear hd e1
        go_wp2_with (go_at_call 16; (with_reducible refine HC.out.mono ?_); rintro e w2 ⟨rfl, hb⟩; have HE2 := Lib.hid (HE.out w2 hb); clear hb; simp only [nextV])
        go_ret2
        obtain ⟨h1, h2⟩ := HE2.out
        rw [h2] at h1 ⊢
        exact ⟨_, _, rfl, h1⟩
    · obtain rfl : j = K.length := by omega
      rw [List.drop_length] at HC
      have HE : Hid (∀ w2, Below wr.heap.size wr w2 → TirE w w2 r v t K (.slice ua K.length uc) ∧ K.length = (dueK t K).length) := fun w2 hb => tir_end (HS.out.bel hb) (fun x hx => by rw [List.getElem?_eq_none (Nat.le_refl _)] at hx; cases hx) HO.out
      go_wp2_with (go_at_call 16; (with_reducible refine HC.out.mono ?_); rintro e w2 ⟨rfl, hb⟩; have HE2 := Lib.hid (HE.out w2 hb); clear hb; simp only [nextV])
      go_ret2
      obtain ⟨h1, h2⟩ := HE2.out
      rw [h2] at h1 ⊢
      exact ⟨_, _, rfl, h1⟩
end
end Go.Proofs.Ytboojbgcleknlaa
