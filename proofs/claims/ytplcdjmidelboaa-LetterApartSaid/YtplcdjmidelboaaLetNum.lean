/- Letters as lists: which parts a kind has, when a letter is right, its bytes, and what bytes are read as. Nothing of the program is named here. -/
import Derived.Test.YtplcdjmidelboaaCirNum
import Derived.Test.YtplcdjmidelboaaWirNum
namespace Go.Proofs.Ytplcdjmidelboaa
set_option maxRecDepth 100000
open Go.RowKit

structure Lt where
  kind : Int
  fr : Pe
  req : Nat
  id : Nat
  avoid : List Int
  done : Bool
  peer : Pe
  peers : List Pe

def reqK (k : Int) : Bool := decide (k = 1 ∨ k = 2 ∨ k = 3 ∨ k = 4 ∨ k = 6 ∨ k = 7)
def idK (k : Int) : Bool := decide (k = 1)
def doneK (k : Int) : Bool := decide (k = 2)
def peerK (k : Int) : Bool := decide (k = 2 ∨ k = 4 ∨ k = 8)
def peersK (k : Int) : Bool := decide (k = 4 ∨ k = 8)
def noP : Pe := (-1, 0)
def adB (a : Int) : Bool := decide (0 ≤ a ∧ a ≤ 999)
/-- what stands in memory -/
structure Lt.Wf (l : Lt) : Prop where
  kind : -9223372036854775808 ≤ l.kind ∧ l.kind ≤ 9223372036854775807
  fr : l.fr.2 < M
  req : l.req < 18446744073709551616
  id : l.id < M
  peer : l.peer.2 < M
  peers : Go.Proofs.Ytplcdjmidelboaa.Wf l.peers
/-- it is right -/
structure Right (l : Lt) : Prop where
  kind : 1 ≤ l.kind ∧ l.kind ≤ 8
  fr : adB l.fr.1 = true
  navoid : l.avoid.length ≤ 16
  npeers : l.peers.length ≤ 8
  found : l.kind = 2 → l.peer ≠ noP
  peer : l.peer = noP ∨ adB l.peer.1 = true
  req0 : reqK l.kind = false → l.req = 0
  id0 : idK l.kind = false → l.id = 0
  avoid0 : idK l.kind = false → l.avoid = []
  done0 : doneK l.kind = false → l.done = false
  peer0 : peerK l.kind = false → l.peer = noP
  peers0 : peersK l.kind = false → l.peers = []
  avoid : ∀ a ∈ l.avoid, adB a = true
  peers : ∀ x ∈ l.peers, adB x.1 = true

/-! bytes -/
def peN (x : Pe) : List Nat := numN x.1.toNat ++ dig 20 x.2
def bitN (b : Bool) : List Nat := numN (if b then 1 else 0)
def avsN : List Int → List Nat
  | [] => []
  | a :: L => numN a.toNat ++ avsN L
def pesN : List Pe → List Nat
  | [] => []
  | x :: L => peN x ++ pesN L
def mayN (x : Pe) : List Nat := if x = noP then numN 0 else numN 1 ++ peN x
def p0 (l : Lt) : List Nat := numN l.kind.toNat ++ peN l.fr
def p1 (l : Lt) : List Nat := p0 l ++ (if reqK l.kind then numN l.req else [])
def p2 (l : Lt) : List Nat := p1 l ++ (if idK l.kind then dig 20 l.id else [])
def p3 (l : Lt) : List Nat := p2 l ++ (if idK l.kind then numN l.avoid.length ++ avsN l.avoid else [])
def p4 (l : Lt) : List Nat := p3 l ++ (if doneK l.kind then bitN l.done else [])
def p5 (l : Lt) : List Nat := p4 l ++ (if peerK l.kind then mayN l.peer else [])
def putN (l : Lt) : List Nat := p5 l ++ (if peersK l.kind then numN l.peers.length ++ pesN l.peers else [])

theorem avsN_append (L K : List Int) : avsN (L ++ K) = avsN L ++ avsN K := by
  induction L with
  | nil => rfl
  | cons x L ih => rw [List.cons_append, avsN, avsN, ih, List.append_assoc]
theorem pesN_append (L K : List Pe) : pesN (L ++ K) = pesN L ++ pesN K := by
  induction L with
  | nil => rfl
  | cons x L ih => rw [List.cons_append, pesN, pesN, ih, List.append_assoc]
theorem numN_len {v : Nat} (h : v < 18446744073709551616) : (numN v).length ≤ 9 := by rw [numN_length]; have := nb_le8 h; omega
theorem adB_iff {a : Int} : adB a = true ↔ 0 ≤ a ∧ a ≤ 999 := by unfold adB; exact decide_eq_true_iff
theorem peN_len {x : Pe} (h : adB x.1 = true) : (peN x).length ≤ 29 := by
  have := adB_iff.1 h
  have h1 := numN_len (v := x.1.toNat) (by omega)
  rw [peN, List.length_append, dig_length]; omega
theorem avsN_len {L : List Int} (h : ∀ a ∈ L, adB a = true) : (avsN L).length ≤ 9 * L.length := by
  induction L with
  | nil => simp [avsN]
  | cons a L ih =>
    have := adB_iff.1 (h a (by simp))
    have h1 := numN_len (v := a.toNat) (by omega)
    have h2 := ih fun x hx => h x (by simp [hx])
    rw [avsN, List.length_append, List.length_cons]; omega
theorem pesN_len {L : List Pe} (h : ∀ x ∈ L, adB x.1 = true) : (pesN L).length ≤ 29 * L.length := by
  induction L with
  | nil => simp [pesN]
  | cons x L ih =>
    have h1 := peN_len (h x (by simp))
    have h2 := ih fun y hy => h y (by simp [hy])
    rw [pesN, List.length_append, List.length_cons]; omega

/-! what is read -/
def rdN (b : List Nat) (p : Nat) : Except Nat (Nat × Nat) :=
  if (rNum (b.drop p)).2.2 = 0 then .ok ((rNum (b.drop p)).1, p + (rNum (b.drop p)).2.1) else .error (rNum (b.drop p)).2.2
def rdP (b : List Nat) (p : Nat) : Except Nat (Nat × Nat) :=
  if (rPl (b.drop p)).2.2 = 0 then .ok ((rPl (b.drop p)).1, p + (rPl (b.drop p)).2.1) else .error (rPl (b.drop p)).2.2
/-- a number that is at most m -/
def rdM (m : Nat) (b : List Nat) (p : Nat) : Except Nat (Nat × Nat) :=
  match rdN b p with
  | .error e => .error e
  | .ok (v, q) => if m < v then .error 3 else .ok (v, q)
def rdE (b : List Nat) (p : Nat) : Except Nat (Pe × Nat) :=
  match rdM 999 b p with
  | .error e => .error e
  | .ok (a, q) => match rdP b q with
    | .error e => .error e
    | .ok (i, r) => .ok (((a : Int), i), r)
def rdAs (b : List Nat) : Nat → List Int → Nat → Except Nat (List Int × Nat)
  | 0, L, p => .ok (L, p)
  | n + 1, L, p => match rdM 999 b p with
    | .error e => .error e
    | .ok (a, q) => rdAs b n (L ++ [(a : Int)]) q
def rdEs (b : List Nat) : Nat → List Pe → Nat → Except Nat (List Pe × Nat)
  | 0, L, p => .ok (L, p)
  | n + 1, L, p => match rdE b p with
    | .error e => .error e
    | .ok (x, q) => rdEs b n (L ++ [x]) q
def rdA (b : List Nat) (p : Nat) : Except Nat (List Int × Nat) :=
  match rdM 16 b p with
  | .error e => .error e
  | .ok (n, q) => rdAs b n [] q
def rdL (b : List Nat) (p : Nat) : Except Nat (List Pe × Nat) :=
  match rdM 8 b p with
  | .error e => .error e
  | .ok (n, q) => rdEs b n [] q
/-- of a kind, a peer or none -/
def rdY (k : Int) (b : List Nat) (p : Nat) : Except Nat (Pe × Nat) :=
  match rdM 1 b p with
  | .error e => .error e
  | .ok (v, q) => if v = 0 then (if k = 2 then .error 3 else .ok (noP, q)) else rdE b q
def rdK (b : List Nat) (p : Nat) : Except Nat (Nat × Nat) :=
  match rdN b p with
  | .error e => .error e
  | .ok (v, q) => if v < 1 ∨ 8 < v then .error 3 else .ok (v, q)
/-- a letter on the way, and what is behind it -/
abbrev St : Type := Lt × Nat
def thn (X : Except Nat St) (f : St → Except Nat St) : Except Nat St := match X with
  | .error e => .error e
  | .ok s => f s
/-- a part that is read, if there is one -/
def opt {α : Type} (c : Bool) (X : Except Nat (α × Nat)) (s : St) (put : α → Lt) : Except Nat St :=
  if c then (match X with
    | .error e => .error e
    | .ok (v, q) => .ok (put v, q)) else .ok s
def s1 (b : List Nat) (s : St) : Except Nat St := opt (reqK s.1.kind) (rdN b s.2) s fun v => { s.1 with req := v }
def s2 (b : List Nat) (s : St) : Except Nat St := opt (idK s.1.kind) (rdP b s.2) s fun v => { s.1 with id := v }
def s3 (b : List Nat) (s : St) : Except Nat St := opt (idK s.1.kind) (rdA b s.2) s fun v => { s.1 with avoid := v }
def s4 (b : List Nat) (s : St) : Except Nat St := opt (doneK s.1.kind) (rdM 1 b s.2) s fun v => { s.1 with done := decide (v = 1) }
def s5 (b : List Nat) (s : St) : Except Nat St := opt (peerK s.1.kind) (rdY s.1.kind b s.2) s fun v => { s.1 with peer := v }
def s6 (b : List Nat) (s : St) : Except Nat St := opt (peersK s.1.kind) (rdL b s.2) s fun v => { s.1 with peers := v }
def t5 (b : List Nat) (s : St) : Except Nat St := thn (s5 b s) (s6 b)
def t4 (b : List Nat) (s : St) : Except Nat St := thn (s4 b s) (t5 b)
def t3 (b : List Nat) (s : St) : Except Nat St := thn (s3 b s) (t4 b)
def t2 (b : List Nat) (s : St) : Except Nat St := thn (s2 b s) (t3 b)
def t1 (b : List Nat) (s : St) : Except Nat St := thn (s1 b s) (t2 b)
def newL (k : Int) (f : Pe) : Lt := { kind := k, fr := f, req := 0, id := 0, avoid := [], done := false, peer := noP, peers := [] }
def getS (b : List Nat) : Except Nat St :=
  match rdK b 0 with
  | .error e => .error e
  | .ok (k, p) => match rdE b p with
    | .error e => .error e
    | .ok (f, q) => t1 b (newL k f, q)
/-- what bytes are read as -/
def getN (b : List Nat) : Except Nat Lt :=
  match getS b with
  | .error e => .error e
  | .ok (l, p) => if p < b.length then .error 3 else .ok l
end Go.Proofs.Ytplcdjmidelboaa
