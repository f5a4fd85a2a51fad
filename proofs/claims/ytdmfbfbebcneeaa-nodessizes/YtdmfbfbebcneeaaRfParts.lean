/-
  What Parts of the reference returns: the unlike inner functions under an order.
-/
import Derived.Test.YtdmfbfbebcneeaaRfOwn
import Derived.Deep.DeepCutAuto
namespace Go.Proofs.Ytdmfbfbebcneeaa.Rf
open Go Go.RowKit

/-- Fix by whatever number: of no variable the function itself. -/
def fixI (F : Nat → Bool) (v : Int) (b : Bool) : Nat → Bool := if 0 ≤ v ∧ v < 8 then fixF F v.toNat b else F
theorem fix_int (F : Nat → Bool) (v : Int) (b : Bool) (w : World) :
    Calls Try.prog 42 #[tab F, .int .i64 v, .bool b] w fun e w' => e = .returned (tab (fixI F v b)) ∧ Below w.heap.size w w' := by
  unfold fixI
  by_cases h : 0 ≤ v ∧ v < 8
  · rw [if_pos h]
    have hv : v = ((v.toNat : Nat) : Int) := by omega
    have := fix_any F v.toNat (by omega) b w
    rw [← hv] at this
    exact this
  · rw [if_neg h]
    exact fix_none F v b (by omega) w

def dedup (T : Nat → Nat → Bool) : Nat → List (Nat → Bool)
  | 0 => []
  | k + 1 => addN (dedup T k) (T k)
theorem dedup_le (T : Nat → Nat → Bool) (k : Nat) : (dedup T k).length ≤ k := by
  induction k with
  | zero => exact Nat.le_refl _
  | succ k ih => rw [dedup]; have := addN_le (dedup T k) (T k); omega

theorem addN_skip {ts : List (Nat → Bool)} {F : Nat → Bool} (h : hasUpto (fun i => ts.getD i fun _ => false) F ts.length = true) : addN ts F = ts := by unfold addN; rw [if_pos h]
theorem addN_new {ts : List (Nat → Bool)} {F : Nat → Bool} (h : hasUpto (fun i => ts.getD i fun _ => false) F ts.length = false) : addN ts F = ts ++ [F] := by unfold addN; rw [h]; rfl

theorem two_new {a u : World} (h : Below a.heap.size a u) (o1 o2 : Obj) : Below a.heap.size a ((u.alloc o1).alloc o2) := (h.alloc h.size o1).alloc (by have := h.size; simp; omega) o2
theorem grown_below {w w' : World} {B : Nat} {row : Option Nat} (h : w.grownBy w' row) (hB : B ≤ w.heap.size) (hr : ∀ k, row = some k → B ≤ k) : Below B w w' := (Below.refl B w).grown h hB hr

/-- A slice of integers among the arguments. -/
def IntsAt (w : World) (ad : Option Addr) (n : Nat) (V : Nat → Int) : Prop :=
  n = 0 ∨ ∃ b off, ad = some ⟨b, off, none⟩ ∧ b < w.heap.size ∧ ∀ i, i < n → w.cell? ⟨b, off + i, none⟩ = some (.int .i64 (V i))
theorem IntsAt.kept {w w' : World} {ad : Option Addr} {n : Nat} {V : Nat → Int} (h : IntsAt w ad n V) (k : Below w.heap.size w w') : IntsAt w' ad n V := by
  rcases h with h | ⟨b, off, e, hb, hc⟩
  · exact .inl h
  · exact .inr ⟨b, off, e, Nat.lt_of_lt_of_le hb k.size, fun i hi => by rw [k.cell hb]; exact hc i hi⟩
theorem IntsAt.get {w : World} {b off n : Nat} {V : Nat → Int} (h : IntsAt w (some ⟨b, off, none⟩) n V) {i : Nat} (hi : i < n) : w.cell? ⟨b, off + i, none⟩ = some (.int .i64 (V i)) := by
  rcases h with h | ⟨b', off', e, _, hc⟩
  · omega
  · injection e with e
    injection e with e1 e2
    subst e1 e2
    exact hc i hi
theorem IntsAt.some {w : World} {ad : Option Addr} {n : Nat} {V : Nat → Int} (h : IntsAt w ad n V) (hn : 0 < n) : ∃ b off, ad = .some ⟨b, off, none⟩ ∧ b < w.heap.size := by
  rcases h with h | ⟨b, off, e, hb, _⟩
  · omega
  · exact ⟨b, off, e, hb⟩

def isC (F : Nat → Bool) : Bool := same F (fun _ => false) || same F (fun _ => true)
def allStep (a : List (Nat → Bool)) (F : Nat → Bool) : List (Nat → Bool) := if isC F then a else addN a F
def nextStep (last : Bool) (v : Int) (x : List (Nat → Bool)) (F : Nat → Bool) : List (Nat → Bool) := if last then x else addN (addN x (fixI F v false)) (fixI F v true)
def lvA (a0 ts : List (Nat → Bool)) : Nat → List (Nat → Bool)
  | 0 => a0
  | i + 1 => allStep (lvA a0 ts i) (ts.getD i fun _ => false)
def lvX (last : Bool) (v : Int) (ts : List (Nat → Bool)) : Nat → List (Nat → Bool)
  | 0 => []
  | i + 1 => nextStep last v (lvX last v ts i) (ts.getD i fun _ => false)
theorem lvA_le (a0 ts : List (Nat → Bool)) (i : Nat) : (lvA a0 ts i).length ≤ a0.length + i := by
  induction i with
  | zero => exact Nat.le_refl _
  | succ i ih =>
    rw [lvA, allStep]
    split
    · omega
    · have := addN_le (lvA a0 ts i) (ts.getD i fun _ => false); omega
theorem lvX_le (last : Bool) (v : Int) (ts : List (Nat → Bool)) (i : Nat) : (lvX last v ts i).length ≤ 2 * i := by
  induction i with
  | zero => exact Nat.le_refl _
  | succ i ih =>
    rw [lvX, nextStep]
    split
    · omega
    · have h1 := addN_le (lvX last v ts i) (fixI (ts.getD i fun _ => false) v false)
      have h2 := addN_le (addN (lvX last v ts i) (fixI (ts.getD i fun _ => false) v false)) (fixI (ts.getD i fun _ => false) v true)
      omega
/-- All so far, and those of the level. -/
def prt (V : Nat → Int) (n : Nat) (ts0 : List (Nat → Bool)) : Nat → List (Nat → Bool) × List (Nat → Bool)
  | 0 => ([], ts0)
  | k + 1 => (lvA (prt V n ts0 k).1 (prt V n ts0 k).2 (prt V n ts0 k).2.length, lvX (decide (k = n) || decide (k = 8)) (V k) (prt V n ts0 k).2 (prt V n ts0 k).2.length)
theorem prt_le (V : Nat → Int) (n : Nat) (ts0 : List (Nat → Bool)) (h0 : ts0.length ≤ 1000) (k : Nat) : (prt V n ts0 k).1.length ≤ 1000 * 2 ^ k ∧ (prt V n ts0 k).2.length ≤ 1000 * 2 ^ k := by
  induction k with
  | zero => simp [prt]; exact h0
  | succ k ih =>
    have h1 := lvA_le (prt V n ts0 k).1 (prt V n ts0 k).2 (prt V n ts0 k).2.length
    have h2 := lvX_le (decide (k = n) || decide (k = 8)) (V k) (prt V n ts0 k).2 (prt V n ts0 k).2.length
    rw [Nat.pow_succ]
    simp only [prt]
    omega
theorem prt_small (V : Nat → Int) (n : Nat) (ts0 : List (Nat → Bool)) (h0 : ts0.length ≤ 1000) (k : Nat) (hk : k ≤ 8) : (prt V n ts0 k).1.length ≤ 256000 ∧ (prt V n ts0 k).2.length ≤ 256000 := by
  have h := prt_le V n ts0 h0 k
  have h2 : 2 ^ k ≤ 256 := Nat.pow_le_pow_right (n := 2) (i := k) (j := 8) (by decide) hk
  omega

end Go.Proofs.Ytdmfbfbebcneeaa.Rf
