/-
  Slices of pairs of numbers that lie in a block of their own.
-/
import Derived.Test.YthcjmbfhcdkffaaMap
import Derived.Test.YthcjmbfhcdkffaaHeap
import Derived.Deep.LoopGhost
import Derived.Deep.RegionWith
import Derived.BigRegion
import Derived.Deep.AppendLies
import Derived.Deep.AppendSrc
import Derived.Maps.AppendAt
namespace Go.Proofs.Ythcjmbfhcdkffaa
open Go Go.RowKit

/-- Block g has room for cap pairs, of which the first n are told by I. -/
def PairsAt (w : World) (g n cap : Nat) (I : Nat → Int × Int) : Prop :=
  ∃ cur : Array Value, w.heap[g]? = some (.cells cur 30 (0, 0)) ∧ n ≤ cap ∧ cap ≤ maxLen ∧ cur.size = cap * 2 ∧ ∀ i, i < n → cur[i * 2]? = some (.int .i64 (I i).1) ∧ cur[i * 2 + 1]? = some (.int .i64 (I i).2)

/-- Pairs with one of them turned. -/
def setP (I : Nat → Int × Int) (k : Nat) (x : Int × Int) : Nat → Int × Int := fun i => if i = k then x else I i
theorem setP_same (I : Nat → Int × Int) (k : Nat) (x : Int × Int) : setP I k x k = x := by simp [setP]
theorem setP_other (I : Nat → Int × Int) {k i : Nat} (x : Int × Int) (h : i ≠ k) : setP I k x i = I i := by simp [setP, h]

namespace PairsAt
variable {w w' : World} {g n cap : Nat} {I J : Nat → Int × Int}
theorem lt (h : PairsAt w g n cap I) : g < w.heap.size := by
  obtain ⟨cur, h, _⟩ := h
  exact (Array.getElem?_eq_some_iff.1 h).1
theorem cell0 (h : PairsAt w g n cap I) {i : Nat} (hi : i < n) : w.cell? ⟨g, i * 2, none⟩ = some (.int .i64 (I i).1) := by
  obtain ⟨cur, hb, _, _, _, hc⟩ := h
  simp [World.cell?, hb, (hc i hi).1]
theorem cell1 (h : PairsAt w g n cap I) {i : Nat} (hi : i < n) : w.cell? ⟨g, i * 2 + 1, none⟩ = some (.int .i64 (I i).2) := by
  obtain ⟨cur, hb, _, _, _, hc⟩ := h
  simp [World.cell?, hb, (hc i hi).2]
theorem frozen (h : PairsAt w g n cap I) (i : Nat) : w.frozen? ⟨g, i, none⟩ = false := by
  obtain ⟨cur, hb, _⟩ := h
  simp [World.frozen?, hb]
theorem of_block (h : PairsAt w g n cap I) (e : w'.heap[g]? = w.heap[g]?) : PairsAt w' g n cap I := by
  obtain ⟨cur, hb, k⟩ := h
  exact ⟨cur, e.trans hb, k⟩
theorem congr (h : PairsAt w g n cap I) (e : ∀ i, i < n → I i = J i) : PairsAt w g n cap J := by
  obtain ⟨cur, hb, h1, h2, h3, h4⟩ := h
  exact ⟨cur, hb, h1, h2, h3, fun i hi => by rw [← e i hi]; exact h4 i hi⟩
theorem less (h : PairsAt w g n cap I) {m : Nat} (hm : m ≤ n) : PairsAt w g m cap I := by
  obtain ⟨cur, hb, h1, h2, h3, h4⟩ := h
  exact ⟨cur, hb, by omega, h2, h3, fun i hi => h4 i (by omega)⟩
theorem cap_le (h : PairsAt w g n cap I) : n ≤ cap ∧ cap ≤ maxLen := by
  obtain ⟨cur, hb, h1, h2, h3, h4⟩ := h
  exact ⟨h1, h2⟩
/-- One pair written over. -/
theorem set (h : PairsAt w g n cap I) {k : Nat} (hk : k < n) (x y : Int) :
    PairsAt ((w.setCell ⟨g, k * 2, none⟩ (.int .i64 x)).setCell ⟨g, k * 2 + 1, none⟩ (.int .i64 y)) g n cap (setP I k (x, y)) := by
  obtain ⟨cur, hb, h1, h2, h3, h4⟩ := h
  refine ⟨(cur.setIfInBounds (k * 2) (.int .i64 x)).setIfInBounds (k * 2 + 1) (.int .i64 y), ?_, h1, h2, by simp [h3], fun i hi => ?_⟩
  · simp [World.setCell, Array.getElem?_modify, hb]
  · by_cases e : i = k
    · subst e
      rw [setP_same, Array.getElem?_setIfInBounds_ne (by omega)]
      constructor
      · rw [Array.getElem?_setIfInBounds_self_of_lt (by omega)]
      · rw [Array.getElem?_setIfInBounds_self_of_lt (by simp; omega)]
    · rw [setP_other _ _ e, Array.getElem?_setIfInBounds_ne (by omega), Array.getElem?_setIfInBounds_ne (by omega), Array.getElem?_setIfInBounds_ne (by omega), Array.getElem?_setIfInBounds_ne (by omega)]
      exact h4 i hi
theorem setKey (h : PairsAt w g n cap I) {k : Nat} (hk : k < n) (y : Int) :
    PairsAt (w.setCell ⟨g, k * 2 + 1, none⟩ (.int .i64 y)) g n cap (setP I k ((I k).1, y)) := by
  obtain ⟨cur, hb, h1, h2, h3, h4⟩ := h
  refine ⟨cur.setIfInBounds (k * 2 + 1) (.int .i64 y), ?_, h1, h2, by simp [h3], fun i hi => ?_⟩
  · simp [World.setCell, Array.getElem?_modify, hb]
  · by_cases e : i = k
    · subst e
      rw [setP_same, Array.getElem?_setIfInBounds_ne (by omega)]
      exact ⟨(h4 i hi).1, by rw [Array.getElem?_setIfInBounds_self_of_lt (by omega)]⟩
    · rw [setP_other _ _ e, Array.getElem?_setIfInBounds_ne (by omega), Array.getElem?_setIfInBounds_ne (by omega)]
      exact h4 i hi
end PairsAt

def pairsL (n : Nat) (I : Nat → Int × Int) : List Value := (List.range n).flatMap fun i => [Value.int .i64 (I i).1, Value.int .i64 (I i).2]
theorem pairsL_succ (n : Nat) (I : Nat → Int × Int) : pairsL (n + 1) I = pairsL n I ++ [.int .i64 (I n).1, .int .i64 (I n).2] := by simp [pairsL, List.range_succ]
theorem pairsL_length (n : Nat) (I : Nat → Int × Int) : (pairsL n I).length = n * 2 := by
  induction n with
  | zero => rfl
  | succ n ih => rw [pairsL_succ, List.length_append, ih]; simp; omega
theorem pairsL_get {n : Nat} {I : Nat → Int × Int} {i : Nat} (hi : i < n) : (pairsL n I)[i * 2]? = some (.int .i64 (I i).1) ∧ (pairsL n I)[i * 2 + 1]? = some (.int .i64 (I i).2) := by
  induction n with
  | zero => omega
  | succ n ih =>
    rw [pairsL_succ]
    have hl := pairsL_length n I
    by_cases e : i = n
    · subst e
      rw [List.getElem?_append_right (by omega), List.getElem?_append_right (by omega), hl]
      simp
    · rw [List.getElem?_append_left (by omega), List.getElem?_append_left (by omega)]
      exact ih (by omega)
theorem pairsL_one (n : Nat) (I : Nat → Int × Int) : ∀ u ∈ pairsL n I, u.oneCell' = true := by
  intro u hu
  obtain ⟨i, _, hu⟩ := List.mem_flatMap.1 hu
  simp at hu
  rcases hu with rfl | rfl <;> rfl
theorem pairsL_congr {n : Nat} {I J : Nat → Int × Int} (h : ∀ i, i < n → I i = J i) : pairsL n I = pairsL n J := by
  induction n with
  | zero => rfl
  | succ n ih => rw [pairsL_succ, pairsL_succ, ih fun i hi => h i (by omega), h n (by omega)]

/-- The slice of pairs: nil, or the head of a block. -/
def OwnP (w : World) (ad : Option Addr) (n cap : Nat) (I : Nat → Int × Int) : Prop :=
  (ad = none ∧ n = 0 ∧ cap = 0) ∨ ∃ g, ad = some ⟨g, 0, none⟩ ∧ PairsAt w g n cap I
/-- The block of a slice, if it has one, is such. -/
def Blk (ad : Option Addr) (p : Nat → Prop) : Prop := ∀ a, ad = some a → p a.block

namespace OwnP
variable {w w' : World} {ad : Option Addr} {n cap : Nat} {I J : Nat → Int × Int}
theorem form (h : OwnP w ad n cap I) (hn : 0 < n) : ∃ g, ad = some ⟨g, 0, none⟩ ∧ PairsAt w g n cap I := by
  rcases h with ⟨_, h, _⟩ | h
  · omega
  · exact h
theorem kept (h : OwnP w ad n cap I) (k : Blk ad fun b => w'.heap[b]? = w.heap[b]?) : OwnP w' ad n cap I := by
  rcases h with h | ⟨g, rfl, h⟩
  · exact .inl h
  · exact .inr ⟨g, rfl, h.of_block (k _ rfl)⟩
theorem lt (h : OwnP w ad n cap I) : Blk ad fun b => b < w.heap.size := by
  intro a ha
  rcases h with ⟨rfl, _⟩ | ⟨g, rfl, h⟩
  · cases ha
  · cases ha; exact h.lt
theorem congr (h : OwnP w ad n cap I) (e : ∀ i, i < n → I i = J i) : OwnP w ad n cap J := by
  rcases h with h | ⟨g, rfl, h⟩
  · exact .inl h
  · exact .inr ⟨g, rfl, h.congr e⟩
theorem less (h : OwnP w ad n cap I) {m : Nat} (hm : m ≤ n) : OwnP w ad m cap I := by
  rcases h with ⟨h1, h2, h3⟩ | ⟨g, rfl, h⟩
  · exact .inl ⟨h1, by omega, h3⟩
  · exact .inr ⟨g, rfl, h.less hm⟩
theorem nil (w : World) (I : Nat → Int × Int) : OwnP w none 0 0 I := .inl ⟨rfl, rfl, rfl⟩
theorem owns (h : OwnP w ad n cap I) {B : Nat} (hB : Blk ad fun b => B ≤ b) : w.ownsRow B 30 2 (.slice ad n cap) n (pairsL n I) := by
  refine ⟨pairsL_length n I, ?_⟩
  rcases h with ⟨rfl, rfl, rfl⟩ | ⟨g, rfl, cur, hb, h1, h2, h3, h4⟩
  · exact .inl ⟨rfl, rfl⟩
  · refine .inr ⟨g, cap, cur, rfl, hB _ rfl, hb, h1, h2, h3, ?_⟩
    apply List.ext_getElem?
    intro j
    by_cases hj : j < n * 2
    · rw [List.getElem?_take, if_pos hj, Array.getElem?_toList]
      by_cases e : j % 2 = 0
      · obtain ⟨i, rfl⟩ : ∃ i, j = i * 2 := ⟨j / 2, by omega⟩
        rw [(h4 i (by omega)).1, (pairsL_get (by omega)).1]
      · obtain ⟨i, rfl⟩ : ∃ i, j = i * 2 + 1 := ⟨j / 2, by omega⟩
        rw [(h4 i (by omega)).2, (pairsL_get (by omega)).2]
    · rw [List.getElem?_eq_none (show (cur.toList.take (n * 2)).length ≤ j by simp; omega), List.getElem?_eq_none (show (pairsL n I).length ≤ j by rw [pairsL_length]; omega)]
theorem of_owns {v : Value} {B : Nat} (h : w.ownsRow B 30 2 v n (pairsL n I)) : ∃ ad cap, v = .slice ad n cap ∧ OwnP w ad n cap I ∧ (Blk ad fun b => B ≤ b) := by
  obtain ⟨_, h⟩ := h
  rcases h with ⟨rfl, rfl⟩ | ⟨g, cap, cur, rfl, hB, hb, h1, h2, h3, h4⟩
  · exact ⟨none, 0, rfl, .inl ⟨rfl, rfl, rfl⟩, fun a ha => by cases ha⟩
  · refine ⟨_, cap, rfl, .inr ⟨g, rfl, cur, hb, h1, h2, h3, fun i hi => ?_⟩, fun a ha => by cases ha; exact hB⟩
    have e0 := congrArg (·[i * 2]?) h4
    have e1 := congrArg (·[i * 2 + 1]?) h4
    simp only [List.getElem?_take] at e0 e1
    rw [if_pos (by omega), Array.getElem?_toList, (pairsL_get hi).1] at e0
    rw [if_pos (by omega), Array.getElem?_toList, (pairsL_get hi).2] at e1
    exact ⟨e0, e1⟩
end OwnP

theorem info30 : (Try.prog.info? 30).map (fun i => (i.zero, i.size, i.bytes)) = some (some (.agg #[.int .i64 0, .int .i64 0]), 2, 16) := by kernel_rfl

/-- All but some blocks stay as they were; there may be new ones. -/
structure Moved (S : Nat → Prop) (w w' : World) : Prop where
  os : w'.os = w.os
  tape : w'.tape = w.tape
  output : w'.output = w.output
  size : w.heap.size ≤ w'.heap.size
  block : ∀ k, k < w.heap.size → ¬ S k → w'.heap[k]? = w.heap[k]?
namespace Moved
variable {S T : Nat → Prop} {a b c w w' : World}
theorem refl (S : Nat → Prop) (w : World) : Moved S w w := ⟨rfl, rfl, rfl, Nat.le_refl _, fun _ _ _ => rfl⟩
theorem trans (h : Moved S a b) (k : Moved S b c) : Moved S a c :=
  ⟨k.os.trans h.os, k.tape.trans h.tape, k.output.trans h.output, Nat.le_trans h.size k.size, fun i hi hp => (k.block i (Nat.lt_of_lt_of_le hi h.size) hp).trans (h.block i hi hp)⟩
/-- What came later may be touched later. -/
theorem then_ (h : Moved S a b) (k : Moved T b c) (hT : ∀ i, T i → S i ∨ a.heap.size ≤ i) : Moved S a c :=
  ⟨k.os.trans h.os, k.tape.trans h.tape, k.output.trans h.output, Nat.le_trans h.size k.size, fun i hi hp => (k.block i (Nat.lt_of_lt_of_le hi h.size) fun t => by rcases hT i t with s | s; exact hp s; omega).trans (h.block i hi hp)⟩
theorem mono (h : Moved S a b) (hS : ∀ i, S i → T i) : Moved T a b := ⟨h.os, h.tape, h.output, h.size, fun i hi hp => h.block i hi fun s => hp (hS i s)⟩
theorem below {B : Nat} (h : Moved S a b) (hB : B ≤ a.heap.size) (hS : ∀ i, S i → B ≤ i) : Below B a b :=
  ⟨h.os, h.tape, h.output, h.size, fun k hk => h.block k (by omega) fun s => by have := hS k s; omega⟩
theorem of_below (h : Below a.heap.size a b) : Moved S a b := ⟨h.os, h.tape, h.output, h.size, fun k hk _ => h.block k hk⟩
theorem of_turned {m : Nat} (h : Turned m a b) (hm : S m) : Moved S a b := ⟨h.os, h.tape, h.output, by rw [h.size]; omega, fun k _ hs => h.block k fun e => hs (e ▸ hm)⟩
theorem set {g : Nat} (w : World) (hg : S g) (o : Nat) (v : Value) : Moved S w (w.setCell ⟨g, o, none⟩ v) :=
  ⟨rfl, rfl, rfl, by simp [World.setCell], fun k _ hp => Below.heap_setCell _ _ _ _ fun e => hp (e ▸ hg)⟩
theorem new (w : World) (o : Obj) : Moved S w (w.alloc o) := ⟨rfl, rfl, rfl, by simp, fun k hk _ => Below.heap_alloc _ _ _ hk⟩
theorem drew (h : Moved S a b) : Moved S a b.drew := ⟨h.os, h.tape, h.output, h.size, h.block⟩
theorem undrew (h : Moved S a.drew b) : Moved S a b := ⟨h.os, h.tape, h.output, h.size, h.block⟩
end Moved
end Go.Proofs.Ythcjmbfhcdkffaa
