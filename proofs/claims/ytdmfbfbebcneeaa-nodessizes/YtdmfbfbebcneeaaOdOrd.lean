/-
  An order in memory, and what the plain calls of package order do to it.
-/
import Derived.Test.YtdmfbfbebcneeaaMem
import Derived.WalkKit
import Derived.Handy
import Derived.Deep.OwnRows
import Derived.Deep.LoopGhost
import Derived.Deep.RegionWith
import Derived.BigRegion
namespace Go.Proofs.Ytdmfbfbebcneeaa.Od
open Go Go.RowKit

/-- The cells of an order: the count, the variables by levels, the levels by variables. -/
def ordCell (n : Nat) (v l : Nat → Nat) (i : Nat) : Value := .int .i64 ((if i = 0 then n else if i < 9 then v (i - 1) else l (i - 9) : Nat) : Int)

def IsOrd (w : World) (P n : Nat) (v l : Nat → Nat) : Prop := w.rowIs P 79 17 (ordCell n v l)

/-- A function with one value turned. -/
def upd (f : Nat → Nat) (k x : Nat) : Nat → Nat := fun i => if i = k then x else f i
theorem upd_same (f : Nat → Nat) (k x : Nat) : upd f k x k = x := by simp [upd]
theorem upd_other (f : Nat → Nat) {k i : Nat} (x : Nat) (h : i ≠ k) : upd f k x i = f i := by simp [upd, h]

/-- All but one block stay as they were; there may be new ones. -/
structure Moved (P : Nat) (w w' : World) : Prop where
  os : w'.os = w.os
  tape : w'.tape = w.tape
  output : w'.output = w.output
  size : w.heap.size ≤ w'.heap.size
  block : ∀ k, k < w.heap.size → k ≠ P → w'.heap[k]? = w.heap[k]?

theorem Moved.refl (P : Nat) (w : World) : Moved P w w := ⟨rfl, rfl, rfl, Nat.le_refl _, fun _ _ _ => rfl⟩
theorem Moved.trans {P : Nat} {a b c : World} (h : Moved P a b) (k : Moved P b c) : Moved P a c :=
  ⟨k.os.trans h.os, k.tape.trans h.tape, k.output.trans h.output, Nat.le_trans h.size k.size, fun i hi hp => (k.block i (Nat.lt_of_lt_of_le hi h.size) hp).trans (h.block i hi hp)⟩
theorem Moved.below {P B : Nat} {w w' : World} (h : Moved P w w') (hB : B ≤ w.heap.size) (hP : B ≤ P) : Below B w w' :=
  ⟨h.os, h.tape, h.output, h.size, fun k hk => h.block k (by omega) (by omega)⟩
theorem Moved.set {P : Nat} (w : World) (o : Nat) (v : Value) : Moved P w (w.setCell ⟨P, o, none⟩ v) :=
  ⟨rfl, rfl, rfl, by simp [World.setCell], fun k _ hp => Below.heap_setCell _ _ _ _ hp⟩
theorem Moved.of_below {P : Nat} {w w' : World} (h : Below w.heap.size w w') : Moved P w w' := ⟨h.os, h.tape, h.output, h.size, fun k hk _ => h.block k hk⟩
theorem Moved.drew {P : Nat} {a b : World} (h : Moved P a b) : Moved P a b.drew := ⟨h.os, h.tape, h.output, h.size, h.block⟩
theorem Moved.undrew {P : Nat} {a b : World} (h : Moved P a.drew b) : Moved P a b := ⟨h.os, h.tape, h.output, h.size, h.block⟩

namespace IsOrd
variable {w : World} {P n : Nat} {v l : Nat → Nat}
theorem lt (h : IsOrd w P n v l) : P < w.heap.size := World.rowIs.lt h
theorem cell0 (h : IsOrd w P n v l) : w.cell? ⟨P, 0, none⟩ = some (.int .i64 (n : Int)) := World.rowIs.cell h (i := 0) (by omega)
theorem cellV (h : IsOrd w P n v l) {i : Nat} (hi : i < 8) : w.cell? ⟨P, 1 + i, none⟩ = some (.int .i64 (v i : Int)) := by
  rw [World.rowIs.cell h (i := 1 + i) (by omega), ordCell, if_neg (by omega), if_pos (by omega), show 1 + i - 1 = i by omega]
theorem cellL (h : IsOrd w P n v l) {i : Nat} (hi : i < 8) : w.cell? ⟨P, 9 + i, none⟩ = some (.int .i64 (l i : Int)) := by
  rw [World.rowIs.cell h (i := 9 + i) (by omega), ordCell, if_neg (by omega), if_neg (by omega), show 9 + i - 9 = i by omega]
theorem frozen (h : IsOrd w P n v l) (i : Nat) : w.frozen? ⟨P, i, none⟩ = false := World.rowIs.frozen h i
theorem of_block {w' : World} (h : IsOrd w P n v l) (e : w'.heap[P]? = w.heap[P]?) : IsOrd w' P n v l := World.rowIs.of_block h e
theorem below {w' : World} (h : IsOrd w P n v l) (k : Below w.heap.size w w') : IsOrd w' P n v l := h.of_block (k.block _ h.lt)
theorem drew (h : IsOrd w P n v l) : IsOrd w.drew P n v l := World.rowIs.drew h
theorem new (h : IsOrd w P n v l) (o : Obj) : IsOrd (w.alloc o) P n v l := World.rowIs.alloc h o
theorem setV (h : IsOrd w P n v l) {k : Nat} (x : Nat) (hk : k < 8) : IsOrd (w.setCell ⟨P, 1 + k, none⟩ (.int .i64 (x : Int))) P n (upd v k x) l :=
  (World.rowIs.set h (1 + k) _).congr fun j _ => by
    by_cases e : j = 1 + k
    · subst e
      show (if 1 + k = 1 + k then _ else _) = _
      rw [if_pos rfl, ordCell, if_neg (by omega), if_pos (by omega), show 1 + k - 1 = k by omega, upd_same]
    · simp only [if_neg e, ordCell]
      by_cases h0 : j = 0
      · simp [h0]
      · by_cases h9 : j < 9
        · rw [if_neg h0, if_pos h9, if_neg h0, if_pos h9, upd_other _ _ (by omega)]
        · rw [if_neg h0, if_neg h9, if_neg h0, if_neg h9]
theorem setL (h : IsOrd w P n v l) {k : Nat} (x : Nat) (hk : k < 8) : IsOrd (w.setCell ⟨P, 9 + k, none⟩ (.int .i64 (x : Int))) P n v (upd l k x) :=
  (World.rowIs.set h (9 + k) _).congr fun j _ => by
    by_cases e : j = 9 + k
    · subst e
      show (if 9 + k = 9 + k then _ else _) = _
      rw [if_pos rfl, ordCell, if_neg (by omega), if_neg (by omega), show 9 + k - 9 = k by omega, upd_same]
    · simp only [if_neg e, ordCell]
      by_cases h0 : j = 0
      · simp [h0]
      · by_cases h9 : j < 9
        · rw [if_neg h0, if_pos h9, if_neg h0, if_pos h9]
        · rw [if_neg h0, if_neg h9, if_neg h0, if_neg h9, upd_other _ _ (by omega)]
end IsOrd

section
variable {w : World} {P n : Nat} {v l : Nat → Nat}

theorem has_in (h : IsOrd w P n v l) (i : Nat) (hi : i < n) :
    Calls Try.prog 45 #[.pointer (some ⟨P, 0, none⟩), .int .i64 (i : Int)] w fun e w' => e = .returned (.bool true) ∧ w' = w := by
  have c0 := h.cell0
  have hi' : (i : Int) < (n : Int) := by omega
  go_enter Try.func45, Try.ntmps45
  go_wp2
  go_ret
  exact ⟨rfl, rfl⟩

theorem has_out (h : IsOrd w P n v l) (i : Int) (hi : i < 0 ∨ (n : Int) ≤ i) :
    Calls Try.prog 45 #[.pointer (some ⟨P, 0, none⟩), .int .i64 i] w fun e w' => e = .returned (.bool false) ∧ w' = w := by
  have c0 := h.cell0
  by_cases h0 : i < 0
  · have hd : decide (0 ≤ i) = false := by simp; omega
    clear hi
    go_enter Try.func45, Try.ntmps45
    go_wp2
    go_ret
    exact ⟨rfl, rfl⟩
  · have hd : decide (0 ≤ i) = true := by simp; omega
    have hd2 : decide (i < (n : Int)) = false := by simp; omega
    clear hi
    go_enter Try.func45, Try.ntmps45
    go_wp2
    go_ret
    exact ⟨rfl, rfl⟩

theorem len_any (h : IsOrd w P n v l) :
    Calls Try.prog 29 #[.pointer (some ⟨P, 0, none⟩)] w fun e w' => e = .returned (.int .i64 (n : Int)) ∧ w' = w := by
  have c0 := h.cell0
  go_enter Try.func29, Try.ntmps29
  go_wp2
  go_ret
  exact ⟨rfl, rfl⟩

theorem put_any (h : IsOrd w P n v l) (k x : Nat) (hk : k < 8) (hx : x < 8) :
    Calls Try.prog 46 #[.pointer (some ⟨P, 0, none⟩), .int .i64 (k : Int), .int .i64 (x : Int)] w fun e w' => e = .returned (.tuple #[]) ∧ IsOrd w' P n (upd v k x) (upd l x k) ∧ Moved P w w' := by
  have c0 := h.cellV hk
  have f0 := h.frozen (1 + k)
  have h1 := h.setV x hk
  have c1 := h1.cellL hx
  have f1 := h1.frozen (9 + x)
  have h2 := h1.setL k hx
  have hk' : (k : Int) < 8 := by omega
  have hx' : (x : Int) < 8 := by omega
  have hm : Moved P w ((w.setCell ⟨P, 1 + k, none⟩ (.int .i64 (x : Int))).setCell ⟨P, 9 + x, none⟩ (.int .i64 (k : Int))) := (Moved.set _ _ _).trans (Moved.set _ _ _)
  go_enter Try.func46, Try.ntmps46
  go_wp2
  go_end0
  exact ⟨rfl, h2, hm⟩

/-- What a swap leaves. -/
def swV (v : Nat → Nat) (k : Nat) : Nat → Nat := upd (upd v k (v (k + 1))) (k + 1) (v k)
def swL (v l : Nat → Nat) (k : Nat) : Nat → Nat := upd (upd l (v (k + 1)) k) (v k) (k + 1)

theorem swap_in (h : IsOrd w P n v l) (hn : n ≤ 8) (k : Nat) (hk : k + 1 < n) (h8 : ∀ i, i < n → v i < n) :
    Calls Try.prog 30 #[.pointer (some ⟨P, 0, none⟩), .int .i64 (k : Int)] w fun e w' => e = .returned (.int .i64 0) ∧ IsOrd w' P n (swV v k) (swL v l k) ∧ Moved P w w' := by
  have c0 := h.cellV (i := k) (by omega)
  have c1 := h.cellV (i := k + 1) (by omega)
  have b0 := h8 k (by omega)
  have b1 := h8 (k + 1) (by omega)
  have hk' : (k : Int) + 1 < 8 := by omega
  have hk'' : (k : Int) < 8 := by omega
  have H1 := has_in h k (by omega)
  have H2 := has_in h (k + 1) (by omega)
  have hs : Aside (((k + 1 : Nat) : Int) = (k : Int) + 1) := by simp [Aside]
  rw [hs.out] at H2
  have e1 : Aside (swV v k = upd (upd v k (v (k + 1))) (k + 1) (v k)) := rfl
  have e2 : Aside (swL v l k = upd (upd l (v (k + 1)) k) (v k) (k + 1)) := rfl
  generalize v k = x at c0 b0 e1 e2
  generalize v (k + 1) = y at c1 b1 e1 e2
  go_enter Try.func30, Try.ntmps30
  go_wp2_with (first
    | (go_at_call 45; refine H1.mono ?_; clear H1; rintro e w' ⟨rfl, rfl⟩)
    | (go_at_call 45; refine H2.mono ?_; clear H2; rintro e w' ⟨rfl, rfl⟩))
  go_region
  have h' := h.drew
  have P1 := put_any h' k y (by omega) (by omega)
  go_wp2_with (first
    | (go_at_call 46; refine P1.mono ?_; clear P1; rintro e w1 ⟨rfl, h1, m1⟩; have P2 := put_any h1 (k + 1) x (by omega) (by omega); rw [hs.out] at P2)
    | (go_at_call 46; refine P2.mono ?_; clear P2; rintro e w2 ⟨rfl, h2, m2⟩))
  go_ret
  rw [e1.out, e2.out]
  exact ⟨rfl, h2, (m1.trans m2).undrew⟩

theorem swap_out (h : IsOrd w P n v l) (hn : n ≤ 8) (i : Int) (hi : i < 0 ∨ (n : Int) ≤ i + 1) :
    Calls Try.prog 30 #[.pointer (some ⟨P, 0, none⟩), .int .i64 i] w fun e w' => e = .returned (.int .i64 40) ∧ w' = w := by
  by_cases h1 : i < 0 ∨ (n : Int) ≤ i
  · have H1 := has_out h i h1
    clear hi h1
    go_enter Try.func30, Try.ntmps30
    go_wp2_with (first
      | (go_at_call 45; refine H1.mono ?_; rintro e w' ⟨rfl, rfl⟩))
    go_ret
    exact ⟨rfl, rfl⟩
  · obtain ⟨k, rfl⟩ : ∃ k : Nat, i = (k : Int) := ⟨i.toNat, by omega⟩
    have H1 := has_in h k (by omega)
    have H2 := has_out h ((k : Int) + 1) (by omega)
    have hk8 : (k : Int) < 8 := by omega
    clear hi h1
    go_enter Try.func30, Try.ntmps30
    go_wp2_with (first
      | (go_at_call 45; refine H1.mono ?_; clear H1; rintro e w' ⟨rfl, rfl⟩)
      | (go_at_call 45; refine H2.mono ?_; clear H2; rintro e w' ⟨rfl, rfl⟩))
    go_ret
    exact ⟨rfl, rfl⟩
end

end Go.Proofs.Ytdmfbfbebcneeaa.Od
