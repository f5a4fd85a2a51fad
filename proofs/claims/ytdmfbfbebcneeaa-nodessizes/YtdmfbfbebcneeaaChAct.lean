/-
  A cache and an act in memory; what the small calls of package cache return.
-/
import Derived.Test.YtdmfbfbebcneeaaChPure
import Derived.Laws.Entries
import Derived.Laws.BitsLemmas
import Derived.Laws.BitsAllLaws
import Derived.Laws.Bits64
import Derived.Laws.Bits64b
import Derived.Laws.Closers25b
import Derived.Deep.RegionWith
import Derived.Deep.RegionHeld3
import Derived.Deep.CutRange
import Derived.Deep.LoopGhost
import Derived.Deep.QuietTactic
import Derived.BigQuiet
import Derived.BigRegion
namespace Go.Proofs.Ytdmfbfbebcneeaa.Ch
open Go Go.RowKit

theorem split_any (x : Int) (w : World) (h0 : 0 ≤ x) (h1 : x ≤ 18446744073709551615) :
    Calls Try.prog 80 #[.int .u64 x] w fun e w' => e = .returned (.tuple #[.int .u32 (hi x), .int .u32 (lo x)]) ∧ w' = w := by
  go_enter Try.func80, Try.ntmps80
  go_wp2
  go_ret2
  exact ⟨rfl, rfl⟩
theorem or_form (u l : Int) (h0 : 0 ≤ u) (h1 : u < 4294967296) (h2 : 0 ≤ l) (h3 : l < 4294967296) : bits .or .u64 (u * 4294967296) l = jn u l := by
  obtain ⟨a, rfl⟩ := Int.eq_ofNat_of_zero_le h0
  obtain ⟨b, rfl⟩ := Int.eq_ofNat_of_zero_le h2
  have e := bits_or_u64_nat (a * 4294967296) b (by omega) (by omega)
  have o : a * 4294967296 ||| b = a * 4294967296 + b := by
    have := Nat.two_pow_add_eq_or_of_lt (i := 32) (b := b) (by omega) a
    rw [show (2 : Nat) ^ 32 = 4294967296 from rfl, Nat.mul_comm] at this
    exact this.symm
  rw [o] at e
  simp only [Int.natCast_mul, Int.natCast_add, Int.cast_ofNat_Int] at e
  exact e
theorem join_any (u l : Int) (w : World) (h0 : 0 ≤ u) (h1 : u < 4294967296) (h2 : 0 ≤ l) (h3 : l < 4294967296) :
    Calls Try.prog 74 #[.int .u32 u, .int .u32 l] w fun e w' => e = .returned (.int .u64 (jn u l)) ∧ w' = w := by
  have hj := or_form u l h0 h1 h2 h3
  rw [← hj]
  clear hj
  go_enter Try.func74, Try.ntmps74
  go_wp2
  go_ret
  exact ⟨rfl, rfl⟩
theorem behind_any (v : Int) (w : World) (h0 : 0 ≤ v) (h1 : v < 4294967296) :
    Calls Try.prog 88 #[.int .u32 v] w fun e w' => e = .returned (.int .u32 (bh v)) ∧ w' = w := by
  by_cases hv : v = 4294967295
  · have e : bh v = 1 := by unfold bh; rw [if_pos hv]
    rw [e]
    have h : (v + 1) % 4294967296 < 1 := by omega
    clear e
    go_enter Try.func88, Try.ntmps88
    go_wp2
    go_ret
    exact ⟨rfl, rfl⟩
  · have e : bh v = v + 1 := by unfold bh; rw [if_neg hv]
    rw [e]
    have h : (v + 1) % 4294967296 = v + 1 := by omega
    have h2 : ¬ v + 1 < 1 := by omega
    clear e
    go_enter Try.func88, Try.ntmps88
    go_wp2
    go_ret
    exact ⟨rfl, rfl⟩

/-- A cache at T, of n lines, in the cells of the row at P. -/
structure Sys (w : World) (P R N T base n : Nat) (c : Nat → Int) (ops fails : Int) : Prop where
  mem : IsMem w P R N c ops fails
  tab : ∃ cs, w.heap[T]? = some (.cells cs 88 (0, 0)) ∧ cs[23]? = some (.pointer (some ⟨P, 0, none⟩)) ∧ cs[24]? = some (.int .i64 (base : Int)) ∧ cs[25]? = some (.int .i64 (n : Int))
  room : base + 4 * n ≤ N
  pos : 1 ≤ n
  small : N ≤ 262144
  fit : U64 c

/-- What an act does next, as a value. -/
def nextF (st : Nat) : Nat := if st = 1 then 81 else if st = 2 then 89 else if st = 3 then 97 else if st = 4 then 72 else 85
def nextV (A st : Nat) : Value := if st = 0 then .nilFunc else .func (.func (nextF st)) #[.pointer (some ⟨A, 0, none⟩)] #[]
/-- An act at A over the cells of the row at P. -/
def IsAct (w : World) (A P : Nat) (S : Ac) : Prop :=
  w.heap[A]? = some (.cells #[.pointer (some ⟨P, 0, none⟩), .int .i64 (S.first : Int), .int .i64 (S.cell : Int), .int .u32 (S.h 0), .int .u32 (S.h 1), .int .u32 (S.h 2), .int .u32 (S.h 3), .int .u64 S.was, .int .u32 S.ver, nextV A S.st, .bool S.found] 136 (0, 0))

namespace Sys
variable {w w' : World} {P R N T base n : Nat} {c c' : Nat → Int} {ops fails o' f' : Int}
theorem ltT (h : Sys w P R N T base n c ops fails) : T < w.heap.size := by obtain ⟨cs, hb, _⟩ := h.tab; exact (Array.getElem?_eq_some_iff.1 hb).1
theorem neP (h : Sys w P R N T base n c ops fails) : T ≠ P := fun e => by obtain ⟨cs, a, _⟩ := h.tab; rw [e, h.mem.head] at a; simp at a
theorem neR (h : Sys w P R N T base n c ops fails) : T ≠ R := fun e => by
  obtain ⟨cs, hb, _⟩ := h.mem.row
  obtain ⟨cs', a, _⟩ := h.tab
  rw [e, hb] at a
  simp at a
theorem kept (h : Sys w P R N T base n c ops fails) (k : ∀ b, b = P ∨ b = R ∨ b = T → w'.heap[b]? = w.heap[b]?) : Sys w' P R N T base n c ops fails :=
  ⟨h.mem.of_blocks (k _ (.inl rfl)) (k _ (.inr (.inl rfl))), let ⟨cs, hb, r⟩ := h.tab; ⟨cs, (k _ (.inr (.inr rfl))).trans hb, r⟩, h.room, h.pos, h.small, h.fit⟩
theorem moved (h : Sys w P R N T base n c ops fails) (m : IsMem w' P R N c' o' f') (k : Moved P R w w') (u : U64 c') : Sys w' P R N T base n c' o' f' :=
  ⟨m, let ⟨cs, hb, r⟩ := h.tab; ⟨cs, (k.block _ h.ltT h.neP h.neR).trans hb, r⟩, h.room, h.pos, h.small, u⟩
theorem drew (h : Sys w P R N T base n c ops fails) : Sys w.drew P R N T base n c ops fails := ⟨h.mem.drew, h.tab, h.room, h.pos, h.small, h.fit⟩
theorem t0 (h : Sys w P R N T base n c ops fails) : w.cell? ⟨T, 23, none⟩ = some (.pointer (some ⟨P, 0, none⟩)) := by obtain ⟨cs, hb, h0, h1, h2⟩ := h.tab; simp [World.cell?, hb, h0]
theorem t1 (h : Sys w P R N T base n c ops fails) : w.cell? ⟨T, 24, none⟩ = some (.int .i64 (base : Int)) := by obtain ⟨cs, hb, h0, h1, h2⟩ := h.tab; simp [World.cell?, hb, h1]
theorem t2 (h : Sys w P R N T base n c ops fails) : w.cell? ⟨T, 25, none⟩ = some (.int .i64 (n : Int)) := by obtain ⟨cs, hb, h0, h1, h2⟩ := h.tab; simp [World.cell?, hb, h2]
theorem new (h : Sys w P R N T base n c ops fails) (o : Obj) : Sys (w.alloc o) P R N T base n c ops fails :=
  h.kept fun _ hb => Below.heap_alloc _ _ _ (hb.elim (fun e => e ▸ h.mem.ltP) (fun e => e.elim (fun e => e ▸ h.mem.ltR) (fun e => e ▸ h.ltT)))
theorem below (h : Sys w P R N T base n c ops fails) (k : Below w.heap.size w w') : Sys w' P R N T base n c ops fails :=
  h.kept fun _ hb => k.block _ (hb.elim (fun e => e ▸ h.mem.ltP) (fun e => e.elim (fun e => e ▸ h.mem.ltR) (fun e => e ▸ h.ltT)))
end Sys

namespace IsAct
variable {w w' : World} {A P : Nat} {S : Ac}
theorem lt (h : IsAct w A P S) : A < w.heap.size := (Array.getElem?_eq_some_iff.1 h).1
theorem f0 (h : IsAct w A P S) : w.cell? ⟨A, 0, none⟩ = some (.pointer (some ⟨P, 0, none⟩)) := by unfold IsAct at h; simp [World.cell?, h]
theorem f1 (h : IsAct w A P S) : w.cell? ⟨A, 1, none⟩ = some (.int .i64 (S.first : Int)) := by unfold IsAct at h; simp [World.cell?, h]
theorem f2 (h : IsAct w A P S) : w.cell? ⟨A, 2, none⟩ = some (.int .i64 (S.cell : Int)) := by unfold IsAct at h; simp [World.cell?, h]
theorem f3 (h : IsAct w A P S) : w.cell? ⟨A, 3, none⟩ = some (.int .u32 (S.h 0)) := by unfold IsAct at h; simp [World.cell?, h]
theorem f4 (h : IsAct w A P S) : w.cell? ⟨A, 4, none⟩ = some (.int .u32 (S.h 1)) := by unfold IsAct at h; simp [World.cell?, h]
theorem f5 (h : IsAct w A P S) : w.cell? ⟨A, 5, none⟩ = some (.int .u32 (S.h 2)) := by unfold IsAct at h; simp [World.cell?, h]
theorem f6 (h : IsAct w A P S) : w.cell? ⟨A, 6, none⟩ = some (.int .u32 (S.h 3)) := by unfold IsAct at h; simp [World.cell?, h]
theorem fh (h : IsAct w A P S) {i : Nat} (hi : i < 4) : w.cell? ⟨A, 3 + i, none⟩ = some (.int .u32 (S.h i)) := by
  obtain rfl | rfl | rfl | rfl : i = 0 ∨ i = 1 ∨ i = 2 ∨ i = 3 := by omega
  · exact h.f3
  · exact h.f4
  · exact h.f5
  · exact h.f6
theorem f7 (h : IsAct w A P S) : w.cell? ⟨A, 7, none⟩ = some (.int .u64 S.was) := by unfold IsAct at h; simp [World.cell?, h]
theorem f8 (h : IsAct w A P S) : w.cell? ⟨A, 8, none⟩ = some (.int .u32 S.ver) := by unfold IsAct at h; simp [World.cell?, h]
theorem f9 (h : IsAct w A P S) : w.cell? ⟨A, 9, none⟩ = some (nextV A S.st) := by unfold IsAct at h; simp [World.cell?, h]
theorem f10 (h : IsAct w A P S) : w.cell? ⟨A, 10, none⟩ = some (.bool S.found) := by unfold IsAct at h; simp [World.cell?, h]
theorem free (h : IsAct w A P S) (i : Nat) : w.frozen? ⟨A, i, none⟩ = false := by unfold IsAct at h; simp [World.frozen?, h]
theorem kept (h : IsAct w A P S) (k : w'.heap[A]? = w.heap[A]?) : IsAct w' A P S := k.trans h
theorem drew (h : IsAct w A P S) : IsAct w.drew A P S := h
theorem set2 (h : IsAct w A P S) (s : Nat) : IsAct (w.setCell ⟨A, 2, none⟩ (.int .i64 (s : Int))) A P ⟨S.put, S.key, S.val, S.first, s, S.h, S.was, S.ver, S.st, S.found, S.won⟩ := by unfold IsAct at *; simp [World.setCell, Array.getElem?_modify, h]
theorem seth (h : IsAct w A P S) {i : Nat} (hi : i < 4) (x : Int) : IsAct (w.setCell ⟨A, 3 + i, none⟩ (.int .u32 x)) A P ⟨S.put, S.key, S.val, S.first, S.cell, upd S.h i x, S.was, S.ver, S.st, S.found, S.won⟩ := by
  obtain rfl | rfl | rfl | rfl : i = 0 ∨ i = 1 ∨ i = 2 ∨ i = 3 := by omega
  all_goals (unfold IsAct at *; simp [World.setCell, Array.getElem?_modify, h, upd])
theorem set7 (h : IsAct w A P S) (x : Int) : IsAct (w.setCell ⟨A, 7, none⟩ (.int .u64 x)) A P ⟨S.put, S.key, S.val, S.first, S.cell, S.h, x, S.ver, S.st, S.found, S.won⟩ := by unfold IsAct at *; simp [World.setCell, Array.getElem?_modify, h]
theorem set8 (h : IsAct w A P S) (x : Int) : IsAct (w.setCell ⟨A, 8, none⟩ (.int .u32 x)) A P ⟨S.put, S.key, S.val, S.first, S.cell, S.h, S.was, x, S.st, S.found, S.won⟩ := by unfold IsAct at *; simp [World.setCell, Array.getElem?_modify, h]
theorem set9 (h : IsAct w A P S) (st : Nat) : IsAct (w.setCell ⟨A, 9, none⟩ (nextV A st)) A P ⟨S.put, S.key, S.val, S.first, S.cell, S.h, S.was, S.ver, st, S.found, S.won⟩ := by unfold IsAct at *; simp [World.setCell, Array.getElem?_modify, h]
theorem set10 (h : IsAct w A P S) (b : Bool) : IsAct (w.setCell ⟨A, 10, none⟩ (.bool b)) A P ⟨S.put, S.key, S.val, S.first, S.cell, S.h, S.was, S.ver, S.st, b, S.won⟩ := by unfold IsAct at *; simp [World.setCell, Array.getElem?_modify, h]
/-- What stands in memory does not tell of the ghosts. -/
theorem ghost (h : IsAct w A P S) (p : Bool) (k v : Int) (won : Bool) : IsAct w A P ⟨p, k, v, S.first, S.cell, S.h, S.was, S.ver, S.st, S.found, won⟩ := h
theorem is (h : IsAct w A P S) {S' : Ac} (e : S = S') : IsAct w A P S' := e ▸ h
section
variable {R N T base n P' : Nat} {c : Nat → Int} {ops fails : Int}
theorem neP (h : IsAct w A P S) (k : IsMem w P' R N c ops fails) : A ≠ P' := fun e => by unfold IsAct at h; rw [e, k.head] at h; simp at h
theorem neR (h : IsAct w A P S) (k : IsMem w P' R N c ops fails) : A ≠ R := fun e => by
  obtain ⟨cs, hb, _⟩ := k.row
  unfold IsAct at h
  rw [e, hb] at h
  simp at h
theorem neT (h : IsAct w A P S) (k : Sys w P' R N T base n c ops fails) : A ≠ T := fun e => by obtain ⟨cs, hb, _⟩ := k.tab; unfold IsAct at h; rw [e, hb] at h; simp at h
theorem moved (h : IsAct w A P S) (k : IsMem w P' R N c ops fails) (m : Moved P' R w w') : IsAct w' A P S := h.kept (m.block _ h.lt (h.neP k) (h.neR k))
theorem below (h : IsAct w A P S) (k : Below w.heap.size w w') : IsAct w' A P S := h.kept (k.block _ h.lt)
end
end IsAct

/-- Block A alone may have changed. -/
def Only (A : Nat) (w w' : World) : Prop := Went (fun k => k = A) w w'
theorem Only.refl (A : Nat) (w : World) : Only A w w := Went.refl _ _
theorem Only.set (A o : Nat) (w : World) (v : Value) : Only A w (w.setCell ⟨A, o, none⟩ v) := Went.set (S := fun k => k = A) (rfl : A = A) w v
theorem Only.trans {A : Nat} {a b c : World} (h : Only A a b) (k : Only A b c) : Only A a c := Went.trans h k
/-- The blocks that a step may turn. -/
def Foot (P R A : Nat) (k : Nat) : Prop := k = P ∨ k = R ∨ k = A
theorem foot_m {P R A : Nat} {w w' : World} (h : Moved P R w w') : Went (Foot P R A) w w' := Went.of_moved h (.inl rfl) (.inr (.inl rfl))
theorem foot_o {P R A : Nat} {w w' : World} (h : Only A w w') : Went (Foot P R A) w w' := Went.wider h fun _ e => .inr (.inr e)

section
variable {w w' : World} {P R N T base n A P' : Nat} {c : Nat → Int} {ops fails : Int} {S : Ac}
theorem Sys.only (h : Sys w P R N T base n c ops fails) (k : IsAct w A P' S) (o : Only A w w') : Sys w' P R N T base n c ops fails := by
  refine h.kept fun b hb => o.block b ?_ ?_
  · rcases hb with rfl | rfl | rfl
    · exact h.mem.ltP
    · exact h.mem.ltR
    · exact h.ltT
  · rcases hb with rfl | rfl | rfl
    · exact fun e => k.neP h.mem e.symm
    · exact fun e => k.neR h.mem e.symm
    · exact fun e => k.neT h e.symm
theorem Sys.setA (h : Sys w P R N T base n c ops fails) (k : IsAct w A P' S) (o : Nat) (v : Value) : Sys (w.setCell ⟨A, o, none⟩ v) P R N T base n c ops fails := h.only k (Only.set _ _ _ _)

theorem mkf : ∀ (fn : Fn) (first cap : Array Value) (w : World), (Instr.makeFunc fn first cap).run Try.prog w = .ok (.func fn first cap) w := fun _ _ _ _ => rfl
theorem nil_nil (w : World) : (binOp .eql 1 .nilFunc .nilFunc).run Try.prog w = .ok (.bool true) w := by kernel_rfl
theorem fun_nil (fn : Fn) (x y : Array Value) (w : World) : (binOp .eql 1 (.func fn x y) .nilFunc).run Try.prog w = .ok (.bool false) w := by kernel_rfl
/-- A function value is stored like any other: nil, and one that is not. -/
theorem run_store_nil (w : World) (a : Addr) (m : Mode) (hc : (w.cell? a).isSome = true) (hf : w.frozen? a = false) : (store a .nilFunc m).run Try.prog w = .ok () (w.setCell a .nilFunc) := by
  rw [run_store _ _ _ _ _ rfl]
  cases h : w.cell? a with
  | none => rw [h] at hc; cases hc
  | some v => simp [hf]
theorem run_store_func (fn : Fn) (x y : Array Value) (w : World) (a : Addr) (m : Mode) (hc : (w.cell? a).isSome = true) (hf : w.frozen? a = false) : (store a (.func fn x y) m).run Try.prog w = .ok () (w.setCell a (.func fn x y)) := by
  rw [run_store _ _ _ _ _ rfl]
  cases h : w.cell? a with
  | none => rw [h] at hc; cases hc
  | some v => simp [hf]

theorem done_any (k : IsAct w A P S) :
    Calls Try.prog 73 #[.pointer (some ⟨A, 0, none⟩)] w fun e w' => e = .returned (.bool (decide (S.st = 0))) ∧ w' = w := by
  have c9 := k.f9
  have q1 := nil_nil
  have q2 := fun_nil
  by_cases h0 : S.st = 0
  · unfold nextV at c9
    rw [if_pos h0] at c9
    rw [decide_eq_true h0]
    clear h0
    go_enter Try.func73, Try.ntmps73
    go_wp2
    go_ret
    exact ⟨rfl, rfl⟩
  · unfold nextV at c9
    rw [if_neg h0] at c9
    rw [decide_eq_false h0]
    generalize nextF S.st = q at c9
    clear h0
    go_enter Try.func73, Try.ntmps73
    go_wp2
    go_ret
    exact ⟨rfl, rfl⟩
theorem got_any (k : IsAct w A P S) (hh : ∀ i, 0 ≤ S.h i ∧ S.h i < 4294967296) :
    Calls Try.prog 60 #[.pointer (some ⟨A, 0, none⟩)] w fun e w' => e = .returned (.tuple #[.int .u64 S.told, .bool S.found]) ∧ ∃ q, w' = w.drewN q := by
  have c10 := k.f10
  have c5 := k.f5
  have c6 := k.f6
  unfold Ac.told
  by_cases hf : S.found = true
  · rw [hf] at c10
    rw [if_pos hf, hf]
    have K := fun q => join_any (S.h 2) (S.h 3) (w.drewN q) (hh 2).1 (hh 2).2 (hh 3).1 (hh 3).2
    generalize S.h 2 = x at c5 K
    generalize S.h 3 = y at c6 K
    clear hf
    go_enter Try.func60, Try.ntmps60
    go_wp2_with fail
    go_quiet (first | (go_at_call 74; exact Calls.quiet_of_same (K _)))
    go_wp2_with fail
    go_ret2
    exact ⟨rfl, _, rfl⟩
  · have hf' : S.found = false := by simpa using hf
    rw [hf'] at c10
    rw [if_neg hf, hf']
    clear hf hf'
    go_enter Try.func60, Try.ntmps60
    go_wp2_with fail
    go_ret2
    exact ⟨rfl, 0, rfl⟩
end
end Go.Proofs.Ytdmfbfbebcneeaa.Ch
