/-
  A table and a finder in memory; what each inner call of package utable does to them.
-/
import Derived.Test.YtdmfbfbebcneeaaTbProbe
import Derived.Deep.RegionWith
import Derived.Deep.CutRange
import Derived.BigRegion
import Derived.Deep.LoopGhost
namespace Go.Proofs.Ytdmfbfbebcneeaa.Tb
open Go Go.RowKit

/-- A table at T in the cells of the row at P. -/
structure Sys (w : World) (P R N T base n : Nat) (c : Nat → Int) (ops fails : Int) : Prop where
  mem : IsMem w P R N c ops fails
  tab : ∃ cs, w.heap[T]? = some (.cells cs 88 (0, 0)) ∧ cs[19]? = some (.pointer (some ⟨P, 0, none⟩)) ∧ cs[20]? = some (.int .i64 (base : Int)) ∧ cs[21]? = some (.int .i64 (n : Int))
  room : base + n ≤ N
  pos : 1 ≤ n
  small : N ≤ 262144

/-- What a finder does next, as a value. -/
def nextV (F st : Nat) : Value := if st = 0 then .nilFunc else if st = 1 then .func (.func 87) #[.pointer (some ⟨F, 0, none⟩)] #[] else if st = 2 then .func (.func 94) #[.pointer (some ⟨F, 0, none⟩)] #[] else .func (.func 101) #[.pointer (some ⟨F, 0, none⟩)] #[]
/-- A finder at F of the table at T. -/
def IsFd (w : World) (F T : Nat) (S : Fd) : Prop :=
  w.heap[F]? = some (.cells #[.pointer (some ⟨T, 19, none⟩), .int .u64 S.key, .int .i64 (S.slot : Int), .int .i64 (S.left : Int), nextV F S.st, .bool S.found, .bool S.made] 141 (0, 0))

namespace Sys
variable {w w' : World} {P R N T base n : Nat} {c c' : Nat → Int} {ops fails o' f' : Int}
theorem ltT (h : Sys w P R N T base n c ops fails) : T < w.heap.size := by obtain ⟨cs, hb, _⟩ := h.tab; exact (Array.getElem?_eq_some_iff.1 hb).1
theorem neP (h : Sys w P R N T base n c ops fails) : T ≠ P := fun e => by obtain ⟨cs, a, _⟩ := h.tab; rw [e, h.mem.head] at a; simp at a
theorem neR (h : Sys w P R N T base n c ops fails) : T ≠ R := fun e => by
  obtain ⟨cs, hb, _⟩ := h.mem.row
  obtain ⟨cs', a, _⟩ := h.tab
  rw [e, hb] at a
  simp at a
theorem kept (h : Sys w P R N T base n c ops fails) (k : ∀ b, b = P ∨ b = R ∨ b = T → w'.heap[b]? = w.heap[b]?) : Sys w' P R N T base n c ops fails :=
  ⟨h.mem.of_blocks (k _ (.inl rfl)) (k _ (.inr (.inl rfl))), let ⟨cs, hb, r⟩ := h.tab; ⟨cs, (k _ (.inr (.inr rfl))).trans hb, r⟩, h.room, h.pos, h.small⟩
theorem moved (h : Sys w P R N T base n c ops fails) (m : IsMem w' P R N c' o' f') (k : Moved P R w w') : Sys w' P R N T base n c' o' f' :=
  ⟨m, let ⟨cs, hb, r⟩ := h.tab; ⟨cs, (k.block _ h.ltT h.neP h.neR).trans hb, r⟩, h.room, h.pos, h.small⟩
theorem drew (h : Sys w P R N T base n c ops fails) : Sys w.drew P R N T base n c ops fails := ⟨h.mem.drew, h.tab, h.room, h.pos, h.small⟩
theorem t0 (h : Sys w P R N T base n c ops fails) : w.cell? ⟨T, 19, none⟩ = some (.pointer (some ⟨P, 0, none⟩)) := by obtain ⟨cs, hb, h0, h1, h2⟩ := h.tab; simp [World.cell?, hb, h0]
theorem t1 (h : Sys w P R N T base n c ops fails) : w.cell? ⟨T, 20, none⟩ = some (.int .i64 (base : Int)) := by obtain ⟨cs, hb, h0, h1, h2⟩ := h.tab; simp [World.cell?, hb, h1]
theorem t2 (h : Sys w P R N T base n c ops fails) : w.cell? ⟨T, 21, none⟩ = some (.int .i64 (n : Int)) := by obtain ⟨cs, hb, h0, h1, h2⟩ := h.tab; simp [World.cell?, hb, h2]
theorem new (h : Sys w P R N T base n c ops fails) (o : Obj) : Sys (w.alloc o) P R N T base n c ops fails :=
  h.kept fun _ hb => Below.heap_alloc _ _ _ (hb.elim (fun e => e ▸ h.mem.ltP) (fun e => e.elim (fun e => e ▸ h.mem.ltR) (fun e => e ▸ h.ltT)))
theorem below (h : Sys w P R N T base n c ops fails) (k : Below w.heap.size w w') : Sys w' P R N T base n c ops fails :=
  h.kept fun _ hb => k.block _ (hb.elim (fun e => e ▸ h.mem.ltP) (fun e => e.elim (fun e => e ▸ h.mem.ltR) (fun e => e ▸ h.ltT)))
end Sys

namespace IsFd
variable {w w' : World} {F T : Nat} {S : Fd}
theorem lt (h : IsFd w F T S) : F < w.heap.size := (Array.getElem?_eq_some_iff.1 h).1
theorem f0 (h : IsFd w F T S) : w.cell? ⟨F, 0, none⟩ = some (.pointer (some ⟨T, 19, none⟩)) := by unfold IsFd at h; simp [World.cell?, h]
theorem f1 (h : IsFd w F T S) : w.cell? ⟨F, 1, none⟩ = some (.int .u64 S.key) := by unfold IsFd at h; simp [World.cell?, h]
theorem f2 (h : IsFd w F T S) : w.cell? ⟨F, 2, none⟩ = some (.int .i64 (S.slot : Int)) := by unfold IsFd at h; simp [World.cell?, h]
theorem f3 (h : IsFd w F T S) : w.cell? ⟨F, 3, none⟩ = some (.int .i64 (S.left : Int)) := by unfold IsFd at h; simp [World.cell?, h]
theorem f4 (h : IsFd w F T S) : w.cell? ⟨F, 4, none⟩ = some (nextV F S.st) := by unfold IsFd at h; simp [World.cell?, h]
theorem f5 (h : IsFd w F T S) : w.cell? ⟨F, 5, none⟩ = some (.bool S.found) := by unfold IsFd at h; simp [World.cell?, h]
theorem f6 (h : IsFd w F T S) : w.cell? ⟨F, 6, none⟩ = some (.bool S.made) := by unfold IsFd at h; simp [World.cell?, h]
theorem free (h : IsFd w F T S) (i : Nat) : w.frozen? ⟨F, i, none⟩ = false := by unfold IsFd at h; simp [World.frozen?, h]
theorem kept (h : IsFd w F T S) (k : w'.heap[F]? = w.heap[F]?) : IsFd w' F T S := k.trans h
theorem set2 (h : IsFd w F T S) (s : Nat) : IsFd (w.setCell ⟨F, 2, none⟩ (.int .i64 (s : Int))) F T ⟨S.key, s, S.left, S.st, S.found, S.made⟩ := by unfold IsFd at *; simp [World.setCell, Array.getElem?_modify, h]
theorem set3 (h : IsFd w F T S) (l : Nat) : IsFd (w.setCell ⟨F, 3, none⟩ (.int .i64 (l : Int))) F T ⟨S.key, S.slot, l, S.st, S.found, S.made⟩ := by unfold IsFd at *; simp [World.setCell, Array.getElem?_modify, h]
theorem set4 (h : IsFd w F T S) (st : Nat) : IsFd (w.setCell ⟨F, 4, none⟩ (nextV F st)) F T ⟨S.key, S.slot, S.left, st, S.found, S.made⟩ := by unfold IsFd at *; simp [World.setCell, Array.getElem?_modify, h]
theorem set5 (h : IsFd w F T S) (b : Bool) : IsFd (w.setCell ⟨F, 5, none⟩ (.bool b)) F T ⟨S.key, S.slot, S.left, S.st, b, S.made⟩ := by unfold IsFd at *; simp [World.setCell, Array.getElem?_modify, h]
theorem set6 (h : IsFd w F T S) (b : Bool) : IsFd (w.setCell ⟨F, 6, none⟩ (.bool b)) F T ⟨S.key, S.slot, S.left, S.st, S.found, b⟩ := by unfold IsFd at *; simp [World.setCell, Array.getElem?_modify, h]
section
variable {P R N T' base n : Nat} {c : Nat → Int} {ops fails : Int}
theorem neP (h : IsFd w F T S) (k : IsMem w P R N c ops fails) : F ≠ P := fun e => by unfold IsFd at h; rw [e, k.head] at h; simp at h
theorem neR (h : IsFd w F T S) (k : IsMem w P R N c ops fails) : F ≠ R := fun e => by
  obtain ⟨cs, hb, _⟩ := k.row
  unfold IsFd at h
  rw [e, hb] at h
  simp at h
theorem neT (h : IsFd w F T S) (k : Sys w P R N T' base n c ops fails) : F ≠ T' := fun e => by obtain ⟨cs, hb, _⟩ := k.tab; unfold IsFd at h; rw [e, hb] at h; simp at h
end
end IsFd
theorem Sys.setF {w : World} {P R N T base n F T' : Nat} {c : Nat → Int} {ops fails : Int} {S : Fd} (h : Sys w P R N T base n c ops fails) (k : IsFd w F T' S) (o : Nat) (v : Value) : Sys (w.setCell ⟨F, o, none⟩ v) P R N T base n c ops fails :=
  h.kept fun _ hb => Below.heap_setCell _ _ _ _ (hb.elim (fun e => e ▸ (k.neP h.mem).symm) (fun e => e.elim (fun e => e ▸ (k.neR h.mem).symm) (fun e => e ▸ (k.neT h).symm)))
theorem IsFd.moved {w w' : World} {P R N F T : Nat} {c : Nat → Int} {ops fails : Int} {S : Fd} (h : IsFd w F T S) (k : IsMem w P R N c ops fails) (m : Moved P R w w') : IsFd w' F T S :=
  h.kept (m.block _ h.lt (h.neP k) (h.neR k))

section
variable {w : World} {P R N T base n F : Nat} {c : Nat → Int} {ops fails : Int} {S : Fd}
theorem load_any (h : Sys w P R N T base n c ops fails) (s : Nat) (hs : s < n) :
    Calls Try.prog 76 #[.pointer (some ⟨T, 19, none⟩), .int .i64 (s : Int)] w fun e w' => e = .returned (.int .u64 (c (base + s))) ∧ Sys w' P R N T base n c (wrap64 (ops + 1)) fails ∧ Moved P R w w' := by
  have t0 := h.t0
  have t1 := h.t1
  have hr := h.room
  have hsm := h.small
  have hw : Aside (IntKind.i64.wrap ((base : Int) + (s : Int)) = ((base + s : Nat) : Int)) := by simp only [Aside]; rw [IntKind.wrap_i64]; omega
  have K := load_in P R N c ops fails w.drew (base + s) (by omega) h.mem.drew
  go_enter Try.func76, Try.ntmps76
  go_wp2_with fail
  go_region_with (first
    | (go_at_call 84; rw [hw.out]; refine K.mono ?_; clear K; rintro e w1 ⟨rfl, m1, b1⟩))
  all_goals go_wp2_with fail
  all_goals (go_ret; exact ⟨rfl, h.moved m1 b1.undrew, b1.undrew⟩)
theorem swap_hit (h : Sys w P R N T base n c ops fails) (s : Nat) (hs : s < n) (k : Int) (h0 : c (base + s) = 0) :
    Calls Try.prog 100 #[.pointer (some ⟨T, 19, none⟩), .int .i64 (s : Int), .int .u64 k] w fun e w' => e = .returned (.bool true) ∧ Sys w' P R N T base n (upd c (base + s) k) (wrap64 (ops + 1)) fails ∧ Moved P R w w' := by
  have t0 := h.t0
  have t1 := h.t1
  have hr := h.room
  have hsm := h.small
  have hw : Aside (IntKind.i64.wrap ((base : Int) + (s : Int)) = ((base + s : Nat) : Int)) := by simp only [Aside]; rw [IntKind.wrap_i64]; omega
  have K := cas_hit P R N c ops fails w.drew (base + s) k (by omega) h.mem.drew
  rw [h0] at K
  go_enter Try.func100, Try.ntmps100
  go_wp2_with fail
  go_region_with (first
    | (go_at_call 96; rw [hw.out]; refine K.mono ?_; clear K; rintro e w1 ⟨rfl, m1, b1⟩))
  all_goals go_wp2_with fail
  all_goals (go_ret; exact ⟨rfl, h.moved m1 b1.undrew, b1.undrew⟩)
theorem swap_miss (h : Sys w P R N T base n c ops fails) (s : Nat) (hs : s < n) (k : Int) (h0 : ¬ c (base + s) = 0) :
    Calls Try.prog 100 #[.pointer (some ⟨T, 19, none⟩), .int .i64 (s : Int), .int .u64 k] w fun e w' => e = .returned (.bool false) ∧ Sys w' P R N T base n c (wrap64 (ops + 1)) (wrap64 (fails + 1)) ∧ Moved P R w w' := by
  have t0 := h.t0
  have t1 := h.t1
  have hr := h.room
  have hsm := h.small
  have hw : Aside (IntKind.i64.wrap ((base : Int) + (s : Int)) = ((base + s : Nat) : Int)) := by simp only [Aside]; rw [IntKind.wrap_i64]; omega
  have K := cas_miss P R N c ops fails w.drew (base + s) 0 k (by omega) h0 h.mem.drew
  clear h0
  go_enter Try.func100, Try.ntmps100
  go_wp2_with fail
  go_region_with (first
    | (go_at_call 96; rw [hw.out]; refine K.mono ?_; clear K; rintro e w1 ⟨rfl, m1, b1⟩))
  all_goals go_wp2_with fail
  all_goals (go_ret; exact ⟨rfl, h.moved m1 b1.undrew, b1.undrew⟩)
theorem behind_any (h : Sys w P R N T base n c ops fails) (s : Nat) (hs : s < n) :
    Calls Try.prog 77 #[.pointer (some ⟨T, 19, none⟩), .int .i64 (s : Int)] w fun e w' => e = .returned (.int .i64 (((s + 1) % n : Nat) : Int)) ∧ w' = w := by
  have t2 := h.t2
  have hr := h.room
  have hsm := h.small
  have hp := h.pos
  have hn0 : ¬ (n : Int) = 0 := by omega
  have hn1 : ((n : Int) == 0) = false := by simpa using hn0
  have e1 : (((s + 1) % n : Nat) : Int) = ((s : Int) + 1) % (n : Int) := by simp
  have r0 : 0 ≤ ((s : Int) + 1) % (n : Int) := Int.emod_nonneg _ (by omega)
  have r1 : ((s : Int) + 1) % (n : Int) < n := Int.emod_lt_of_pos _ (by omega)
  have r2 : Int.tmod ((s : Int) + 1) (n : Int) = ((s : Int) + 1) % (n : Int) := Int.tmod_eq_emod_of_nonneg (by omega)
  rw [e1]
  clear e1
  go_enter Try.func77, Try.ntmps77
  go_wp2
  go_ret
  exact ⟨rfl, rfl⟩
end
end Go.Proofs.Ytdmfbfbebcneeaa.Tb
