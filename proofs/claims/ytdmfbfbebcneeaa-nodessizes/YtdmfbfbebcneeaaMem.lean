/-
  What each call of package mem does to a row of cells, in the cells and beside them, over every world that holds the row.
-/
import Derived.Test.YtdmfbfbebcneeaaLeaf
namespace Go.Proofs.Ytdmfbfbebcneeaa
open Go Go.RowKit

/-- A row of n cells in the world: its head in block P, the numbers in block R. -/
structure IsMem (w : World) (P R n : Nat) (c : Nat → Int) (ops fails : Int) : Prop where
  head : w.heap[P]? = some (.cells #[.slice (some ⟨R, 0, none⟩) n n, .int .i64 ops, .int .i64 fails] 107 (0, 0))
  row : w.rowIs R 155 n (fun i => .int .u64 (c i))
  ne : P ≠ R

/-- All but two blocks stay as they were; there may be new ones. -/
structure Moved (P R : Nat) (w w' : World) : Prop where
  os : w'.os = w.os
  tape : w'.tape = w.tape
  output : w'.output = w.output
  size : w.heap.size ≤ w'.heap.size
  block : ∀ k, k < w.heap.size → k ≠ P → k ≠ R → w'.heap[k]? = w.heap[k]?

theorem Moved.refl (P R : Nat) (w : World) : Moved P R w w := ⟨rfl, rfl, rfl, Nat.le_refl _, fun _ _ _ _ => rfl⟩

theorem Moved.trans {P R : Nat} {a b c : World} (h : Moved P R a b) (k : Moved P R b c) : Moved P R a c :=
  ⟨k.os.trans h.os, k.tape.trans h.tape, k.output.trans h.output, Nat.le_trans h.size k.size, fun i hi hp hr => (k.block i (Nat.lt_of_lt_of_le hi h.size) hp hr).trans (h.block i hi hp hr)⟩

theorem Moved.below {P R B : Nat} {w w' : World} (h : Moved P R w w') (hB : B ≤ w.heap.size) (hP : B ≤ P) (hR : B ≤ R) : Below B w w' :=
  ⟨h.os, h.tape, h.output, h.size, fun k hk => h.block k (by omega) (by omega) (by omega)⟩

theorem Moved.setP {P R : Nat} (w : World) (o : Nat) (v : Value) : Moved P R w (w.setCell ⟨P, o, none⟩ v) :=
  ⟨rfl, rfl, rfl, by simp [World.setCell], fun k _ hp _ => Below.heap_setCell _ _ _ _ hp⟩

theorem Moved.setR {P R : Nat} (w : World) (o : Nat) (v : Value) : Moved P R w (w.setCell ⟨R, o, none⟩ v) :=
  ⟨rfl, rfl, rfl, by simp [World.setCell], fun k _ _ hr => Below.heap_setCell _ _ _ _ hr⟩

theorem Moved.new {P R : Nat} (w : World) (o : Obj) : Moved P R w (w.alloc o) :=
  ⟨rfl, rfl, rfl, by simp, fun k hk _ _ => Below.heap_alloc _ _ _ hk⟩

/-- The numbers with one of them turned. -/
def upd (c : Nat → Int) (i : Nat) (v : Int) : Nat → Int := fun j => if j = i then v else c j

namespace IsMem

variable {w : World} {P R n : Nat} {c : Nat → Int} {ops fails : Int}

theorem ltP (h : IsMem w P R n c ops fails) : P < w.heap.size := (Array.getElem?_eq_some_iff.1 h.head).1

theorem ltR (h : IsMem w P R n c ops fails) : R < w.heap.size := h.row.lt

theorem cell0 (h : IsMem w P R n c ops fails) : w.cell? ⟨P, 0, none⟩ = some (.slice (some ⟨R, 0, none⟩) n n) := by simp [World.cell?, h.head]

theorem cell1 (h : IsMem w P R n c ops fails) : w.cell? ⟨P, 1, none⟩ = some (.int .i64 ops) := by simp [World.cell?, h.head]

theorem cell2 (h : IsMem w P R n c ops fails) : w.cell? ⟨P, 2, none⟩ = some (.int .i64 fails) := by simp [World.cell?, h.head]

theorem free (h : IsMem w P R n c ops fails) (i : Nat) : w.frozen? ⟨P, i, none⟩ = false := by simp [World.frozen?, h.head]

theorem setOps (h : IsMem w P R n c ops fails) (k : Int) : IsMem (w.setCell ⟨P, 1, none⟩ (.int .i64 k)) P R n c k fails :=
  ⟨by simp [World.setCell, Array.getElem?_modify, h.head], h.row.setOther (fun e => h.ne e.symm) _, h.ne⟩

theorem setFails (h : IsMem w P R n c ops fails) (k : Int) : IsMem (w.setCell ⟨P, 2, none⟩ (.int .i64 k)) P R n c ops k :=
  ⟨by simp [World.setCell, Array.getElem?_modify, h.head], h.row.setOther (fun e => h.ne e.symm) _, h.ne⟩

theorem setNum (h : IsMem w P R n c ops fails) (i : Nat) (v : Int) : IsMem (w.setCell ⟨R, i, none⟩ (.int .u64 v)) P R n (upd c i v) ops fails :=
  ⟨by rw [Below.heap_setCell _ _ _ _ h.ne]; exact h.head, (h.row.set i _).congr fun j _ => by by_cases e : j = i <;> simp [upd, e], h.ne⟩

theorem new (h : IsMem w P R n c ops fails) (o : Obj) : IsMem (w.alloc o) P R n c ops fails :=
  ⟨by rw [Below.heap_alloc _ _ _ h.ltP]; exact h.head, h.row.alloc o, h.ne⟩

/-- What others did to their own blocks leaves the row alone. -/
theorem of_blocks {w' : World} (h : IsMem w P R n c ops fails) (hP : w'.heap[P]? = w.heap[P]?) (hR : w'.heap[R]? = w.heap[R]?) : IsMem w' P R n c ops fails :=
  ⟨hP.trans h.head, h.row.of_block hR, h.ne⟩

theorem counts (h : IsMem w P R n c ops fails) {a b : Int} (ha : a = ops) (hb : b = fails) : IsMem w P R n c a b := by rw [ha, hb]; exact h

end IsMem

section

variable (P R n : Nat) (c : Nat → Int) (ops fails : Int) (w : World)

theorem load_in (i : Nat) (hi : i < n) (h : IsMem w P R n c ops fails) :
    Calls Try.prog 84 #[.pointer (some ⟨P, 0, none⟩), .int .i64 (i : Int)] w fun e w' => e = .returned (.int .u64 (c i)) ∧ IsMem w' P R n c (wrap64 (ops + 1)) fails ∧ Moved P R w w' := by
  have c0 := h.cell0
  have hm := h.setOps (wrap64 (ops + 1))
  have c0' := hm.cell0
  have r0 := hm.row.cell hi
  have hne := h.ne
  go_enter Try.func84, Try.ntmps84
  go_wp2_with (first
    | (go_at_call 90; go_in)
    | (go_at_call 98; refine (count_any P 1 ops 1 _ h.cell1 (h.free 1)).mono ?_; rintro e w' ⟨rfl, rfl⟩)
    | (go_at_call 91; refine (cload_any R i _ _ r0).mono ?_; rintro e w' ⟨rfl, rfl⟩))
  go_ret
  exact ⟨rfl, hm, Moved.setP _ _ _⟩

theorem store_in (i : Nat) (v : Int) (hi : i < n) (h : IsMem w P R n c ops fails) :
    Calls Try.prog 104 #[.pointer (some ⟨P, 0, none⟩), .int .i64 (i : Int), .int .u64 v] w fun e w' => e = .returned (.tuple #[]) ∧ IsMem w' P R n (upd c i v) (wrap64 (ops + 1)) fails ∧ Moved P R w w' := by
  have c0 := h.cell0
  have hm := h.setOps (wrap64 (ops + 1))
  have c0' := hm.cell0
  have r0 := hm.row.cell hi
  have f0 := hm.row.frozen i
  have hne := h.ne
  have hmf : ∀ (fn : Fn) (first cap : Array Value) (w : World), (Instr.makeFunc fn first cap).run Try.prog w = .ok (.func fn first cap) w := fun _ _ _ _ => rfl
  go_enter Try.func104, Try.ntmps104
  go_wp2_with (first
    | (go_at_call 90; go_in)
    | (go_at_call 98; refine (count_any P 1 ops 1 _ h.cell1 (h.free 1)).mono ?_; rintro e w' ⟨rfl, rfl⟩)
    | (go_at_call 107; refine (put_any R i _ v _ r0 f0).mono ?_; rintro e w' ⟨rfl, rfl⟩))
  go_end0
  exact ⟨rfl, hm.setNum i v, (Moved.setP _ _ _).trans (Moved.setR _ _ _)⟩

theorem cas_hit (i : Nat) (y : Int) (hi : i < n) (h : IsMem w P R n c ops fails) :
    Calls Try.prog 96 #[.pointer (some ⟨P, 0, none⟩), .int .i64 (i : Int), .int .u64 (c i), .int .u64 y] w fun e w' => e = .returned (.bool true) ∧ IsMem w' P R n (upd c i y) (wrap64 (ops + 1)) fails ∧ Moved P R w w' := by
  have c0 := h.cell0
  have hm := h.setOps (wrap64 (ops + 1))
  have c0' := hm.cell0
  have r0 := hm.row.cell hi
  have f0 := hm.row.frozen i
  have hlt := hm.ltR
  have hne := h.ne
  have hmf : ∀ (fn : Fn) (first cap : Array Value) (w : World), (Instr.makeFunc fn first cap).run Try.prog w = .ok (.func fn first cap) w := fun _ _ _ _ => rfl
  go_enter Try.func96, Try.ntmps96
  go_wp2_with (first
    | (go_at_call 102; go_in)
    | (go_at_call 98; refine (count_any P 1 ops 1 _ h.cell1 (h.free 1)).mono ?_; rintro e w' ⟨rfl, rfl⟩)
    | (go_at_call 103; refine (hit_any R i P _ y _ r0 f0 hlt).mono ?_; rintro e w' ⟨rfl, rfl⟩))
  go_ret
  exact ⟨rfl, (hm.setNum i y).new _, ((Moved.setP _ _ _).trans (Moved.setR _ _ _)).trans (Moved.new _ _)⟩

theorem cas_miss (i : Nat) (z y : Int) (hi : i < n) (hz : ¬ c i = z) (h : IsMem w P R n c ops fails) :
    Calls Try.prog 96 #[.pointer (some ⟨P, 0, none⟩), .int .i64 (i : Int), .int .u64 z, .int .u64 y] w fun e w' => e = .returned (.bool false) ∧ IsMem w' P R n c (wrap64 (ops + 1)) (wrap64 (fails + 1)) ∧ Moved P R w w' := by
  have c0 := h.cell0
  have hm := h.setOps (wrap64 (ops + 1))
  have c0' := hm.cell0
  have r0 := hm.row.cell hi
  have f0 := hm.row.frozen i
  have hlt := hm.ltR
  have hltP := hm.ltP
  have g0 := hm.cell2
  have gf := hm.free 2
  have hne := h.ne
  have hmf : ∀ (fn : Fn) (first cap : Array Value) (w : World), (Instr.makeFunc fn first cap).run Try.prog w = .ok (.func fn first cap) w := fun _ _ _ _ => rfl
  go_enter Try.func96, Try.ntmps96
  go_wp2_with (first
    | (go_at_call 102; go_in)
    | (go_at_call 98; refine (count_any P 1 ops 1 _ h.cell1 (h.free 1)).mono ?_; rintro e w' ⟨rfl, rfl⟩)
    | (go_at_call 103; refine (miss_any R i P _ z y fails _ r0 f0 hlt hz g0 gf hltP).mono ?_; rintro e w' ⟨rfl, rfl⟩))
  go_ret
  exact ⟨rfl, (hm.setFails _).new _, ((Moved.setP _ _ _).trans (Moved.setP _ _ _)).trans (Moved.new _ _)⟩

theorem len_any (h : IsMem w P R n c ops fails) :
    Calls Try.prog 48 #[.pointer (some ⟨P, 0, none⟩)] w fun e w' => e = .returned (.int .i64 (n : Int)) ∧ w' = w := by
  have c0 := h.cell0
  go_enter Try.func48, Try.ntmps48
  go_wp2
  go_ret
  exact ⟨rfl, rfl⟩


end

/-- All but the blocks of S stay as they were; there may be new ones. -/
structure Went (S : Nat → Prop) (w w' : World) : Prop where
  os : w'.os = w.os
  tape : w'.tape = w.tape
  output : w'.output = w.output
  size : w.heap.size ≤ w'.heap.size
  block : ∀ k, k < w.heap.size → ¬ S k → w'.heap[k]? = w.heap[k]?

namespace Went
variable {S S' : Nat → Prop} {a b c w w' : World}
theorem refl (S : Nat → Prop) (w : World) : Went S w w := ⟨rfl, rfl, rfl, Nat.le_refl _, fun _ _ _ => rfl⟩
theorem trans (h : Went S a b) (k : Went S b c) : Went S a c :=
  ⟨k.os.trans h.os, k.tape.trans h.tape, k.output.trans h.output, Nat.le_trans h.size k.size, fun i hi hs => (k.block i (Nat.lt_of_lt_of_le hi h.size) hs).trans (h.block i hi hs)⟩
theorem wider (h : Went S a b) (k : ∀ i, S i → S' i) : Went S' a b := ⟨h.os, h.tape, h.output, h.size, fun i hi hs => h.block i hi fun e => hs (k i e)⟩
theorem below {B : Nat} (h : Went S w w') (hB : B ≤ w.heap.size) (hS : ∀ i, S i → B ≤ i) : Below B w w' :=
  ⟨h.os, h.tape, h.output, h.size, fun k hk => h.block k (by omega) fun e => by have := hS k e; omega⟩
theorem set {k o : Nat} (h : S k) (w : World) (v : Value) : Went S w (w.setCell ⟨k, o, none⟩ v) :=
  ⟨rfl, rfl, rfl, by simp [World.setCell], fun i _ hs => Below.heap_setCell _ _ _ _ fun e => hs (e ▸ h)⟩
theorem new (S : Nat → Prop) (w : World) (o : Obj) : Went S w (w.alloc o) := ⟨rfl, rfl, rfl, by simp, fun k hk _ => Below.heap_alloc _ _ _ hk⟩
theorem of_moved {P R : Nat} (h : Moved P R w w') (hP : S P) (hR : S R) : Went S w w' :=
  ⟨h.os, h.tape, h.output, h.size, fun k hk hs => h.block k hk (fun e => hs (e ▸ hP)) (fun e => hs (e ▸ hR))⟩
theorem drew (h : Went S a b) : Went S a b.drew := ⟨h.os, h.tape, h.output, h.size, h.block⟩
theorem undrew (h : Went S a.drew b) : Went S a b := ⟨h.os, h.tape, h.output, h.size, h.block⟩
end Went
theorem IsMem.drew {w : World} {P R n : Nat} {c : Nat → Int} {ops fails : Int} (h : IsMem w P R n c ops fails) : IsMem w.drew P R n c ops fails := ⟨h.head, h.row.drew, h.ne⟩
theorem Moved.undrew {P R : Nat} {a b : World} (h : Moved P R a.drew b) : Moved P R a b := ⟨h.os, h.tape, h.output, h.size, h.block⟩


end Go.Proofs.Ytdmfbfbebcneeaa
