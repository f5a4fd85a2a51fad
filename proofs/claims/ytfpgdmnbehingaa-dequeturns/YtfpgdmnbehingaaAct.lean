/-
  A deque and an act in memory; what the small calls of package deque return.
-/
import Derived.Test.YtfpgdmnbehingaaPure
import Derived.Test.YtfpgdmnbehingaaNew
import Derived.Laws.Entries
import Derived.Deep.RegionWith
import Derived.Deep.RegionHeld3
import Derived.Deep.CutRange
import Derived.Deep.LoopGhost
import Derived.Deep.QuietTactic
import Derived.BigQuiet
import Derived.BigRegion
namespace Go.Proofs.Ytfpgdmnbehingaa
open Go Go.RowKit

/-- All but the blocks of S stay as they were; there may be new ones. -/
structure Went (S : Nat → Prop) (w w' : World) : Prop where
  os : w'.os = w.os
  tape : w'.tape = w.tape
  output : w'.output = w.output
  size : w.heap.size ≤ w'.heap.size
  block : ∀ k, k < w.heap.size → ¬ S k → w'.heap[k]? = w.heap[k]?

namespace Went
variable {S S' : Nat → Prop} {a b c w w' : World}
theorem refl (S : Nat → Prop) (w : World) : Went S w w := ⟨rfl, rfl, rfl, Nat.le_refl _, fun _ _ _ => rfl⟩
theorem trans (h : Went S a b) (k : Went S b c) : Went S a c :=
  ⟨k.os.trans h.os, k.tape.trans h.tape, k.output.trans h.output, Nat.le_trans h.size k.size, fun i hi hs => (k.block i (Nat.lt_of_lt_of_le hi h.size) hs).trans (h.block i hi hs)⟩
theorem wider (h : Went S a b) (k : ∀ i, S i → S' i) : Went S' a b := ⟨h.os, h.tape, h.output, h.size, fun i hi hs => h.block i hi fun e => hs (k i e)⟩
theorem below {B : Nat} (h : Went S w w') (hB : B ≤ w.heap.size) (hS : ∀ i, S i → B ≤ i) : Below B w w' :=
  ⟨h.os, h.tape, h.output, h.size, fun k hk => h.block k (by omega) fun e => by have := hS k e; omega⟩
theorem set {k o : Nat} (h : S k) (w : World) (v : Value) : Went S w (w.setCell ⟨k, o, none⟩ v) :=
  ⟨rfl, rfl, rfl, by simp [World.setCell], fun i _ hs => Below.heap_setCell _ _ _ _ fun e => hs (e ▸ h)⟩
theorem new (S : Nat → Prop) (w : World) (o : Obj) : Went S w (w.alloc o) := ⟨rfl, rfl, rfl, by simp, fun k hk _ => Below.heap_alloc _ _ _ hk⟩
theorem of_moved {P R : Nat} (h : Moved P R w w') (hP : S P) (hR : S R) : Went S w w' :=
  ⟨h.os, h.tape, h.output, h.size, fun k hk hs => h.block k hk (fun e => hs (e ▸ hP)) (fun e => hs (e ▸ hR))⟩
theorem drew (h : Went S a b) : Went S a b.drew := ⟨h.os, h.tape, h.output, h.size, h.block⟩
theorem undrew (h : Went S a.drew b) : Went S a b := ⟨h.os, h.tape, h.output, h.size, h.block⟩
end Went
theorem IsMem.drew {w : World} {P R n : Nat} {c : Nat → Int} {ops fails : Int} (h : IsMem w P R n c ops fails) : IsMem w.drew P R n c ops fails := ⟨h.head, h.row.drew, h.ne⟩
theorem Moved.undrew {P R : Nat} {a b : World} (h : Moved P R a.drew b) : Moved P R a b := ⟨h.os, h.tape, h.output, h.size, h.block⟩

theorem Went.undrewN {F : Nat → Prop} {a b : World} {q : Nat} (h : Went F (a.drewN q) b) : Went F a b := ⟨h.os, h.tape, h.output, h.size, h.block⟩
theorem Went.drawn (F : Nat → Prop) (a : World) (q : Nat) : Went F a (a.drewN q) := ⟨rfl, rfl, rfl, Nat.le_refl _, fun _ _ _ => rfl⟩
theorem IsMem.drewN {w : World} {P R n : Nat} {c : Nat → Int} {ops fails : Int} (h : IsMem w P R n c ops fails) (q : Nat) : IsMem (w.drewN q) P R n c ops fails := h.of_blocks rfl rfl
theorem Moved.undrewN {P R q : Nat} {a b : World} (h : Moved P R (a.drewN q) b) : Moved P R a b := ⟨h.os, h.tape, h.output, h.size, h.block⟩

/-- A deque at T, of n places, in the cells of the row at P from b on. -/
structure Sys (w : World) (P R N T b n : Nat) (c : Nat → Int) (ops fails : Int) : Prop where
  mem : IsMem w P R N c ops fails
  tab : w.heap[T]? = some (.cells #[.pointer (some ⟨P, 0, none⟩), .int .i64 (b : Int), .int .i64 (n : Int)] 63 (0, 0))
  room : b + 2 + n ≤ N
  pos : 1 ≤ n
  small : N ≤ 262144
  fit : U64 c

/-- What an act does next, as a value. -/
def nextF (st : Nat) : Nat :=
  match st with
  | 1 => 25
  | 2 => 34
  | 3 => 43
  | 4 => 52
  | 5 => 26
  | 6 => 36
  | 7 => 46
  | 8 => 54
  | 9 => 45
  | 10 => 27
  | 11 => 37
  | 12 => 47
  | _ => 55
def nextV (A st : Nat) : Value := if st = 0 then .nilFunc else .func (.func (nextF st)) #[.pointer (some ⟨A, 0, none⟩)] #[]
/-- An act at A of the deque at T. -/
def IsAct (w : World) (A T : Nat) (S : Ac) : Prop :=
  w.heap[A]? = some (.cells #[.pointer (some ⟨T, 0, none⟩), .int .u64 S.first, .int .u64 S.last, .int .u64 S.value, .int .i64 (S.left : Int), nextV A S.st, .bool S.got] 65 (0, 0))

namespace Sys
variable {w w' : World} {P R N T b n : Nat} {c c' : Nat → Int} {ops fails o' f' : Int}
theorem ltT (h : Sys w P R N T b n c ops fails) : T < w.heap.size := (Array.getElem?_eq_some_iff.1 h.tab).1
theorem neP (h : Sys w P R N T b n c ops fails) : T ≠ P := fun e => by have a := h.tab; rw [e, h.mem.head] at a; simp at a
theorem neR (h : Sys w P R N T b n c ops fails) : T ≠ R := fun e => by
  obtain ⟨cs, hb, _⟩ := h.mem.row
  have a := h.tab
  rw [e, hb] at a
  simp at a
theorem kept (h : Sys w P R N T b n c ops fails) (k : ∀ b, b = P ∨ b = R ∨ b = T → w'.heap[b]? = w.heap[b]?) : Sys w' P R N T b n c ops fails :=
  ⟨h.mem.of_blocks (k _ (.inl rfl)) (k _ (.inr (.inl rfl))), (k _ (.inr (.inr rfl))).trans h.tab, h.room, h.pos, h.small, h.fit⟩
theorem moved (h : Sys w P R N T b n c ops fails) (m : IsMem w' P R N c' o' f') (k : Moved P R w w') (u : U64 c') : Sys w' P R N T b n c' o' f' :=
  ⟨m, (k.block _ h.ltT h.neP h.neR).trans h.tab, h.room, h.pos, h.small, u⟩
theorem drew (h : Sys w P R N T b n c ops fails) : Sys w.drew P R N T b n c ops fails := ⟨h.mem.drew, h.tab, h.room, h.pos, h.small, h.fit⟩
theorem drewN (h : Sys w P R N T b n c ops fails) (q : Nat) : Sys (w.drewN q) P R N T b n c ops fails := h.kept fun _ _ => rfl
theorem t0 (h : Sys w P R N T b n c ops fails) : w.cell? ⟨T, 0, none⟩ = some (.pointer (some ⟨P, 0, none⟩)) := by simp [World.cell?, h.tab]
theorem t1 (h : Sys w P R N T b n c ops fails) : w.cell? ⟨T, 1, none⟩ = some (.int .i64 (b : Int)) := by simp [World.cell?, h.tab]
theorem t2 (h : Sys w P R N T b n c ops fails) : w.cell? ⟨T, 2, none⟩ = some (.int .i64 (n : Int)) := by simp [World.cell?, h.tab]
theorem new (h : Sys w P R N T b n c ops fails) (o : Obj) : Sys (w.alloc o) P R N T b n c ops fails :=
  h.kept fun _ hb => Below.heap_alloc _ _ _ (hb.elim (fun e => e ▸ h.mem.ltP) (fun e => e.elim (fun e => e ▸ h.mem.ltR) (fun e => e ▸ h.ltT)))
theorem below (h : Sys w P R N T b n c ops fails) (k : Below w.heap.size w w') : Sys w' P R N T b n c ops fails :=
  h.kept fun _ hb => k.block _ (hb.elim (fun e => e ▸ h.mem.ltP) (fun e => e.elim (fun e => e ▸ h.mem.ltR) (fun e => e ▸ h.ltT)))
end Sys

namespace IsAct
variable {w w' : World} {A T : Nat} {S : Ac}
theorem lt (h : IsAct w A T S) : A < w.heap.size := (Array.getElem?_eq_some_iff.1 h).1
theorem f0 (h : IsAct w A T S) : w.cell? ⟨A, 0, none⟩ = some (.pointer (some ⟨T, 0, none⟩)) := by unfold IsAct at h; simp [World.cell?, h]
theorem f1 (h : IsAct w A T S) : w.cell? ⟨A, 1, none⟩ = some (.int .u64 S.first) := by unfold IsAct at h; simp [World.cell?, h]
theorem f2 (h : IsAct w A T S) : w.cell? ⟨A, 2, none⟩ = some (.int .u64 S.last) := by unfold IsAct at h; simp [World.cell?, h]
theorem f3 (h : IsAct w A T S) : w.cell? ⟨A, 3, none⟩ = some (.int .u64 S.value) := by unfold IsAct at h; simp [World.cell?, h]
theorem f4 (h : IsAct w A T S) : w.cell? ⟨A, 4, none⟩ = some (.int .i64 (S.left : Int)) := by unfold IsAct at h; simp [World.cell?, h]
theorem f5 (h : IsAct w A T S) : w.cell? ⟨A, 5, none⟩ = some (nextV A S.st) := by unfold IsAct at h; simp [World.cell?, h]
theorem f6 (h : IsAct w A T S) : w.cell? ⟨A, 6, none⟩ = some (.bool S.got) := by unfold IsAct at h; simp [World.cell?, h]
theorem free (h : IsAct w A T S) (i : Nat) : w.frozen? ⟨A, i, none⟩ = false := by unfold IsAct at h; simp [World.frozen?, h]
theorem kept (h : IsAct w A T S) (k : w'.heap[A]? = w.heap[A]?) : IsAct w' A T S := k.trans h
theorem drew (h : IsAct w A T S) : IsAct w.drew A T S := h
theorem drewN (h : IsAct w A T S) (q : Nat) : IsAct (w.drewN q) A T S := h
theorem set1 (h : IsAct w A T S) (x : Int) : IsAct (w.setCell ⟨A, 1, none⟩ (.int .u64 x)) A T ⟨x, S.last, S.value, S.left, S.st, S.got⟩ := by unfold IsAct at *; simp [World.setCell, Array.getElem?_modify, h]
theorem set2 (h : IsAct w A T S) (x : Int) : IsAct (w.setCell ⟨A, 2, none⟩ (.int .u64 x)) A T ⟨S.first, x, S.value, S.left, S.st, S.got⟩ := by unfold IsAct at *; simp [World.setCell, Array.getElem?_modify, h]
theorem set3 (h : IsAct w A T S) (x : Int) : IsAct (w.setCell ⟨A, 3, none⟩ (.int .u64 x)) A T ⟨S.first, S.last, x, S.left, S.st, S.got⟩ := by unfold IsAct at *; simp [World.setCell, Array.getElem?_modify, h]
theorem set4 (h : IsAct w A T S) (x : Nat) : IsAct (w.setCell ⟨A, 4, none⟩ (.int .i64 (x : Int))) A T ⟨S.first, S.last, S.value, x, S.st, S.got⟩ := by unfold IsAct at *; simp [World.setCell, Array.getElem?_modify, h]
theorem set5 (h : IsAct w A T S) (st : Nat) : IsAct (w.setCell ⟨A, 5, none⟩ (nextV A st)) A T ⟨S.first, S.last, S.value, S.left, st, S.got⟩ := by unfold IsAct at *; simp [World.setCell, Array.getElem?_modify, h]
theorem set6 (h : IsAct w A T S) (g : Bool) : IsAct (w.setCell ⟨A, 6, none⟩ (.bool g)) A T ⟨S.first, S.last, S.value, S.left, S.st, g⟩ := by unfold IsAct at *; simp [World.setCell, Array.getElem?_modify, h]
theorem is (h : IsAct w A T S) {S' : Ac} (e : S = S') : IsAct w A T S' := e ▸ h
section
variable {R N b n P T' : Nat} {c : Nat → Int} {ops fails : Int}
theorem neP (h : IsAct w A T S) (k : IsMem w P R N c ops fails) : A ≠ P := fun e => by unfold IsAct at h; rw [e, k.head] at h; simp at h
theorem neR (h : IsAct w A T S) (k : IsMem w P R N c ops fails) : A ≠ R := fun e => by
  obtain ⟨cs, hb, _⟩ := k.row
  unfold IsAct at h
  rw [e, hb] at h
  simp at h
theorem neT (h : IsAct w A T S) (k : Sys w P R N T' b n c ops fails) : A ≠ T' := fun e => by unfold IsAct at h; rw [e, k.tab] at h; simp at h
theorem moved (h : IsAct w A T S) (k : IsMem w P R N c ops fails) (m : Moved P R w w') : IsAct w' A T S := h.kept (m.block _ h.lt (h.neP k) (h.neR k))
theorem below (h : IsAct w A T S) (k : Below w.heap.size w w') : IsAct w' A T S := h.kept (k.block _ h.lt)
end
end IsAct

/-- Block A alone may have changed. -/
def Only (A : Nat) (w w' : World) : Prop := Went (fun k => k = A) w w'
theorem Only.refl (A : Nat) (w : World) : Only A w w := Went.refl _ _
theorem Only.set (A o : Nat) (w : World) (v : Value) : Only A w (w.setCell ⟨A, o, none⟩ v) := Went.set (S := fun k => k = A) (rfl : A = A) w v
theorem Only.trans {A : Nat} {a b c : World} (h : Only A a b) (k : Only A b c) : Only A a c := Went.trans h k
/-- The blocks that a step may turn. -/
def Foot (P R A : Nat) (k : Nat) : Prop := k = P ∨ k = R ∨ k = A
theorem foot_m {P R A : Nat} {w w' : World} (h : Moved P R w w') : Went (Foot P R A) w w' := Went.of_moved h (.inl rfl) (.inr (.inl rfl))
theorem foot_o {P R A : Nat} {w w' : World} (h : Only A w w') : Went (Foot P R A) w w' := Went.wider h fun _ e => .inr (.inr e)

section
variable {w w' : World} {P R N T b n A T' : Nat} {c : Nat → Int} {ops fails : Int} {S : Ac}
theorem Sys.only (h : Sys w P R N T b n c ops fails) (k : IsAct w A T' S) (o : Only A w w') : Sys w' P R N T b n c ops fails := by
  refine h.kept fun b hb => o.block b ?_ ?_
  · rcases hb with rfl | rfl | rfl
    · exact h.mem.ltP
    · exact h.mem.ltR
    · exact h.ltT
  · rcases hb with rfl | rfl | rfl
    · exact fun e => k.neP h.mem e.symm
    · exact fun e => k.neR h.mem e.symm
    · exact fun e => k.neT h e.symm
theorem Sys.setA (h : Sys w P R N T b n c ops fails) (k : IsAct w A T' S) (o : Nat) (v : Value) : Sys (w.setCell ⟨A, o, none⟩ v) P R N T b n c ops fails := h.only k (Only.set _ _ _ _)

theorem mkf : ∀ (fn : Fn) (first cap : Array Value) (w : World), (Instr.makeFunc fn first cap).run Try.prog w = .ok (.func fn first cap) w := fun _ _ _ _ => rfl
theorem nil_nil (w : World) : (binOp .eql 1 .nilFunc .nilFunc).run Try.prog w = .ok (.bool true) w := by kernel_rfl
theorem fun_nil (fn : Fn) (x y : Array Value) (w : World) : (binOp .eql 1 (.func fn x y) .nilFunc).run Try.prog w = .ok (.bool false) w := by kernel_rfl
/-- A function value is stored like any other: nil, and one that is not. -/
theorem run_store_nil (w : World) (a : Addr) (m : Mode) (hc : (w.cell? a).isSome = true) (hf : w.frozen? a = false) : (store a .nilFunc m).run Try.prog w = .ok () (w.setCell a .nilFunc) := by
  rw [run_store _ _ _ _ _ rfl]
  cases h : w.cell? a with
  | none => rw [h] at hc; cases hc
  | some v => simp [hf]
theorem run_store_func (fn : Fn) (x y : Array Value) (w : World) (a : Addr) (m : Mode) (hc : (w.cell? a).isSome = true) (hf : w.frozen? a = false) : (store a (.func fn x y) m).run Try.prog w = .ok () (w.setCell a (.func fn x y)) := by
  rw [run_store _ _ _ _ _ rfl]
  cases h : w.cell? a with
  | none => rw [h] at hc; cases hc
  | some v => simp [hf]


theorem done_any (k : IsAct w A T S) :
    Calls Try.prog 21 #[.pointer (some ⟨A, 0, none⟩)] w fun e w' => e = .returned (.bool (decide (S.st = 0))) ∧ w' = w := by
  have c9 := k.f5
  have q1 := nil_nil
  have q2 := fun_nil
  by_cases h0 : S.st = 0
  · unfold nextV at c9
    rw [if_pos h0] at c9
    rw [decide_eq_true h0]
    clear h0
    go_enter Try.func21, Try.ntmps21
    go_wp2
    go_ret
    exact ⟨rfl, rfl⟩
  · unfold nextV at c9
    rw [if_neg h0] at c9
    rw [decide_eq_false h0]
    generalize nextF S.st = q at c9
    clear h0
    go_enter Try.func21, Try.ntmps21
    go_wp2
    go_ret
    exact ⟨rfl, rfl⟩
theorem got_any (k : IsAct w A T S) :
    Calls Try.prog 20 #[.pointer (some ⟨A, 0, none⟩)] w fun e w' => e = .returned (.tuple #[.int .u64 S.told, .bool S.has]) ∧ w' = w := by
  have c3 := k.f3
  have c6 := k.f6
  have K := done_any k
  have hb : S.has = (decide (S.st = 0) && S.got) := rfl
  generalize decide (S.st = 0) = d at K hb
  unfold Ac.told
  generalize S.got = g at c6 hb
  cases d
  · have e : S.has = false := by simpa using hb
    rw [e, if_neg (by simp)]
    clear hb e
    go_enter Try.func20, Try.ntmps20
    go_wp2_with (first | (go_at_call 21; refine K.mono ?_; clear K; rintro e w1 ⟨rfl, rfl⟩))
    go_ret2
    exact ⟨rfl, rfl⟩
  · cases g
    · have e : S.has = false := by simpa using hb
      rw [e, if_neg (by simp)]
      clear hb e
      go_enter Try.func20, Try.ntmps20
      go_wp2_with (first | (go_at_call 21; refine K.mono ?_; clear K; rintro e w1 ⟨rfl, rfl⟩))
      go_ret2
      exact ⟨rfl, rfl⟩
    · have e : S.has = true := by simpa using hb
      rw [e, if_pos rfl]
      clear hb e
      go_enter Try.func20, Try.ntmps20
      go_wp2_with (first | (go_at_call 21; refine K.mono ?_; clear K; rintro e w1 ⟨rfl, rfl⟩))
      go_ret2
      exact ⟨rfl, rfl⟩
end

attribute [local go_sem] run_store_nil run_store_func
section
variable {w w' : World} {P R N T b n A : Nat} {c : Nat → Int} {ops fails : Int} {S : Ac}
theorem ahead_any (f e : Int) (w : World) :
    Calls Try.prog 29 #[.int .u64 f, .int .u64 e] w fun r w' => r = .returned (.int .i64 (ah f e)) ∧ w' = w := by
  have hw : IntKind.i64.wrap ((e - f) % 18446744073709551616) = ah f e := by rw [IntKind.wrap_i64]; unfold ah wrap64; omega
  have hw2 : IntKind.i64.wrap (IntKind.u64.wrap (e - f)) = ah f e := by rw [IntKind.wrap_u64]; exact hw
  generalize ah f e = r at hw hw2
  go_enter Try.func29, Try.ntmps29
  go_wp2
  go_ret
  exact ⟨rfl, rfl⟩
theorem finish_any (k : IsAct w A T S) (g : Bool) :
    Calls Try.prog 42 #[.pointer (some ⟨A, 0, none⟩), .bool g] w fun e w' => e = .returned (.tuple #[]) ∧ IsAct w' A T ⟨S.first, S.last, S.value, S.left, 0, g⟩ ∧ Only A w w' := by
  have c6 := k.f6
  have g6 := k.free 6
  have k1 := k.set6 g
  have c5 := k1.f5
  have g5 := k1.free 5
  go_enter Try.func42, Try.ntmps42
  go_wp2_with fail
  go_end0
  exact ⟨rfl, k1.set5 0, (Only.set A 6 w _).trans (Only.set A 5 _ _)⟩
end
end Go.Proofs.Ytfpgdmnbehingaa
