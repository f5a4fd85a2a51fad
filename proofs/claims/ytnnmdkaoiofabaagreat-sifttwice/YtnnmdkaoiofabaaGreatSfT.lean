/-
 Sifting: stores with known handles and a known order; boxes of functions.
-/
import Derived.Test.YtnnmdkaoiofabaaGreatSfK
namespace Go.Proofs.YtnnmdkaoiofabaaGreat.Sf
open Go Go.RowKit
open Rf (tab word same IsTab fixF)
def fo2 (F : Nat → Bool) : Obj := .cells #[.int .u64 (word F 0 : Int), .int .u64 (word F 1 : Int), .int .u64 (word F 2 : Int), .int .u64 (word F 3 : Int)] 24
theorem boxes2' (w : World) (F G : Nat → Bool) : IsTab ((w.alloc (fo2 F)).alloc (fo2 G)) w.heap.size F ∧ IsTab ((w.alloc (fo2 F)).alloc (fo2 G)) (w.heap.size + 1) G ∧ Below w.heap.size w ((w.alloc (fo2 F)).alloc (fo2 G)) := by
 refine ⟨(IsTab.new w F).alloc _, IsTab.newAt (by simp) G, ((Below.refl _ w).alloc (Nat.le_refl _) _).alloc (by simp) _⟩
theorem out_tab {w w' : World} (o : Out w w') {b : Nat} {F : Nat → Bool} (h : IsTab w b F) : IsTab w' b F := o b _ _ _ h (by decide)
def Sy (W w : World) (S n r : Nat) (v : Nat → Nat) (l : Kl) (b : Nat) : Prop := ∃ F M, St w S F M ∧ M.n = n ∧ M.room = r ∧ M.v = v ∧ M.up ≤ b ∧ Kn M l ∧ Below W.heap.size W w ∧ ∀ k, F k → W.heap.size ≤ k
section
variable {W w w' : World} {S n r b x y : Nat} {v : Nat → Nat} {l : Kl} {X Y : Nat → Bool}
theorem new_y (W w : World) (n r : Nat) (h1 : 1 ≤ n) (h8 : n ≤ 8) (r1 : 1 ≤ r) (r2 : r ≤ 32768) (B : Below W.heap.size W w) :
  Calls Tryz.prog 9 #[.int .i64 (n : Int), .int .i64 (r : Int)] w fun e w' => ∃ S, e = .returned (.tuple #[.pointer (some ⟨S, 0, none⟩), .int .i64 0]) ∧ Sy W w' S n r (Od.idn n) [] 0 ∧ Below w.heap.size w w' := by
 refine (s_new n r w h1 h8 r1 r2).mono ?_
 rintro e w' ⟨S, F, rfl, s, b, f⟩
 exact ⟨S, rfl, ⟨F, _, s, rfl, rfl, rfl, Nat.le_refl _, (fun p hp => absurd hp List.not_mem_nil), Rf.below_far B b, fun k hk => Nat.le_trans B.size (f k hk)⟩, b⟩
theorem make_y (h : Sy W w S 8 r v l b) (hb : b + 82 ≤ r) (G : Nat → Bool) :
  Calls Tryz.prog 11 #[.pointer (some ⟨S, 0, none⟩), tab G] w fun e w' => ∃ z : Nat, e = .returned (.tuple #[.int .u32 (z : Int), .bool true]) ∧ Sy W w' S 8 r v ((z, G) :: l) (b + 63) ∧ Out w w' := by
 obtain ⟨F, M, s, e1, e2, e3, e4, q, B, f⟩ := h
 refine (make_any s (Dep.all s.ok e1 G) (by rw [e1, e2]; omega)).mono ?_
 rintro e w' ⟨x, M', rfl, ⟨F', s', g⟩, m⟩
 have u := m.up
 rw [e1] at u
 exact ⟨x, rfl, ⟨F', M', s', m.grew.n.trans e1, m.grew.room.trans e2, m.grew.v.trans e3, by omega, (q.grew s.ok m.grew).cons m.node m.tbl, Wf.far B g B.size f, g.after B.size f⟩, Out.of s g⟩
theorem or_y (h : Sy W w S 8 r v l b) (hx : (x, X) ∈ l) (hy : (y, Y) ∈ l) (hb : b + 82 ≤ r) :
  Calls Tryz.prog 29 #[.pointer (some ⟨S, 0, none⟩), .int .u32 (x : Int), .int .u32 (y : Int)] w fun e w' => ∃ z : Nat, e = .returned (.tuple #[.int .u32 (z : Int), .int .i64 0]) ∧ Sy W w' S 8 r v ((z, fO X Y) :: l) (b + 63) ∧ Out w w' := by
 obtain ⟨F, M, s, e1, e2, e3, e4, q, B, f⟩ := h
 obtain ⟨nx, ex⟩ := q _ hx
 obtain ⟨ny, ey⟩ := q _ hy
 refine (or_op s nx ny).mono ?_
 rintro e w' ⟨z, er, M', F', rfl, t, s', g⟩
 rcases t with ⟨rfl, t⟩ | ⟨rfl, rfl, t⟩
 ·have u := t.up
  rw [e1] at u
  refine ⟨z, rfl, ⟨F', M', s', t.grew.n.trans e1, t.grew.room.trans e2, t.grew.v.trans e3, by omega, (q.grew s.ok t.grew).cons t.node (t.tbl.trans fun y hy => ?_), Wf.far B g B.size f, g.after B.size f⟩, Out.of s g⟩
  unfold ans
  rw [ex y hy, ey y hy]
  rfl
 ·exact (t.never s'.ok (by rw [Nat.sub_zero, e1]; omega)).elim
end
end Go.Proofs.YtnnmdkaoiofabaaGreat.Sf
