/-
  QuantFull: stores of little room.
-/
import Derived.Test.YtlhanbjjlifjjaaGreatQtT
import Derived.Test.YtlhanbjjlifjjaaGreatLgc
import Derived.Test.YtlhanbjjlifjjaaGreatBaseG
import Derived.Test.YtlhanbjjlifjjaaGreatBaseE
namespace Go.Proofs.YtlhanbjjlifjjaaGreat
open Go Go.RowKit
open Rf (tab word IsTab TabsAt IntsAt prt dedup laid laid_turned laid_tab)

theorem tabs_one {v : World} {g : Nat} {F : Nat → Bool} (h : v.heap[g]? = some (.cells #[.int .u64 (word F 0 : Int), .int .u64 (word F 1 : Int), .int .u64 (word F 2 : Int), .int .u64 (word F 3 : Int)] 24 (0, 0))) : TabsAt v (some ⟨g, 0, none⟩) 1 (fun _ => F) := by
  refine .inr ⟨g, 0, rfl, (Array.getElem?_eq_some_iff.1 h).1, fun i hi k hk => ?_⟩
  have ci : i = 0 := by omega
  have ck : k = 0 ∨ k = 1 ∨ k = 2 ∨ k = 3 := by omega
  subst ci
  rcases ck with rfl | rfl | rfl | rfl <;> simp [World.cell?, h]
theorem ints8 {v : World} {g : Nat} (h : v.heap[g]? = some (.cells #[.int .i64 0, .int .i64 1, .int .i64 2, .int .i64 3, .int .i64 4, .int .i64 5, .int .i64 6, .int .i64 7] 3 (0, 0))) (V : Nat → Nat) (hV : ∀ i, i < 8 → V i = i) : IntsAt v (some ⟨g, 0, none⟩) 8 (fun i => (V i : Int)) := by
  refine .inr ⟨g, 0, rfl, (Array.getElem?_eq_some_iff.1 h).1, fun i hi => ?_⟩
  show v.cell? ⟨g, 0 + i, none⟩ = some (.int .i64 ((V i : Nat) : Int))
  rw [hV i hi]
  have ci : i = 0 ∨ i = 1 ∨ i = 2 ∨ i = 3 ∨ i = 4 ∨ i = 5 ∨ i = 6 ∨ i = 7 := by omega
  rcases ci with rfl | rfl | rfl | rfl | rfl | rfl | rfl | rfl <;> simp [World.cell?, h]
/-- How many nodes a function has. -/
def sizeF (F : Nat → Bool) : Nat := sizeN (Mdl.empty 8 1) (fun _ => F) 1
theorem sizeF_le (F : Nat → Bool) : sizeF F ≤ 511 := by have := sizeN_le (Mdl.empty 8 1) (fun _ => F) 1; unfold sizeF; omega
theorem sizeF_any (F : Nat → Bool) (u : World) : Calls Tryz.prog 25 #[.slice (some ⟨u.heap.size, 0, none⟩) 1 1, .slice (some ⟨u.heap.size + 1, 0, none⟩) 8 8] ((u.alloc (.cells #[.int .u64 (word F 0 : Int), .int .u64 (word F 1 : Int), .int .u64 (word F 2 : Int), .int .u64 (word F 3 : Int)] 24)).alloc (.cells #[.int .i64 0, .int .i64 1, .int .i64 2, .int .i64 3, .int .i64 4, .int .i64 5, .int .i64 6, .int .i64 7] 3)) fun e w' => e = .returned (.int .i64 (sizeF F : Int)) ∧ Below u.heap.size u w' := by
  have t := tabs_one (F := F) (Go.Deep.blk_alloc_new u (.cells #[.int .u64 (word F 0 : Int), .int .u64 (word F 1 : Int), .int .u64 (word F 2 : Int), .int .u64 (word F 3 : Int)] 24))
  have i8 := ints8 (Go.Deep.blk_alloc_new (u.alloc (.cells #[.int .u64 (word F 0 : Int), .int .u64 (word F 1 : Int), .int .u64 (word F 2 : Int), .int .u64 (word F 3 : Int)] 24)) (.cells #[.int .i64 0, .int .i64 1, .int .i64 2, .int .i64 3, .int .i64 4, .int .i64 5, .int .i64 6, .int .i64 7] 3)) (Od.idn 8) (fun i hi => if_pos hi)
  rw [show (u.alloc (.cells #[.int .u64 (word F 0 : Int), .int .u64 (word F 1 : Int), .int .u64 (word F 2 : Int), .int .u64 (word F 3 : Int)] 24)).heap.size = u.heap.size + 1 by simp] at i8
  have := size_any (some ⟨u.heap.size, 0, none⟩) 1 1 (fun _ => F) (some ⟨u.heap.size + 1, 0, none⟩) 8 8 (fun i => (Od.idn 8 i : Int)) _ (by omega) (by omega) (t.kept (nb _ (.cells #[.int .i64 0, .int .i64 1, .int .i64 2, .int .i64 3, .int .i64 4, .int .i64 5, .int .i64 6, .int .i64 7] 3))) i8
  exact this.mono fun e w' ⟨h1, h2⟩ => ⟨h1, Rf.below_far (Rf.below_far (nb u (.cells #[.int .u64 (word F 0 : Int), .int .u64 (word F 1 : Int), .int .u64 (word F 2 : Int), .int .u64 (word F 3 : Int)] 24)) (nb _ (.cells #[.int .i64 0, .int .i64 1, .int .i64 2, .int .i64 3, .int .i64 4, .int .i64 5, .int .i64 6, .int .i64 7] 3))) h2⟩
/-- A full store. -/
def SxF (W w : World) (S n r : Nat) (l : Kl) (b : Nat) : Prop := ∃ F M, St w S F M ∧ M.n = n ∧ M.room = r ∧ M.hs.length = r ∧ M.up ≤ b ∧ Kn M l ∧ Below W.heap.size W w ∧ ∀ k, F k → W.heap.size ≤ k
section
variable {W w w' : World} {S n r b m a : Nat} {l : Kl} {X F : Nat → Bool}
theorem SxF.sx (h : SxF W w S n r l b) : Sx W w S n r l b := by
  obtain ⟨F, M, s, e1, e2, _, e4, q⟩ := h
  exact ⟨F, M, s, e1, e2, e4, q⟩
theorem SxF.below (h : SxF W w S n r l b) (k : Below w.heap.size w w') : SxF W w' S n r l b := by
  obtain ⟨F, M, s, e1, e2, e3, e4, q, B, f⟩ := h
  exact ⟨F, M, s.below k, e1, e2, e3, e4, q, Rf.below_far B k, f⟩
theorem SxF.len (h : SxF W w S n r l b) : Calls Tryz.prog 26 #[.pointer (some ⟨S, 0, none⟩)] w fun e w' => e = .returned (.int .i64 (r : Int)) ∧ w' = w := by
  obtain ⟨F, M, s, e1, e2, e3, q⟩ := h
  have := s_len s
  rwa [e3] at this
theorem room_x (h : Sx W w S n r l b) : Calls Tryz.prog 27 #[.pointer (some ⟨S, 0, none⟩)] w fun e w' => e = .returned (.int .i64 (r : Int)) ∧ w' = w := by
  obtain ⟨F, M, s, e1, e2, q⟩ := h
  have := s_room s
  rwa [e2] at this
theorem once_x (h : Sx W w S n r l b) :
    Calls Tryz.prog 21 #[.pointer (some ⟨S, 0, none⟩)] w fun e w' => e = .returned (.bool true) ∧ Below w.heap.size w w' := by
  obtain ⟨F, M, s, _⟩ := h
  exact once_any s
theorem up_len (M : Mdl) : M.up ≤ M.hs.length := List.length_filter_le _ _
/-- A function made in a store that has just room for it. -/
theorem make_just {F0 : Nat → Prop} (s : St w S F0 (Mdl.empty 8 r)) (hr : sizeF F ≤ r) (B : Below W.heap.size W w) (f : ∀ k, F0 k → W.heap.size ≤ k) :
    Calls Tryz.prog 13 #[.pointer (some ⟨S, 0, none⟩), tab F] w fun e w' => ∃ a : Nat, e = .returned (.tuple #[.int .u32 (a : Int), .bool true]) ∧ Sx W w' S 8 r [(a, F)] r ∧ Out w w' := by
  have o := s.ok
  have d : Dep (Mdl.empty 8 r) 0 F := Dep.all o rfl F
  have j := just_of (M := Mdl.empty 8 r) (T := fun _ => F) (L := 1) (A := F) o (fun _ _ => d) d (fun X h => ⟨0, by omega, h.elim (fun ⟨x, hx, _⟩ => by cases hx) id⟩) hr 0
  refine (make_any' Rm.just s d j).mono ?_
  rintro e w' ⟨x, M', rfl, ⟨F', s', g⟩, m⟩
  refine ⟨x, rfl, ⟨F', M', s', m.grew.n, m.grew.room, ?_, fun p hp => by rw [List.mem_singleton] at hp; subst hp; exact ⟨m.node, m.tbl⟩, Wf.far B g B.size f, g.after B.size f⟩, Out.of s g⟩
  have := up_len M'
  have := s'.ok.len
  have : M'.room = r := m.grew.room
  omega
/-- What a quantifier leaves there. -/
def Try1 (W : World) (S r a : Nat) (F X : Nat → Bool) (w : World) (e : Ending) (w' : World) : Prop := ∃ (x : Nat) (er : Int), e = .returned (.tuple #[.int .u32 (x : Int), .int .i64 er]) ∧ Out w w' ∧ Below W.heap.size W w' ∧ ((er = 0 ∧ Sx W w' S 8 r [(x, X), (a, F)] r) ∨ (er = 60 ∧ x = 0 ∧ SxF W w' S 8 r [(a, F)] r))
theorem try1 {F0 : Nat → Prop} {M : Mdl} {Y : Nat → Bool} {e : Ending} (s : St w S F0 M) (e1 : M.n = 8) (e2 : M.room = r) (q : Kn M [(a, F)]) (B : Below W.heap.size W w) (f : ∀ k, F0 k → W.heap.size ≤ k) (eX : Eqt Y X) (h : LeftQ S F0 w M 0 a Y e w') : Try1 W S r a F X w e w' := by
  obtain ⟨x, er, M', F', rfl, t, _, s', g⟩ := h
  have B' := Wf.far B g B.size f
  have f' := g.after B.size f
  have u := up_len M'
  have ln := s'.ok.len
  refine ⟨x, er, rfl, Out.of s g, B', ?_⟩
  rcases t with ⟨rfl, t⟩ | ⟨rfl, rfl, t⟩
  · have rm : M'.room = r := t.grew.room.trans e2
    exact .inl ⟨rfl, F', M', s', t.grew.n.trans e1, rm, by omega, (q.grew s.ok t.grew).cons t.node (t.tbl.trans eX), B', f'⟩
  · have rm : M'.room = r := t.grew.room.trans e2
    exact .inr ⟨rfl, rfl, F', M', s', t.grew.n.trans e1, rm, by rw [t.full, rm], by omega, q.grew s.ok t.grew, B', f'⟩
theorem ex_try (h : Sx W w S 8 r [(a, F)] b) (hm : m < 2 ^ 8) :
    Calls Tryz.prog 14 #[.pointer (some ⟨S, 0, none⟩), .int .u32 (a : Int), .int .u8 (m : Int)] w (Try1 W S r a F (exQ m F) w) := by
  obtain ⟨F0, M, s, e1, e2, e3, q, B, f⟩ := h
  obtain ⟨nx, ex⟩ := q _ (.head _)
  exact (exq_op s nx (by rw [e1]; exact hm)).mono fun e w' h => try1 s e1 e2 q B f ((ex_is m).congr _ _ ex) h
theorem all_try (h : Sx W w S 8 r [(a, F)] b) (hm : m < 2 ^ 8) :
    Calls Tryz.prog 15 #[.pointer (some ⟨S, 0, none⟩), .int .u32 (a : Int), .int .u8 (m : Int)] w (Try1 W S r a F (allQ m F) w) := by
  obtain ⟨F0, M, s, e1, e2, e3, q, B, f⟩ := h
  obtain ⟨nx, ex⟩ := q _ (.head _)
  exact (allq_op s nx (by rw [e1]; exact hm)).mono fun e w' h => try1 s e1 e2 q B f ((all_is m).congr _ _ ex) h
end
end Go.Proofs.YtlhanbjjlifjjaaGreat
