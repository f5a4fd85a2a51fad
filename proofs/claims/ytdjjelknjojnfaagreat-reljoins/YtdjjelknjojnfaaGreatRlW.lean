/-
  The statements' own store with two sets of states and two relations (world).
-/
import Derived.Test.YtdjjelknjojnfaaGreatRlK
namespace Go.Proofs.YtdjjelknjojnfaaGreat
open Go Go.RowKit
open Rf (fixAt fixF tab word IsTab)

/-- The first so many handles, and the constants. -/
def lk (H : Nat → Nat) (G : Nat → Nat → Bool) (j : Nat) : Kl := ((List.range j).reverse.map fun i => (H i, G i)) ++ [(0, c0), (1, c1)]
theorem lk_succ (H : Nat → Nat) (G : Nat → Nat → Bool) (j : Nat) : lk H G (j + 1) = (H j, G j) :: lk H G j := by
  unfold lk
  rw [List.range_succ, List.reverse_append]
  rfl
theorem lk_congr {H H' : Nat → Nat} {G : Nat → Nat → Bool} {j : Nat} (h : ∀ i, i < j → H i = H' i) : lk H G j = lk H' G j := by
  unfold lk
  congr 1
  refine List.map_congr_left fun i hi => ?_
  rw [h i (List.mem_range.1 (List.mem_reverse.1 hi))]
theorem index4 : ∀ (a0 a1 a2 a3 b0 b1 b2 b3 c0 c1 c2 c3 d0 d1 d2 d3 : Int) (w : World), (Instr.index 118 (.agg #[.int .u64 a0, .int .u64 a1, .int .u64 a2, .int .u64 a3, .int .u64 b0, .int .u64 b1, .int .u64 b2, .int .u64 b3, .int .u64 c0, .int .u64 c1, .int .u64 c2, .int .u64 c3, .int .u64 d0, .int .u64 d1, .int .u64 d2, .int .u64 d3]) (.int .i64 0)).run Tryz.prog w = .ok (.agg #[.int .u64 a0, .int .u64 a1, .int .u64 a2, .int .u64 a3]) w ∧ (Instr.index 118 (.agg #[.int .u64 a0, .int .u64 a1, .int .u64 a2, .int .u64 a3, .int .u64 b0, .int .u64 b1, .int .u64 b2, .int .u64 b3, .int .u64 c0, .int .u64 c1, .int .u64 c2, .int .u64 c3, .int .u64 d0, .int .u64 d1, .int .u64 d2, .int .u64 d3]) (.int .i64 1)).run Tryz.prog w = .ok (.agg #[.int .u64 b0, .int .u64 b1, .int .u64 b2, .int .u64 b3]) w ∧ (Instr.index 118 (.agg #[.int .u64 a0, .int .u64 a1, .int .u64 a2, .int .u64 a3, .int .u64 b0, .int .u64 b1, .int .u64 b2, .int .u64 b3, .int .u64 c0, .int .u64 c1, .int .u64 c2, .int .u64 c3, .int .u64 d0, .int .u64 d1, .int .u64 d2, .int .u64 d3]) (.int .i64 2)).run Tryz.prog w = .ok (.agg #[.int .u64 c0, .int .u64 c1, .int .u64 c2, .int .u64 c3]) w ∧ (Instr.index 118 (.agg #[.int .u64 a0, .int .u64 a1, .int .u64 a2, .int .u64 a3, .int .u64 b0, .int .u64 b1, .int .u64 b2, .int .u64 b3, .int .u64 c0, .int .u64 c1, .int .u64 c2, .int .u64 c3, .int .u64 d0, .int .u64 d1, .int .u64 d2, .int .u64 d3]) (.int .i64 3)).run Tryz.prog w = .ok (.agg #[.int .u64 d0, .int .u64 d1, .int .u64 d2, .int .u64 d3]) w := fun _ _ _ _ _ _ _ _ _ _ _ _ _ _ _ _ _ => ⟨by kernel_rfl, by kernel_rfl, by kernel_rfl, by kernel_rfl⟩
theorem boxes4 (w : World) (P Q R T : Nat → Bool) : IsTab ((((w.alloc (.cells #[.int .u64 (word P 0 : Int), .int .u64 (word P 1 : Int), .int .u64 (word P 2 : Int), .int .u64 (word P 3 : Int)] 42)).alloc (.cells #[.int .u64 (word Q 0 : Int), .int .u64 (word Q 1 : Int), .int .u64 (word Q 2 : Int), .int .u64 (word Q 3 : Int)] 42)).alloc (.cells #[.int .u64 (word R 0 : Int), .int .u64 (word R 1 : Int), .int .u64 (word R 2 : Int), .int .u64 (word R 3 : Int)] 42)).alloc (.cells #[.int .u64 (word T 0 : Int), .int .u64 (word T 1 : Int), .int .u64 (word T 2 : Int), .int .u64 (word T 3 : Int)] 42)) w.heap.size P ∧ IsTab ((((w.alloc (.cells #[.int .u64 (word P 0 : Int), .int .u64 (word P 1 : Int), .int .u64 (word P 2 : Int), .int .u64 (word P 3 : Int)] 42)).alloc (.cells #[.int .u64 (word Q 0 : Int), .int .u64 (word Q 1 : Int), .int .u64 (word Q 2 : Int), .int .u64 (word Q 3 : Int)] 42)).alloc (.cells #[.int .u64 (word R 0 : Int), .int .u64 (word R 1 : Int), .int .u64 (word R 2 : Int), .int .u64 (word R 3 : Int)] 42)).alloc (.cells #[.int .u64 (word T 0 : Int), .int .u64 (word T 1 : Int), .int .u64 (word T 2 : Int), .int .u64 (word T 3 : Int)] 42)) (w.heap.size + 1) Q ∧ IsTab ((((w.alloc (.cells #[.int .u64 (word P 0 : Int), .int .u64 (word P 1 : Int), .int .u64 (word P 2 : Int), .int .u64 (word P 3 : Int)] 42)).alloc (.cells #[.int .u64 (word Q 0 : Int), .int .u64 (word Q 1 : Int), .int .u64 (word Q 2 : Int), .int .u64 (word Q 3 : Int)] 42)).alloc (.cells #[.int .u64 (word R 0 : Int), .int .u64 (word R 1 : Int), .int .u64 (word R 2 : Int), .int .u64 (word R 3 : Int)] 42)).alloc (.cells #[.int .u64 (word T 0 : Int), .int .u64 (word T 1 : Int), .int .u64 (word T 2 : Int), .int .u64 (word T 3 : Int)] 42)) (w.heap.size + 1 + 1) R ∧ IsTab ((((w.alloc (.cells #[.int .u64 (word P 0 : Int), .int .u64 (word P 1 : Int), .int .u64 (word P 2 : Int), .int .u64 (word P 3 : Int)] 42)).alloc (.cells #[.int .u64 (word Q 0 : Int), .int .u64 (word Q 1 : Int), .int .u64 (word Q 2 : Int), .int .u64 (word Q 3 : Int)] 42)).alloc (.cells #[.int .u64 (word R 0 : Int), .int .u64 (word R 1 : Int), .int .u64 (word R 2 : Int), .int .u64 (word R 3 : Int)] 42)).alloc (.cells #[.int .u64 (word T 0 : Int), .int .u64 (word T 1 : Int), .int .u64 (word T 2 : Int), .int .u64 (word T 3 : Int)] 42)) (w.heap.size + 1 + 1 + 1) T ∧ Below w.heap.size w ((((w.alloc (.cells #[.int .u64 (word P 0 : Int), .int .u64 (word P 1 : Int), .int .u64 (word P 2 : Int), .int .u64 (word P 3 : Int)] 42)).alloc (.cells #[.int .u64 (word Q 0 : Int), .int .u64 (word Q 1 : Int), .int .u64 (word Q 2 : Int), .int .u64 (word Q 3 : Int)] 42)).alloc (.cells #[.int .u64 (word R 0 : Int), .int .u64 (word R 1 : Int), .int .u64 (word R 2 : Int), .int .u64 (word R 3 : Int)] 42)).alloc (.cells #[.int .u64 (word T 0 : Int), .int .u64 (word T 1 : Int), .int .u64 (word T 2 : Int), .int .u64 (word T 3 : Int)] 42)) :=
  ⟨(((IsTab.new w P).alloc _).alloc _).alloc _, ((IsTab.newAt (by simp) Q).alloc _).alloc _, (IsTab.newAt (by simp) R).alloc _, IsTab.newAt (by simp) T, ((((Below.refl _ w).alloc (Nat.le_refl _) _).alloc (by simp) _).alloc (by simp; omega) _).alloc (by simp; omega) _⟩
def Q4 (w : World) (q0 q1 q2 q3 : Nat) (P Q R T : Nat → Bool) : Prop := IsTab w q0 P ∧ IsTab w q1 Q ∧ IsTab w q2 R ∧ IsTab w q3 T
theorem Q4.kept {w w' : World} {q0 q1 q2 q3 : Nat} {P Q R T : Nat → Bool} (h : Q4 w q0 q1 q2 q3 P Q R T) (k : Below w.heap.size w w') : Q4 w' q0 q1 q2 q3 P Q R T := ⟨Rf.IsTab.kept h.1 k, Rf.IsTab.kept h.2.1 k, Rf.IsTab.kept h.2.2.1 k, Rf.IsTab.kept h.2.2.2 k⟩
theorem Q4.cells {u : World} {q0 q1 q2 q3 : Nat} {P Q R T : Nat → Bool} (h : Q4 u q0 q1 q2 q3 P Q R T) : u.cell? ⟨q0, 0, none⟩ = some (.int .u64 (word P 0 : Int)) ∧ u.cell? ⟨q0, 1, none⟩ = some (.int .u64 (word P 1 : Int)) ∧ u.cell? ⟨q0, 2, none⟩ = some (.int .u64 (word P 2 : Int)) ∧ u.cell? ⟨q0, 3, none⟩ = some (.int .u64 (word P 3 : Int)) ∧ u.cell? ⟨q1, 0, none⟩ = some (.int .u64 (word Q 0 : Int)) ∧ u.cell? ⟨q1, 1, none⟩ = some (.int .u64 (word Q 1 : Int)) ∧ u.cell? ⟨q1, 2, none⟩ = some (.int .u64 (word Q 2 : Int)) ∧ u.cell? ⟨q1, 3, none⟩ = some (.int .u64 (word Q 3 : Int)) ∧ u.cell? ⟨q2, 0, none⟩ = some (.int .u64 (word R 0 : Int)) ∧ u.cell? ⟨q2, 1, none⟩ = some (.int .u64 (word R 1 : Int)) ∧ u.cell? ⟨q2, 2, none⟩ = some (.int .u64 (word R 2 : Int)) ∧ u.cell? ⟨q2, 3, none⟩ = some (.int .u64 (word R 3 : Int)) ∧ u.cell? ⟨q3, 0, none⟩ = some (.int .u64 (word T 0 : Int)) ∧ u.cell? ⟨q3, 1, none⟩ = some (.int .u64 (word T 1 : Int)) ∧ u.cell? ⟨q3, 2, none⟩ = some (.int .u64 (word T 2 : Int)) ∧ u.cell? ⟨q3, 3, none⟩ = some (.int .u64 (word T 3 : Int)) := by
  obtain ⟨a0, a1, a2, a3⟩ := h.1.copy
  obtain ⟨b0, b1, b2, b3⟩ := h.2.1.copy
  obtain ⟨d0, d1, d2, d3⟩ := h.2.2.1.copy
  obtain ⟨e0, e1, e2, e3⟩ := h.2.2.2.copy
  exact ⟨a0, a1, a2, a3, b0, b1, b2, b3, d0, d1, d2, d3, e0, e1, e2, e3⟩
def pick4 {α : Type} (a b c d : α) (j : Nat) : α := if j = 0 then a else if j = 1 then b else if j = 2 then c else d
theorem index4t (A B C D F : Nat → Bool) (j : Nat) (hj : j < 4) (hF : pick4 A B C D j = F) (w : World) : (Instr.index 118 (.agg #[.int .u64 (word A 0 : Int), .int .u64 (word A 1 : Int), .int .u64 (word A 2 : Int), .int .u64 (word A 3 : Int), .int .u64 (word B 0 : Int), .int .u64 (word B 1 : Int), .int .u64 (word B 2 : Int), .int .u64 (word B 3 : Int), .int .u64 (word C 0 : Int), .int .u64 (word C 1 : Int), .int .u64 (word C 2 : Int), .int .u64 (word C 3 : Int), .int .u64 (word D 0 : Int), .int .u64 (word D 1 : Int), .int .u64 (word D 2 : Int), .int .u64 (word D 3 : Int)]) (.int .i64 (j : Int))).run Tryz.prog w = .ok (.agg #[.int .u64 (word F 0 : Int), .int .u64 (word F 1 : Int), .int .u64 (word F 2 : Int), .int .u64 (word F 3 : Int)]) w := by
  obtain ⟨h0, h1, h2, h3⟩ := index4 (word A 0) (word A 1) (word A 2) (word A 3) (word B 0) (word B 1) (word B 2) (word B 3) (word C 0) (word C 1) (word C 2) (word C 3) (word D 0) (word D 1) (word D 2) (word D 3) w
  have : j = 0 ∨ j = 1 ∨ j = 2 ∨ j = 3 := by omega
  subst hF
  rcases this with rfl | rfl | rfl | rfl
  · exact h0
  · exact h1
  · exact h2
  · exact h3
/-- The four sets and relations, over six variables. -/
def tg (A B C D : Nat → Bool) (j : Nat) : Nat → Bool := trimF (pick4 A B C D j) 6 2
theorem results_tct {fn : Func} {t p x : Tmp} (h : fn.results = #[.tmp t, .cell p 59, .tmp x]) {tmps : Array Value} {w : World} {g a b c d : Nat} {u v : Value} (ht : tmps.getD t undef = u) (hp : tmps.getD p undef = .pointer (some ⟨g, 0, none⟩)) (hx : tmps.getD x undef = v)
    (c0 : w.cell? ⟨g, 0, none⟩ = some (.int .u32 (a : Int))) (c1 : w.cell? ⟨g, 1, none⟩ = some (.int .u32 (b : Int))) (c2 : w.cell? ⟨g, 2, none⟩ = some (.int .u32 (c : Int))) (c3 : w.cell? ⟨g, 3, none⟩ = some (.int .u32 (d : Int))) :
    (results fn tmps).run Tryz.prog w = .ok (.tuple #[u, .agg #[.int .u32 (a : Int), .int .u32 (b : Int), .int .u32 (c : Int), .int .u32 (d : Int)], v]) w := by
  have ht' : tmps[t]?.getD undef = u := by rw [← ht]; simp
  have hp' : tmps[p]?.getD undef = .pointer (some ⟨g, 0, none⟩) := by rw [← hp]; simp
  have hx' : tmps[x]?.getD undef = v := by rw [← hx]; simp
  simp only [results, h]
  go_simp
def IsH4 (w : World) (g a b c d : Nat) : Prop := w.heap[g]? = some (.cells #[.int .u32 (a : Int), .int .u32 (b : Int), .int .u32 (c : Int), .int .u32 (d : Int)] 59 (0, 0))
theorem IsH4.cells {w : World} {g a b c d : Nat} (h : IsH4 w g a b c d) : w.cell? ⟨g, 0, none⟩ = some (.int .u32 (a : Int)) ∧ w.cell? ⟨g, 1, none⟩ = some (.int .u32 (b : Int)) ∧ w.cell? ⟨g, 2, none⟩ = some (.int .u32 (c : Int)) ∧ w.cell? ⟨g, 3, none⟩ = some (.int .u32 (d : Int)) := by
  unfold IsH4 at h
  rw [cell_of_row _ _ _ _ _ _ h, cell_of_row _ _ _ _ _ _ h, cell_of_row _ _ _ _ _ _ h, cell_of_row _ _ _ _ _ _ h]
  exact ⟨rfl, rfl, rfl, rfl⟩
theorem IsH4.out {w w' : World} {g a b c d : Nat} (h : IsH4 w g a b c d) (o : Out w w') : IsH4 w' g a b c d := o _ _ _ _ h (by decide)
/-- Four handles laid into a block. -/
def laid4 (w : World) (g a b c d : Nat) : World := (((w.setCell ⟨g, 0, none⟩ (.int .u32 (a : Int))).setCell ⟨g, 1, none⟩ (.int .u32 (b : Int))).setCell ⟨g, 2, none⟩ (.int .u32 (c : Int))).setCell ⟨g, 3, none⟩ (.int .u32 (d : Int))
theorem laid4_cells {w : World} {g a' b' c' d' : Nat} (h : IsH4 w g a' b' c' d') (a b c d : Nat) : IsH4 (laid4 w g a b c d) g a b c d := by
  unfold laid4 IsH4 at *
  simp [World.setCell, Array.getElem?_modify, h]
theorem Sx.laid4 {W w : World} {S n r m : Nat} {l : Kl} (h : Sx W w S n r l m) {g a' b' c' d' : Nat} (k : IsH4 w g a' b' c' d') (hW : W.heap.size ≤ g) (a b c d : Nat) : Sx W (laid4 w g a b c d) S n r l m := by
  obtain ⟨F, M, s, e1, e2, e3, q, B, f⟩ := h
  have nk := s.row k (by decide)
  refine ⟨F, M, s.kept fun x hx => ?_, e1, e2, e3, q, (((B.setCell hW _).setCell hW _).setCell hW _).setCell hW _, f⟩
  have ne : x ≠ g := fun e => nk (e ▸ hx)
  unfold Go.Proofs.YtdjjelknjojnfaaGreat.laid4
  rw [Below.heap_setCell _ _ _ _ ne, Below.heap_setCell _ _ _ _ ne, Below.heap_setCell _ _ _ _ ne, Below.heap_setCell _ _ _ _ ne]
/-- A store with four functions of six variables, the first two of them sets of states. -/
def Wd (W w : World) (S a b c d : Nat) : Prop := ∃ P Q R T, Cur P ∧ Cur Q ∧ Sx W w S 6 16000 [(d, T), (c, R), (b, Q), (a, P), (0, c0), (1, c1)] 60
set_option maxRecDepth 100000 in
set_option maxHeartbeats 4000000 in
theorem world_any (P Q R T : Nat → Bool) (w : World) :
    Calls Tryz.prog 32 #[tab P, tab Q, tab R, tab T] w fun e w' => ∃ S a b c d : Nat, e = .returned (.tuple #[.pointer (some ⟨S, 0, none⟩), .agg #[.int .u32 (a : Int), .int .u32 (b : Int), .int .u32 (c : Int), .int .u32 (d : Int)], .bool true]) ∧ Wd w w' S a b c d ∧ Below w.heap.size w w' := by
  conv in #[tab P, tab Q, tab R, tab T] => unfold tab
  go_enter Tryz.func32, Tryz.ntmps32
  go_upto_region 1 with fail
  obtain ⟨T0, T1, T2, T3, B4⟩ := boxes4 w P Q R T
  have hz : ((((w.alloc (.cells #[.int .u64 (word P 0 : Int), .int .u64 (word P 1 : Int), .int .u64 (word P 2 : Int), .int .u64 (word P 3 : Int)] 42)).alloc (.cells #[.int .u64 (word Q 0 : Int), .int .u64 (word Q 1 : Int), .int .u64 (word Q 2 : Int), .int .u64 (word Q 3 : Int)] 42)).alloc (.cells #[.int .u64 (word R 0 : Int), .int .u64 (word R 1 : Int), .int .u64 (word R 2 : Int), .int .u64 (word R 3 : Int)] 42)).alloc (.cells #[.int .u64 (word T 0 : Int), .int .u64 (word T 1 : Int), .int .u64 (word T 2 : Int), .int .u64 (word T 3 : Int)] 42)).heap.size = w.heap.size + 1 + 1 + 1 + 1 := by simp
  have H5 : IsH4 (((((w.alloc (.cells #[.int .u64 (word P 0 : Int), .int .u64 (word P 1 : Int), .int .u64 (word P 2 : Int), .int .u64 (word P 3 : Int)] 42)).alloc (.cells #[.int .u64 (word Q 0 : Int), .int .u64 (word Q 1 : Int), .int .u64 (word Q 2 : Int), .int .u64 (word Q 3 : Int)] 42)).alloc (.cells #[.int .u64 (word R 0 : Int), .int .u64 (word R 1 : Int), .int .u64 (word R 2 : Int), .int .u64 (word R 3 : Int)] 42)).alloc (.cells #[.int .u64 (word T 0 : Int), .int .u64 (word T 1 : Int), .int .u64 (word T 2 : Int), .int .u64 (word T 3 : Int)] 42)).alloc (.cells #[.int .u32 0, .int .u32 0, .int .u32 0, .int .u32 0] 59)) (w.heap.size + 1 + 1 + 1 + 1) 0 0 0 0 := by rw [← hz]; exact Go.Deep.blk_alloc_new _ _
  have B5 : Below w.heap.size w (((((w.alloc (.cells #[.int .u64 (word P 0 : Int), .int .u64 (word P 1 : Int), .int .u64 (word P 2 : Int), .int .u64 (word P 3 : Int)] 42)).alloc (.cells #[.int .u64 (word Q 0 : Int), .int .u64 (word Q 1 : Int), .int .u64 (word Q 2 : Int), .int .u64 (word Q 3 : Int)] 42)).alloc (.cells #[.int .u64 (word R 0 : Int), .int .u64 (word R 1 : Int), .int .u64 (word R 2 : Int), .int .u64 (word R 3 : Int)] 42)).alloc (.cells #[.int .u64 (word T 0 : Int), .int .u64 (word T 1 : Int), .int .u64 (word T 2 : Int), .int .u64 (word T 3 : Int)] 42)).alloc (.cells #[.int .u32 0, .int .u32 0, .int .u32 0, .int .u32 0] 59)) := B4.alloc B4.size _
  have q5 : Q4 (((((w.alloc (.cells #[.int .u64 (word P 0 : Int), .int .u64 (word P 1 : Int), .int .u64 (word P 2 : Int), .int .u64 (word P 3 : Int)] 42)).alloc (.cells #[.int .u64 (word Q 0 : Int), .int .u64 (word Q 1 : Int), .int .u64 (word Q 2 : Int), .int .u64 (word Q 3 : Int)] 42)).alloc (.cells #[.int .u64 (word R 0 : Int), .int .u64 (word R 1 : Int), .int .u64 (word R 2 : Int), .int .u64 (word R 3 : Int)] 42)).alloc (.cells #[.int .u64 (word T 0 : Int), .int .u64 (word T 1 : Int), .int .u64 (word T 2 : Int), .int .u64 (word T 3 : Int)] 42)).alloc (.cells #[.int .u32 0, .int .u32 0, .int .u32 0, .int .u32 0] 59)) w.heap.size (w.heap.size + 1) (w.heap.size + 1 + 1) (w.heap.size + 1 + 1 + 1) P Q R T := ⟨T0.alloc _, T1.alloc _, T2.alloc _, T3.alloc _⟩
  have l5 : Aside (w.heap.size ≤ w.heap.size + 1 + 1 + 1 + 1) := by show w.heap.size ≤ w.heap.size + 1 + 1 + 1 + 1; omega
  clear T0 T1 T2 T3 B4 hz
  generalize ((((w.alloc (.cells #[.int .u64 (word P 0 : Int), .int .u64 (word P 1 : Int), .int .u64 (word P 2 : Int), .int .u64 (word P 3 : Int)] 42)).alloc (.cells #[.int .u64 (word Q 0 : Int), .int .u64 (word Q 1 : Int), .int .u64 (word Q 2 : Int), .int .u64 (word Q 3 : Int)] 42)).alloc (.cells #[.int .u64 (word R 0 : Int), .int .u64 (word R 1 : Int), .int .u64 (word R 2 : Int), .int .u64 (word R 3 : Int)] 42)).alloc (.cells #[.int .u64 (word T 0 : Int), .int .u64 (word T 1 : Int), .int .u64 (word T 2 : Int), .int .u64 (word T 3 : Int)] 42)).alloc (.cells #[.int .u32 0, .int .u32 0, .int .u32 0, .int .u32 0] 59) = w5 at H5 B5 q5 ⊢
  generalize w.heap.size + 1 + 1 + 1 + 1 = br at H5 l5 ⊢
  generalize w.heap.size + 1 + 1 + 1 = q3 at q5 ⊢
  generalize w.heap.size + 1 + 1 = q2 at q5 ⊢
  generalize w.heap.size + 1 = q1 at q5 ⊢
  obtain ⟨q0, hq0⟩ : ∃ q, w.heap.size = q := ⟨_, rfl⟩
  rw [hq0] at q5
  conv in (occs := *) (Value.pointer (some ⟨w.heap.size, 0, none⟩)) => all_goals rw [hq0]
  clear hq0
  have Kn : Calls Tryz.prog 10 #[.int .i64 6, .int .i64 16000] w5 _ := new_x w w5 6 16000 (by omega) (by omega) (by omega) (by omega) B5
  have q5A : Aside (Q4 w5 q0 q1 q2 q3 P Q R T) := q5
  have H5A : Aside (IsH4 w5 br 0 0 0 0) := H5
  clear B5 q5 H5
  go_upto_region 5 with (first
    | (go_at_call 10; refine Kn.mono ?_; clear Kn; rintro e w6 ⟨S, rfl, f6, x6, b6⟩))
  have B7 := nb w6 (.cells #[.int .u32 0, .int .u32 0, .int .u32 0, .int .u32 0] 59)
  have x7 : Aside (Sx w (w6.alloc (.cells #[.int .u32 0, .int .u32 0, .int .u32 0, .int .u32 0] 59)) S 6 16000 [(0, c0), (1, c1)] 0) := x6.below B7
  have q6 : Q4 (w6.alloc (.cells #[.int .u32 0, .int .u32 0, .int .u32 0, .int .u32 0] 59)) q0 q1 q2 q3 P Q R T := (q5A.out.kept b6).kept B7
  have q7 : Q4 (w6.alloc (.cells #[.int .u32 0, .int .u32 0, .int .u32 0, .int .u32 0] 59)).drew q0 q1 q2 q3 P Q R T := q6
  have H7 : Aside (IsH4 (w6.alloc (.cells #[.int .u32 0, .int .u32 0, .int .u32 0, .int .u32 0] 59)) br 0 0 0 0) := (H5A.out.out (Out.below b6)).out (Out.below B7)
  have r7 : Aside ((w6.alloc (.cells #[.int .u32 0, .int .u32 0, .int .u32 0, .int .u32 0] 59)).rowIs w6.heap.size 59 4 (fun i => .int .u32 (((fun _ => 0) i : Nat) : Int))) := World.rowIs_alloc w6 _ _ _ fun i hi => by
    have : i = 0 ∨ i = 1 ∨ i = 2 ∨ i = 3 := by simp at hi; omega
    rcases this with rfl | rfl | rfl | rfl <;> rfl
  have l7 : Aside (w.heap.size ≤ w6.heap.size) := x6.base.size
  have n7 : Aside (br ≠ w6.heap.size) := by
    have := (Array.getElem?_eq_some_iff.1 (H5A.out.out (Out.below b6))).1
    show br ≠ w6.heap.size
    omega
  clear B7 x6 b6 f6 q5A H5A q6
  generalize w6.alloc (.cells #[.int .u32 0, .int .u32 0, .int .u32 0, .int .u32 0] 59) = w7 at x7 q7 H7 r7 ⊢
  generalize w6.heap.size = hb at r7 l7 n7 ⊢
  obtain ⟨P2, hP2⟩ : ∃ X, Rf.resUpto P 170 0 8 = X := ⟨_, rfl⟩
  obtain ⟨Q2, hQ2⟩ : ∃ X, Rf.resUpto Q 170 0 8 = X := ⟨_, rfl⟩
  have cP : Aside (Cur P2) := by rw [← hP2]; exact Cur.congr (res_cur P) (resUpto_res P 170 0 (by omega) (by omega)).symm
  have cQ : Aside (Cur Q2) := by rw [← hQ2]; exact Cur.congr (res_cur Q) (resUpto_res Q 170 0 (by omega) (by omega)).symm
  have KP : ∀ u, Calls Tryz.prog 19 #[tab P, .int .u8 170, .int .u8 0] u fun e w' => e = .returned (tab P2) ∧ Below u.heap.size u w' := fun u => by rw [← hP2]; exact Rf.restrict_any P 170 0 (by omega) (by omega) u
  have KQ : ∀ u, Calls Tryz.prog 19 #[tab Q, .int .u8 170, .int .u8 0] u fun e w' => e = .returned (tab Q2) ∧ Below u.heap.size u w' := fun u => by rw [← hQ2]; exact Rf.restrict_any Q 170 0 (by omega) (by omega) u
  unfold tab at KP KQ
  clear hP2 hQ2
  have C7 := q7.cells
  have e7 : Aside (Below w7.heap.size w7 w7.drew) := (Below.refl _ w7).drew
  go_region_held3 (fun u => u.cell? ⟨q0, 0, none⟩ = some (.int .u64 (word P 0 : Int)) ∧ u.cell? ⟨q0, 1, none⟩ = some (.int .u64 (word P 1 : Int)) ∧ u.cell? ⟨q0, 2, none⟩ = some (.int .u64 (word P 2 : Int)) ∧ u.cell? ⟨q0, 3, none⟩ = some (.int .u64 (word P 3 : Int)) ∧ u.cell? ⟨q1, 0, none⟩ = some (.int .u64 (word Q 0 : Int)) ∧ u.cell? ⟨q1, 1, none⟩ = some (.int .u64 (word Q 1 : Int)) ∧ u.cell? ⟨q1, 2, none⟩ = some (.int .u64 (word Q 2 : Int)) ∧ u.cell? ⟨q1, 3, none⟩ = some (.int .u64 (word Q 3 : Int)) ∧ u.cell? ⟨q2, 0, none⟩ = some (.int .u64 (word R 0 : Int)) ∧ u.cell? ⟨q2, 1, none⟩ = some (.int .u64 (word R 1 : Int)) ∧ u.cell? ⟨q2, 2, none⟩ = some (.int .u64 (word R 2 : Int)) ∧ u.cell? ⟨q2, 3, none⟩ = some (.int .u64 (word R 3 : Int)) ∧ u.cell? ⟨q3, 0, none⟩ = some (.int .u64 (word T 0 : Int)) ∧ u.cell? ⟨q3, 1, none⟩ = some (.int .u64 (word T 1 : Int)) ∧ u.cell? ⟨q3, 2, none⟩ = some (.int .u64 (word T 2 : Int)) ∧ u.cell? ⟨q3, 3, none⟩ = some (.int .u64 (word T 3 : Int))) (first | assumption) (first
    | (go_at_call_of 19 (word P 0); refine (KP _).mono ?_; clear KP; rintro e w8 ⟨rfl, b8⟩; have q8 := q7.kept b8; have C8 := q8.cells; clear C7)
    | (go_at_call 19; refine (KQ _).mono ?_; clear KQ; rintro e w9 ⟨rfl, b9⟩; have q9 := q8.kept b9; have C9 := q9.cells; clear C8))
  go_upto_region 6 with fail
  have b79 : Below w7.heap.size w7 w9 := Rf.below_far (Rf.below_far e7.out b8) b9
  have x9 : Aside (Sx w w9 S 6 16000 (lk (fun _ => 0) (tg P2 Q2 R T) 0) (15 * 0)) := x7.out.below b79
  have H9 : Aside (IsH4 w9 br 0 0 0 0) := H7.out.out (Out.below b79)
  have r9 : Aside (w9.rowIs hb 59 4 (fun i => .int .u32 (((fun _ => 0) i : Nat) : Int))) := r7.out.of_block (b79.block _ r7.out.lt)
  have KT : Aside (∀ (u : World) (j : Nat) (F : Nat → Bool), pick4 P2 Q2 R T j = F → Calls Tryz.prog 18 #[tab F, .int .i64 6] u fun e w' => e = .returned (tab (tg P2 Q2 R T j)) ∧ Below u.heap.size u w') := fun u j F hF => by
    subst hF
    exact trim_any (pick4 P2 Q2 R T j) 6 (by omega) u
  have KM : Aside (∀ (u : World) (j : Nat) (H : Nat → Nat), j < 4 → Sx w u S 6 16000 (lk H (tg P2 Q2 R T) j) (15 * j) → Calls Tryz.prog 20 #[.pointer (some ⟨S, 0, none⟩), tab (tg P2 Q2 R T j)] u fun e w' => ∃ z : Nat, e = .returned (.tuple #[.int .u32 (z : Int), .bool true]) ∧ Sx w w' S 6 16000 ((z, tg P2 Q2 R T j) :: lk H (tg P2 Q2 R T) j) (15 * j + 15) ∧ Out u w') := fun u j H hj su => make_t su _ (trim_low _ (by omega)) 15 (by decide) (by omega)
  have hix : Aside (∀ (j : Nat) (F : Nat → Bool), j < 4 → pick4 P2 Q2 R T j = F → ∀ u : World, (Instr.index 118 (.agg #[.int .u64 (word P2 0 : Int), .int .u64 (word P2 1 : Int), .int .u64 (word P2 2 : Int), .int .u64 (word P2 3 : Int), .int .u64 (word Q2 0 : Int), .int .u64 (word Q2 1 : Int), .int .u64 (word Q2 2 : Int), .int .u64 (word Q2 3 : Int), .int .u64 (word R 0 : Int), .int .u64 (word R 1 : Int), .int .u64 (word R 2 : Int), .int .u64 (word R 3 : Int), .int .u64 (word T 0 : Int), .int .u64 (word T 1 : Int), .int .u64 (word T 2 : Int), .int .u64 (word T 3 : Int)]) (.int .i64 (j : Int))).run Tryz.prog u = .ok (.agg #[.int .u64 (word F 0 : Int), .int .u64 (word F 1 : Int), .int .u64 (word F 2 : Int), .int .u64 (word F 3 : Int)]) u) := fun j F hj hF u => index4t P2 Q2 R T F j hj hF u
  clear C9 q8 q9 q7 x7 H7 r7 b8 b9 b79 e7
  go_loopg [32, 14, 15, 16, 17] 4 (fun gg s32 _ _ _ _ wr => ∃ (j : Nat) (H : Nat → Nat), j + gg = 4 ∧ s32 = .int .i64 (j : Int) ∧ Aside (Sx w wr S 6 16000 (lk H (tg P2 Q2 R T) j) (15 * j)) ∧ Aside (IsH4 wr br 0 0 0 0) ∧ Aside (wr.rowIs hb 59 4 (fun i => .int .u32 (H i : Int))))
  case atStart => exact ⟨0, fun _ => 0, rfl, rfl, x9, H9, r9⟩
  case round =>
    clear x9 H9 r9
    obtain ⟨j, H, hj, rfl, hX, hH, hR⟩ := hrel
    have hJ : Aside (j + gk = 4) := hj
    by_cases hlt : j < 4
    · have hlt' : (j : Int) < 4 := by omega
      have hltA : Aside (j < 4) := hlt
      obtain ⟨F, hF⟩ : ∃ F, pick4 P2 Q2 R T j = F := ⟨_, rfl⟩
      have ix := hix.out j F hlt hF
      have K1 := KT.out
      have hFA : Aside (pick4 P2 Q2 R T j = F) := hF
      clear hj hlt hix hF K1
      go_upto_region 8 with fail
      have B1 := nb wr (.cells #[.int .u64 (word F 0 : Int), .int .u64 (word F 1 : Int), .int .u64 (word F 2 : Int), .int .u64 (word F 3 : Int)] 42)
      have TF := IsTab.new wr F
      have X1 : Aside (Sx w (wr.alloc (.cells #[.int .u64 (word F 0 : Int), .int .u64 (word F 1 : Int), .int .u64 (word F 2 : Int), .int .u64 (word F 3 : Int)] 42)) S 6 16000 (lk H (tg P2 Q2 R T) j) (15 * j)) := hX.out.below B1
      have H1 : Aside (IsH4 (wr.alloc (.cells #[.int .u64 (word F 0 : Int), .int .u64 (word F 1 : Int), .int .u64 (word F 2 : Int), .int .u64 (word F 3 : Int)] 42)) br 0 0 0 0) := hH.out.out (Out.below B1)
      have R1 : Aside ((wr.alloc (.cells #[.int .u64 (word F 0 : Int), .int .u64 (word F 1 : Int), .int .u64 (word F 2 : Int), .int .u64 (word F 3 : Int)] 42)).rowIs hb 59 4 (fun i => .int .u32 (H i : Int))) := hR.out.of_block (B1.block _ hR.out.lt)
      clear B1 hX hH hR ix
      generalize wr.alloc (.cells #[.int .u64 (word F 0 : Int), .int .u64 (word F 1 : Int), .int .u64 (word F 2 : Int), .int .u64 (word F 3 : Int)] 42) = v1 at TF X1 H1 R1 ⊢
      have K1 := KT.out v1 j F hFA.out
      obtain ⟨y0, y1, y2, y3⟩ := TF.copy
      obtain ⟨GT, hGT⟩ : ∃ G, tg P2 Q2 R T j = G := ⟨_, rfl⟩
      have gA : Aside (tg P2 Q2 R T j = GT) := hGT
      rw [hGT] at K1
      have K2 : Aside (∀ u, Below v1.heap.size v1 u → Calls Tryz.prog 20 #[.pointer (some ⟨S, 0, none⟩), tab GT] u fun e w' => ∃ z : Nat, e = .returned (.tuple #[.int .u32 (z : Int), .bool true]) ∧ Sx w w' S 6 16000 ((z, tg P2 Q2 R T j) :: lk H (tg P2 Q2 R T) j) (15 * j + 15) ∧ Out u w') := fun u k => by
        rw [← hGT]
        exact KM.out u j H hltA.out (X1.out.below k)
      unfold tab at K1 K2
      clear KT KM hGT TF
      go_upto_region 11 with (first
        | (go_at_call 18; refine K1.mono ?_; clear K1; rintro e v2 ⟨rfl, k2⟩; have K3 := K2.out v2 k2)
        | (go_at_call 20; refine K3.mono ?_; clear K3; rintro e v3 ⟨z, rfl, x3, u3⟩))
      have o13 : Out v1 v3 := (Out.below k2).trans u3
      have R3 : v3.rowIs hb 59 4 (fun i => .int .u32 (H i : Int)) := by
        obtain ⟨cs, hc, hs, hg⟩ := R1.out
        exact ⟨cs, o13 hb cs _ _ hc (by decide), hs, hg⟩
      have H3 : Aside (IsH4 v3 br 0 0 0 0) := H1.out.out o13
      have c3 := R3.cell hltA.out
      have f3 := R3.frozen j
      have x3A : Aside (Sx w v3 S 6 16000 ((z, tg P2 Q2 R T j) :: lk H (tg P2 Q2 R T) j) (15 * j + 15)) := x3
      have R3A : Aside (v3.rowIs hb 59 4 (fun i => .int .u32 (H i : Int))) := R3
      clear X1 H1 R1 K2 k2 x3 u3 o13 R3 y0 y1 y2 y3 gA hFA
      go_wp2_with fail
      go_roundg (gk - 1)
      case measure => have := hJ.out; have := hltA.out; omega
      case rel =>
        have h1 := hJ.out
        have h2 := hltA.out
        obtain ⟨cs, hcs, _⟩ := id R3A.out
        refine ⟨j + 1, fun i => if i = j then z else H i, by omega, by go_num, ?_, ?_, (R3A.out.set j (.int .u32 (z : Int))).congr fun i _ => ?_⟩
        · show Sx _ _ _ _ _ _ _
          rw [lk_succ, lk_congr (H := fun i => if i = j then z else H i) (H' := H) fun i hi => if_neg (by omega)]
          have : (if j = j then z else H j) = z := if_pos rfl
          rw [this]
          exact x3A.out.set hcs (by decide) l7.out j _
        · show _ = _
          rw [Below.heap_setCell _ _ _ _ n7.out]
          exact H3.out
        · show (if i = j then Value.int IntKind.u32 (z : Int) else Value.int IntKind.u32 (H i : Int)) = Value.int IntKind.u32 ((if i = j then z else H i : Nat) : Int)
          by_cases e : i = j
          · rw [if_pos e, if_pos e]
          · rw [if_neg e, if_neg e]
    · obtain rfl : j = 4 := by have := hJ.out; omega
      have d0 : wr.cell? ⟨hb, 0, none⟩ = some (.int .u32 (H 0 : Int)) := hR.out.cell (i := 0) (by omega)
      have d1 : wr.cell? ⟨hb, 1, none⟩ = some (.int .u32 (H 1 : Int)) := hR.out.cell (i := 1) (by omega)
      have d2 : wr.cell? ⟨hb, 2, none⟩ = some (.int .u32 (H 2 : Int)) := hR.out.cell (i := 2) (by omega)
      have d3 : wr.cell? ⟨hb, 3, none⟩ = some (.int .u32 (H 3 : Int)) := hR.out.cell (i := 3) (by omega)
      have hXA : Aside (Sx w wr S 6 16000 [(H 3, tg P2 Q2 R T 3), (H 2, tg P2 Q2 R T 2), (H 1, tg P2 Q2 R T 1), (H 0, tg P2 Q2 R T 0), (0, c0), (1, c1)] 60) := hX.out
      have hH2 : IsH4 wr br 0 0 0 0 := hH.out
      have y := hH2.cells
      have fz : ∀ k, wr.frozen? ⟨br, k, none⟩ = false := fun k => by
        have h := hH2
        unfold IsH4 at h
        simp [World.frozen?, h]
      obtain ⟨y0, y1, y2, y3⟩ := y
      have z0 := fz 0
      have z1 := fz 1
      have z2 := fz 2
      have z3 := fz 3
      have cTP : Aside (Cur (tg P2 Q2 R T 0)) := trim_cur cP.out 6 2 (by omega)
      have cTQ : Aside (Cur (tg P2 Q2 R T 1)) := trim_cur cQ.out 6 2 (by omega)
      have hHA : Aside (IsH4 wr br 0 0 0 0) := hH
      generalize H 0 = g0 at d0 hXA
      generalize H 1 = g1 at d1 hXA
      generalize H 2 = g2 at d2 hXA
      generalize H 3 = g3 at d3 hXA
      clear hX hH hH2 hR hix KT KM cP cQ fz hj hlt
      have ne1 : br ≠ hb := n7.out
      have ne2 : hb ≠ br := fun e => ne1 e.symm
      go_upto_region 13 with fail
      go_region
      have x5 : Aside (Sx w (laid4 wr br g0 g1 g2 g3).drew S 6 16000 [(g3, tg P2 Q2 R T 3), (g2, tg P2 Q2 R T 2), (g1, tg P2 Q2 R T 1), (g0, tg P2 Q2 R T 0), (0, c0), (1, c1)] 60) := (hXA.out.laid4 hHA.out l5.out g0 g1 g2 g3).below ((Below.refl _ _).drew)
      have h5 : IsH4 (laid4 wr br g0 g1 g2 g3).drew br g0 g1 g2 g3 := laid4_cells hHA.out g0 g1 g2 g3
      obtain ⟨k0, k1, k2, k3⟩ := h5.cells
      unfold laid4 at x5 k0 k1 k2 k3
      clear h5 hXA hHA y0 y1 y2 y3 z0 z1 z2 z3 d0 d1 d2 d3
      go_wp2_with fail
      exact bodyPost_ret (results_tct rfl rfl rfl rfl k0 k1 k2 k3) rfl ⟨S, g0, g1, g2, g3, rfl, ⟨_, _, _, _, cTP.out, cTQ.out, x5.out⟩, x5.out.base⟩
end Go.Proofs.YtdjjelknjojnfaaGreat
