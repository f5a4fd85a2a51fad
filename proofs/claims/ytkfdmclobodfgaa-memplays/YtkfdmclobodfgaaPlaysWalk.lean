/-
  The walk of MemPlays: for every number of cells and every row of steps it tells true, and old memory is as it was.
-/
import Derived.Test.YtkfdmclobodfgaaSumsWalk
import Derived.Deep.CutRange
namespace Go.Proofs.Ytkfdmclobodfgaa
open Go Go.RowKit

/-- What is so behind k steps: the row of cells and the law's own slice C hold the same numbers; q accesses, f failed. -/
structure Played (W w : World) (P R C n k : Nat) (q f : Int) (c : Nat → Int) : Prop where
  mem : IsMem w P R n c q f
  own : w.rowIs C 27 n (fun i => .int .u64 (c i))
  ops : 0 ≤ q ∧ q ≤ k
  fails : 0 ≤ f ∧ f ≤ k
  old : Below W.heap.size W w
  hP : W.heap.size ≤ P
  hR : W.heap.size ≤ R
  hC : W.heap.size ≤ C
  cp : C ≠ P
  cr : C ≠ R

/-- The block that holds one step. -/
def IsStep (w : World) (s : Nat) (t a o v : Int) : Prop := w.heap[s]? = some (.cells #[.int .i64 t, .int .i64 a, .int .u64 o, .int .u64 v] 29 (0, 0))

theorem IsStep.cells {w : World} {s : Nat} {t a o v : Int} (h : IsStep w s t a o v) : w.cell? ⟨s, 0, none⟩ = some (.int .i64 t) ∧ w.cell? ⟨s, 1, none⟩ = some (.int .i64 a) ∧ w.cell? ⟨s, 2, none⟩ = some (.int .u64 o) ∧ w.cell? ⟨s, 3, none⟩ = some (.int .u64 v) := by
  unfold IsStep at h
  simp [World.cell?, h]
theorem IsStep.lt {w : World} {s : Nat} {t a o v : Int} (h : IsStep w s t a o v) : s < w.heap.size := (Array.getElem?_eq_some_iff.1 h).1

theorem Played.steps {W w : World} {P R C n k : Nat} {q f : Int} {c : Nat → Int} (L : Played W w P R C n k q f c) (o : Obj) : Played W (w.alloc o) P R C n k q f c :=
  ⟨L.mem.new o, L.own.alloc o, L.ops, L.fails, L.old.alloc L.old.size o, L.hP, L.hR, L.hC, L.cp, L.cr⟩

theorem IsMem.setC {w : World} {P R C n : Nat} {c : Nat → Int} {q f : Int} (h : IsMem w P R n c q f) (hp : C ≠ P) (hr : C ≠ R) (j : Nat) (v : Value) : IsMem (w.setCell ⟨C, j, none⟩ v) P R n c q f :=
  h.of_blocks (Below.heap_setCell _ _ _ _ hp.symm) (Below.heap_setCell _ _ _ _ hr.symm)
theorem own_set {w : World} {C n : Nat} {c : Nat → Int} (h : w.rowIs C 27 n (fun i => .int .u64 (c i))) (j : Nat) (v : Int) : (w.setCell ⟨C, j, none⟩ (.int .u64 v)).rowIs C 27 n (fun i => .int .u64 (upd c j v i)) :=
  (h.set j (.int .u64 v)).congr fun i _ => by by_cases e : i = j <;> simp [upd, e]

theorem info27 : (Try.prog.info? 27).map (fun i => (i.zero, i.size, i.bytes)) = some (some (.int .u64 0), 1, 8) := by kernel_rfl

set_option maxRecDepth 100000 in
set_option maxHeartbeats 3200000 in
theorem plays_walk (ad : Option Addr) (b off len cap n : Nat) (cells : Int) (W : World) (hb : 0 < len → b < W.heap.size)
    (hcell : ∀ i, i < len → ∃ (t a o v : Int), W.cell? ⟨b, off + i * 4, none⟩ = some (.int .i64 t) ∧ W.cell? ⟨b, off + i * 4 + 1, none⟩ = some (.int .i64 a) ∧ W.cell? ⟨b, off + i * 4 + 2, none⟩ = some (.int .u64 o) ∧ W.cell? ⟨b, off + i * 4 + 3, none⟩ = some (.int .u64 v))
    (hlen : len ≤ 100) (hn : n ≤ 200) (hcn : (cells < 0 ∧ n = 0) ∨ cells = (n : Int)) (had : Aside (0 < len → ad = some ⟨b, off, none⟩)) :
    Calls Try.prog 3 #[.int .i64 cells, .slice ad len cap] W fun e w' => e = .returned (.bool true) ∧ Below W.heap.size W w' := by
  have hd : decide (100 < (len : Int)) = false := by simp; omega
  have hd2 : decide (200 < cells) = false := by simp; omega
  have hh : held cells = n := by unfold held; split <;> (try split) <;> omega
  have hmx : (if 0 > cells then 0 else cells) = (n : Int) := by split <;> omega
  have hmk := run_make_row' (P := Try.prog) 26 27 (.int .u64 0) 8 Try.underlying26 info27 rfl .i64 .i64 n (by omega) (by omega)
  have hc9 : Aside ((cells < 0 ∧ n = 0) ∨ cells = (n : Int)) := hcn
  clear hcn
  go_enter Try.func3, Try.ntmps3
  go_wp2_with (first
    | (go_at_call 8; refine (known_any W).mono ?_; rintro e w1 ⟨rfl, b1⟩)
    | (go_at_call 9; refine (new_any cells w1).mono ?_; rw [hh]; rintro e w2 ⟨rfl, m2, n2, s2⟩))
  go_loopg [8, 9, 10] len (fun g sq sf si wr => ∃ (k : Nat) (q f : Int) (c : Nat → Int), k + g = len ∧ sq = .int .i64 q ∧ sf = .int .i64 f ∧ si = .int .i64 (k : Int) ∧ Played W wr (w1.heap.size + 1) w1.heap.size (w1.heap.size + 2) n k q f c)
  case atStart =>
    have hsz := b1.size
    refine ⟨0, 0, 0, fun _ => 0, by omega, rfl, rfl, rfl, ⟨m2.new _, ?_, by decide, by decide, (below_far b1 n2).alloc (by omega) _, by omega, by omega, by omega, by omega, by omega⟩⟩
    rw [← s2]
    exact World.rowIs_made w2 (.int .u64 0) n 27
  case round =>
    obtain ⟨k, q, f, c, hk, rfl, rfl, rfl, L⟩ := hrel
    have hK : Aside (k + gk = len) := hk
    have hL : Aside (len ≤ 100) := hlen
    by_cases hkl : k < len
    · have hb := hb (by omega)
      obtain rfl := had.out (by omega)
      clear had
      obtain ⟨t, a, o, v, c0, c1, c2, c3⟩ := hcell k hkl
      rw [← L.old.cell hb] at c0 c1 c2 c3
      have hq9 : 0 ≤ q ∧ q ≤ 100 := by have := L.ops; omega
      have hf9 : 0 ≤ f ∧ f ≤ 100 := by have := L.fails; omega
      clear hk
      go_upto_region 13 with fail
      have L5 := L.steps (.cells #[.int .i64 t, .int .i64 a, .int .u64 o, .int .u64 v] 29)
      have Z5 : IsStep (wr.alloc (.cells #[.int .i64 t, .int .i64 a, .int .u64 o, .int .u64 v] 29)) wr.heap.size t a o v := Go.Deep.blk_alloc_new _ _
      have hsP : wr.heap.size ≠ w1.heap.size + 1 := Nat.ne_of_gt L.mem.ltP
      have hsR : wr.heap.size ≠ w1.heap.size := Nat.ne_of_gt L.mem.ltR
      have hsC : wr.heap.size ≠ w1.heap.size + 2 := Nat.ne_of_gt L.own.lt
      generalize wr.alloc (.cells #[.int .i64 t, .int .i64 a, .int .u64 o, .int .u64 v] 29) = w5 at L5 Z5 ⊢
      generalize wr.heap.size = s0 at Z5 hsP hsR hsC ⊢
      clear c0 c1 c2 c3 L
      have hx5 := L5.own
      obtain ⟨z0, z1, z2, z3⟩ := Z5.cells
      by_cases hin : 0 ≤ a ∧ a < (n : Int)
      · obtain ⟨j, rfl⟩ : ∃ j : Nat, a = (j : Int) := ⟨a.toNat, by omega⟩
        have hj : j < n := by omega
        have hj' : (j : Int) < (n : Int) := by omega
        have y0 : w5.cell? ⟨w1.heap.size + 2, j, none⟩ = some (.int .u64 (c j)) := L5.own.cell hj
        have yf := L5.own.frozen j
        clear hin hx5
        by_cases ht1 : t ≤ 0
        · clear yf
          have d1 : decide (t ≤ 0) = true := by simp; omega
          go_wp2_with (first
            | (go_at_call 10; refine (load_at L5.mem j (c j) rfl hj (by omega)).mono ?_; rintro e w6 ⟨rfl, m6, b6⟩; have Z6 : IsStep w6 s0 t j o v := (b6.block _ Z5.lt hsP hsR).trans Z5; obtain ⟨e0, e1, e2, e3⟩ := Z6.cells)
            | (go_at_call 14; refine (ops_any _ _ _ _ _ _ _ m6).mono ?_; rintro e w9 ⟨rfl, rfl⟩)
            | (go_at_call 15; refine (fails_any _ _ _ _ _ _ _ m6).mono ?_; rintro e w9 ⟨rfl, rfl⟩)
            | (go_at_call 16; refine (len_any _ _ _ _ _ _ _ m6).mono ?_; rintro e w9 ⟨rfl, rfl⟩))
          go_roundg (gk - 1)
          case measure => have := hK.out; omega
          case rel =>
            have hk := hK.out
            have g1 := L5.ops
            have g2 := L5.fails
            exact ⟨k + 1, q + 1, f, c, by omega, rfl, rfl, rfl, ⟨m6, L5.own.of_block (b6.block _ L5.own.lt L5.cp L5.cr), by omega, by omega, L5.old.trans (b6.below L5.old.size L5.hP L5.hR), L5.hP, L5.hR, L5.hC, L5.cp, L5.cr⟩⟩
        · by_cases ht2 : t = 1
          · subst ht2
            go_wp2_with (first
              | (go_at_call 11; refine (store_in _ _ _ _ _ _ _ j v hj (by omega) L5.mem).mono ?_; rintro e w6 ⟨rfl, m6, b6⟩; have Z6 : IsStep w6 s0 1 j o v := (b6.block _ Z5.lt hsP hsR).trans Z5; obtain ⟨e0, e1, e2, e3⟩ := Z6.cells; have O6 := L5.own.of_block (b6.block _ L5.own.lt L5.cp L5.cr); have x0 := O6.cell hj; have x1 := O6.frozen j; have m7 := m6.setC L5.cp L5.cr j (.int .u64 v))
              | (go_at_call 14; refine (ops_any _ _ _ _ _ _ _ m7).mono ?_; rintro e w9 ⟨rfl, rfl⟩)
              | (go_at_call 15; refine (fails_any _ _ _ _ _ _ _ m7).mono ?_; rintro e w9 ⟨rfl, rfl⟩)
              | (go_at_call 16; refine (len_any _ _ _ _ _ _ _ m7).mono ?_; rintro e w9 ⟨rfl, rfl⟩))
            go_roundg (gk - 1)
            case measure => have := hK.out; omega
            case rel =>
              have hk := hK.out
              have g1 := L5.ops
              have g2 := L5.fails
              exact ⟨k + 1, q + 1, f, upd c j v, by omega, rfl, rfl, rfl, ⟨m7, own_set O6 j v, by omega, by omega, (L5.old.trans (b6.below L5.old.size L5.hP L5.hR)).setCell L5.hC _, L5.hP, L5.hR, L5.hC, L5.cp, L5.cr⟩⟩
          · by_cases ht3 : t ≤ 3
            · by_cases hjo : c j = o
              · rw [hjo] at y0
                have d1 : decide (t ≤ 0) = false := by simp; omega
                have d2 : (t == 1) = false := by simp; omega
                have d3 : decide (t ≤ 3) = true := by simp; omega
                have d4 : (o == o) = true := by simp
                go_wp2_with (first
                  | (go_at_call 12; refine (hit_at L5.mem j o v hjo hj (by omega)).mono ?_; rintro e w6 ⟨rfl, m6, b6⟩; have Z6 : IsStep w6 s0 t j o v := (b6.block _ Z5.lt hsP hsR).trans Z5; obtain ⟨e0, e1, e2, e3⟩ := Z6.cells; have O6 := L5.own.of_block (b6.block _ L5.own.lt L5.cp L5.cr); have x0 := O6.cell hj; have x1 := O6.frozen j; have m7 := m6.setC L5.cp L5.cr j (.int .u64 v))
                  | (go_at_call 14; refine (ops_any _ _ _ _ _ _ _ m7).mono ?_; rintro e w9 ⟨rfl, rfl⟩)
                  | (go_at_call 15; refine (fails_any _ _ _ _ _ _ _ m7).mono ?_; rintro e w9 ⟨rfl, rfl⟩)
                  | (go_at_call 16; refine (len_any _ _ _ _ _ _ _ m7).mono ?_; rintro e w9 ⟨rfl, rfl⟩))
                go_roundg (gk - 1)
                case measure => have := hK.out; omega
                case rel =>
                  have hk := hK.out
                  have g1 := L5.ops
                  have g2 := L5.fails
                  exact ⟨k + 1, q + 1, f, upd c j v, by omega, rfl, rfl, rfl, ⟨m7, own_set O6 j v, by omega, by omega, (L5.old.trans (b6.below L5.old.size L5.hP L5.hR)).setCell L5.hC _, L5.hP, L5.hR, L5.hC, L5.cp, L5.cr⟩⟩
              · have d4 : (c j == o) = false := by simpa using hjo
                have d1 : decide (t ≤ 0) = false := by simp; omega
                have d2 : (t == 1) = false := by simp; omega
                have d3 : decide (t ≤ 3) = true := by simp; omega
                go_wp2_with (first
                  | (go_at_call 12; refine (cas_miss _ _ _ _ _ _ _ j o v hj hjo (by omega) (by omega) L5.mem).mono ?_; rintro e w6 ⟨rfl, m6, b6⟩; have Z6 : IsStep w6 s0 t j o v := (b6.block _ Z5.lt hsP hsR).trans Z5; obtain ⟨e0, e1, e2, e3⟩ := Z6.cells)
                  | (go_at_call 14; refine (ops_any _ _ _ _ _ _ _ m6).mono ?_; rintro e w9 ⟨rfl, rfl⟩)
                  | (go_at_call 15; refine (fails_any _ _ _ _ _ _ _ m6).mono ?_; rintro e w9 ⟨rfl, rfl⟩)
                  | (go_at_call 16; refine (len_any _ _ _ _ _ _ _ m6).mono ?_; rintro e w9 ⟨rfl, rfl⟩))
                go_roundg (gk - 1)
                case measure => have := hK.out; omega
                case rel =>
                  have hk := hK.out
                  have g1 := L5.ops
                  have g2 := L5.fails
                  exact ⟨k + 1, q + 1, f + 1, c, by omega, rfl, rfl, rfl, ⟨m6, L5.own.of_block (b6.block _ L5.own.lt L5.cp L5.cr), by omega, by omega, L5.old.trans (b6.below L5.old.size L5.hP L5.hR), L5.hP, L5.hR, L5.hC, L5.cp, L5.cr⟩⟩
            · obtain ⟨y, hy⟩ : ∃ y, IntKind.u64.wrap (c j + v) = y := ⟨_, rfl⟩
              have M6 := L5.mem.setC L5.cp L5.cr j (.int .u64 y)
              have O6 := own_set L5.own j y
              have Z6 : IsStep (w5.setCell ⟨w1.heap.size + 2, j, none⟩ (.int .u64 y)) s0 t j o v := (Below.heap_setCell _ _ _ _ hsC).trans Z5
              obtain ⟨x0, x1, x2, x3⟩ := Z6.cells
              have B6 := L5.old.setCell L5.hC (p := ⟨w1.heap.size + 2, j, none⟩) (.int .u64 y)
              have d1 : decide (t ≤ 0) = false := by simp; omega
              have d2 : (t == 1) = false := by simp; omega
              have d3 : decide (t ≤ 3) = false := by simp; omega
              go_wp2_with (first
                | (go_at_call 13; refine (add_at M6 j (c j) v y rfl hy hj (by omega)).mono ?_; rintro e w7 ⟨rfl, m7, b7⟩; have Z7 : IsStep w7 s0 t j o v := (b7.block _ Z6.lt hsP hsR).trans Z6; obtain ⟨e0, e1, e2, e3⟩ := Z7.cells)
                | (go_at_call 14; refine (ops_any _ _ _ _ _ _ _ m7).mono ?_; rintro e w9 ⟨rfl, rfl⟩)
                | (go_at_call 15; refine (fails_any _ _ _ _ _ _ _ m7).mono ?_; rintro e w9 ⟨rfl, rfl⟩)
                | (go_at_call 16; refine (len_any _ _ _ _ _ _ _ m7).mono ?_; rintro e w9 ⟨rfl, rfl⟩))
              go_roundg (gk - 1)
              case measure => have := hK.out; omega
              case rel =>
                have hk := hK.out
                have g1 := L5.ops
                have g2 := L5.fails
                exact ⟨k + 1, q + 1, f, upd c j y, by omega, rfl, rfl, rfl, ⟨m7, O6.of_block (b7.block _ O6.lt L5.cp L5.cr), by omega, by omega, B6.trans (b7.below B6.size L5.hP L5.hR), L5.hP, L5.hR, L5.hC, L5.cp, L5.cr⟩⟩
      · have hout : a < 0 ∨ (n : Int) ≤ a := by omega
        clear hx5
        by_cases hneg : a < 0
        · have d8 : decide (0 ≤ a) = false := by simp; omega
          by_cases ht1 : t ≤ 0
          · have d1 : decide (t ≤ 0) = true := by simp; omega
            go_wp2_with (first
              | (go_at_call 10; refine (load_out _ _ _ _ _ _ _ a hout L5.mem).mono ?_; rintro e w9 ⟨rfl, rfl⟩)
              | (go_at_call 14; refine (ops_any _ _ _ _ _ _ _ L5.mem).mono ?_; rintro e w9 ⟨rfl, rfl⟩)
              | (go_at_call 15; refine (fails_any _ _ _ _ _ _ _ L5.mem).mono ?_; rintro e w9 ⟨rfl, rfl⟩)
              | (go_at_call 16; refine (len_any _ _ _ _ _ _ _ L5.mem).mono ?_; rintro e w9 ⟨rfl, rfl⟩))
            go_roundg (gk - 1)
            case measure => have := hK.out; omega
            case rel =>
              have hk := hK.out
              have g1 := L5.ops
              have g2 := L5.fails
              exact ⟨k + 1, q, f, c, by omega, rfl, rfl, rfl, ⟨L5.mem, L5.own, by omega, by omega, L5.old, L5.hP, L5.hR, L5.hC, L5.cp, L5.cr⟩⟩
          · by_cases ht2 : t = 1
            · subst ht2
              go_wp2_with (first
                | (go_at_call 11; refine (store_out _ _ _ _ _ _ _ a v hout L5.mem).mono ?_; rintro e w9 ⟨rfl, rfl⟩)
                | (go_at_call 14; refine (ops_any _ _ _ _ _ _ _ L5.mem).mono ?_; rintro e w9 ⟨rfl, rfl⟩)
                | (go_at_call 15; refine (fails_any _ _ _ _ _ _ _ L5.mem).mono ?_; rintro e w9 ⟨rfl, rfl⟩)
                | (go_at_call 16; refine (len_any _ _ _ _ _ _ _ L5.mem).mono ?_; rintro e w9 ⟨rfl, rfl⟩))
              go_roundg (gk - 1)
              case measure => have := hK.out; omega
              case rel =>
                have hk := hK.out
                have g1 := L5.ops
                have g2 := L5.fails
                exact ⟨k + 1, q, f, c, by omega, rfl, rfl, rfl, ⟨L5.mem, L5.own, by omega, by omega, L5.old, L5.hP, L5.hR, L5.hC, L5.cp, L5.cr⟩⟩
            · by_cases ht3 : t ≤ 3
              · have d1 : decide (t ≤ 0) = false := by simp; omega
                have d2 : (t == 1) = false := by simp; omega
                have d3 : decide (t ≤ 3) = true := by simp; omega
                go_wp2_with (first
                  | (go_at_call 12; refine (cas_out _ _ _ _ _ _ _ a o v hout L5.mem).mono ?_; rintro e w9 ⟨rfl, rfl⟩)
                  | (go_at_call 14; refine (ops_any _ _ _ _ _ _ _ L5.mem).mono ?_; rintro e w9 ⟨rfl, rfl⟩)
                  | (go_at_call 15; refine (fails_any _ _ _ _ _ _ _ L5.mem).mono ?_; rintro e w9 ⟨rfl, rfl⟩)
                  | (go_at_call 16; refine (len_any _ _ _ _ _ _ _ L5.mem).mono ?_; rintro e w9 ⟨rfl, rfl⟩))
                go_roundg (gk - 1)
                case measure => have := hK.out; omega
                case rel =>
                  have hk := hK.out
                  have g1 := L5.ops
                  have g2 := L5.fails
                  exact ⟨k + 1, q, f, c, by omega, rfl, rfl, rfl, ⟨L5.mem, L5.own, by omega, by omega, L5.old, L5.hP, L5.hR, L5.hC, L5.cp, L5.cr⟩⟩
              · have d1 : decide (t ≤ 0) = false := by simp; omega
                have d2 : (t == 1) = false := by simp; omega
                have d3 : decide (t ≤ 3) = false := by simp; omega
                go_wp2_with (first
                  | (go_at_call 13; refine (add_out _ _ _ _ _ _ _ a v hout L5.mem).mono ?_; rintro e w9 ⟨rfl, rfl⟩)
                  | (go_at_call 14; refine (ops_any _ _ _ _ _ _ _ L5.mem).mono ?_; rintro e w9 ⟨rfl, rfl⟩)
                  | (go_at_call 15; refine (fails_any _ _ _ _ _ _ _ L5.mem).mono ?_; rintro e w9 ⟨rfl, rfl⟩)
                  | (go_at_call 16; refine (len_any _ _ _ _ _ _ _ L5.mem).mono ?_; rintro e w9 ⟨rfl, rfl⟩))
                go_roundg (gk - 1)
                case measure => have := hK.out; omega
                case rel =>
                  have hk := hK.out
                  have g1 := L5.ops
                  have g2 := L5.fails
                  exact ⟨k + 1, q, f, c, by omega, rfl, rfl, rfl, ⟨L5.mem, L5.own, by omega, by omega, L5.old, L5.hP, L5.hR, L5.hC, L5.cp, L5.cr⟩⟩
        · have d8 : decide (0 ≤ a) = true := by simp; omega
          have d9 : decide (a < (n : Int)) = false := by simp; omega
          by_cases ht1 : t ≤ 0
          · have d1 : decide (t ≤ 0) = true := by simp; omega
            go_wp2_with (first
              | (go_at_call 10; refine (load_out _ _ _ _ _ _ _ a hout L5.mem).mono ?_; rintro e w9 ⟨rfl, rfl⟩)
              | (go_at_call 14; refine (ops_any _ _ _ _ _ _ _ L5.mem).mono ?_; rintro e w9 ⟨rfl, rfl⟩)
              | (go_at_call 15; refine (fails_any _ _ _ _ _ _ _ L5.mem).mono ?_; rintro e w9 ⟨rfl, rfl⟩)
              | (go_at_call 16; refine (len_any _ _ _ _ _ _ _ L5.mem).mono ?_; rintro e w9 ⟨rfl, rfl⟩))
            go_roundg (gk - 1)
            case measure => have := hK.out; omega
            case rel =>
              have hk := hK.out
              have g1 := L5.ops
              have g2 := L5.fails
              exact ⟨k + 1, q, f, c, by omega, rfl, rfl, rfl, ⟨L5.mem, L5.own, by omega, by omega, L5.old, L5.hP, L5.hR, L5.hC, L5.cp, L5.cr⟩⟩
          · by_cases ht2 : t = 1
            · subst ht2
              go_wp2_with (first
                | (go_at_call 11; refine (store_out _ _ _ _ _ _ _ a v hout L5.mem).mono ?_; rintro e w9 ⟨rfl, rfl⟩)
                | (go_at_call 14; refine (ops_any _ _ _ _ _ _ _ L5.mem).mono ?_; rintro e w9 ⟨rfl, rfl⟩)
                | (go_at_call 15; refine (fails_any _ _ _ _ _ _ _ L5.mem).mono ?_; rintro e w9 ⟨rfl, rfl⟩)
                | (go_at_call 16; refine (len_any _ _ _ _ _ _ _ L5.mem).mono ?_; rintro e w9 ⟨rfl, rfl⟩))
              go_roundg (gk - 1)
              case measure => have := hK.out; omega
              case rel =>
                have hk := hK.out
                have g1 := L5.ops
                have g2 := L5.fails
                exact ⟨k + 1, q, f, c, by omega, rfl, rfl, rfl, ⟨L5.mem, L5.own, by omega, by omega, L5.old, L5.hP, L5.hR, L5.hC, L5.cp, L5.cr⟩⟩
            · by_cases ht3 : t ≤ 3
              · have d1 : decide (t ≤ 0) = false := by simp; omega
                have d2 : (t == 1) = false := by simp; omega
                have d3 : decide (t ≤ 3) = true := by simp; omega
                go_wp2_with (first
                  | (go_at_call 12; refine (cas_out _ _ _ _ _ _ _ a o v hout L5.mem).mono ?_; rintro e w9 ⟨rfl, rfl⟩)
                  | (go_at_call 14; refine (ops_any _ _ _ _ _ _ _ L5.mem).mono ?_; rintro e w9 ⟨rfl, rfl⟩)
                  | (go_at_call 15; refine (fails_any _ _ _ _ _ _ _ L5.mem).mono ?_; rintro e w9 ⟨rfl, rfl⟩)
                  | (go_at_call 16; refine (len_any _ _ _ _ _ _ _ L5.mem).mono ?_; rintro e w9 ⟨rfl, rfl⟩))
                go_roundg (gk - 1)
                case measure => have := hK.out; omega
                case rel =>
                  have hk := hK.out
                  have g1 := L5.ops
                  have g2 := L5.fails
                  exact ⟨k + 1, q, f, c, by omega, rfl, rfl, rfl, ⟨L5.mem, L5.own, by omega, by omega, L5.old, L5.hP, L5.hR, L5.hC, L5.cp, L5.cr⟩⟩
              · have d1 : decide (t ≤ 0) = false := by simp; omega
                have d2 : (t == 1) = false := by simp; omega
                have d3 : decide (t ≤ 3) = false := by simp; omega
                go_wp2_with (first
                  | (go_at_call 13; refine (add_out _ _ _ _ _ _ _ a v hout L5.mem).mono ?_; rintro e w9 ⟨rfl, rfl⟩)
                  | (go_at_call 14; refine (ops_any _ _ _ _ _ _ _ L5.mem).mono ?_; rintro e w9 ⟨rfl, rfl⟩)
                  | (go_at_call 15; refine (fails_any _ _ _ _ _ _ _ L5.mem).mono ?_; rintro e w9 ⟨rfl, rfl⟩)
                  | (go_at_call 16; refine (len_any _ _ _ _ _ _ _ L5.mem).mono ?_; rintro e w9 ⟨rfl, rfl⟩))
                go_roundg (gk - 1)
                case measure => have := hK.out; omega
                case rel =>
                  have hk := hK.out
                  have g1 := L5.ops
                  have g2 := L5.fails
                  exact ⟨k + 1, q, f, c, by omega, rfl, rfl, rfl, ⟨L5.mem, L5.own, by omega, by omega, L5.old, L5.hP, L5.hR, L5.hC, L5.cp, L5.cr⟩⟩
    · have hkl' : k = len := by have := hK.out; omega
      subst hkl'
      have hq9 : 0 ≤ q ∧ q ≤ 100 := by have := L.ops; omega
      go_wp2_with fail
      go_loopg [16] n (fun g si wr => ∃ (j : Nat) (q' : Int), j + g = n ∧ q' = q + (j : Int) ∧ si = .int .i64 (j : Int) ∧ IsMem wr (w1.heap.size + 1) w1.heap.size n c q' f ∧ wr.rowIs (w1.heap.size + 2) 27 n (fun i => .int .u64 (c i)) ∧ Below W.heap.size W wr)
      case atStart => exact ⟨0, q, by omega, by simp, rfl, L.mem, L.own, L.old⟩
      case round =>
        obtain ⟨j, q', hj, hq, rfl, M, T, O⟩ := hrel
        have hJ : Aside (j + gk = n) := hj
        have hQ : Aside (q' = q + (j : Int)) := hq
        have hq9' : 0 ≤ q' ∧ q' ≤ 1000000000 := by omega
        clear hj hq
        by_cases hj4 : j < n
        · have hj4' : (j : Int) < (n : Int) := by omega
          have ht : wr.cell? ⟨w1.heap.size + 2, j, none⟩ = some (.int .u64 (c j)) := T.cell hj4
          go_wp2_with fail
          go_region_with (first
            | (go_at_call 10; refine (load_at M.drew j (c j) rfl hj4 hq9').mono ?_; rintro e w6 ⟨rfl, m6, b6⟩; have hs6 : w6.cell? ⟨w1.heap.size + 2, j, none⟩ = some (.int .u64 (c j)) := (T.of_block (b6.block _ T.lt L.cp L.cr)).cell hj4))
          all_goals go_wp2_with fail
          all_goals go_roundg (gk - 1)
          all_goals first
            | (have := hJ.out; omega)
            | (have hj := hJ.out
               have hq := hQ.out
               refine ⟨j + 1, q' + 1, by omega, by omega, rfl, m6, T.of_block (b6.block _ T.lt L.cp L.cr), O.trans (b6.undrew.below O.size L.hP L.hR)⟩)
        · obtain rfl : j = n := by have := hJ.out; omega
          go_wp2_with fail
          go_ret
          exact ⟨rfl, O⟩

end Go.Proofs.Ytkfdmclobodfgaa
