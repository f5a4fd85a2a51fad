/-
  The walk of MemSums: for every two rows it tells true, and old memory is as it was.
-/
import Derived.Test.YtkfdmclobodfgaaUse
import Derived.Deep.RegionWith
import Derived.Deep.CutRange
import Derived.BigRegion
namespace Go.Proofs.Ytkfdmclobodfgaa
open Go Go.RowKit

theorem IsMem.drew {w : World} {P R n : Nat} {c : Nat → Int} {ops fails : Int} (h : IsMem w P R n c ops fails) : IsMem w.drew P R n c ops fails := ⟨h.head, h.row.drew, h.ne⟩
theorem Moved.drew {P R : Nat} {a b : World} (h : Moved P R a b) : Moved P R a b.drew := ⟨h.os, h.tape, h.output, h.size, h.block⟩
theorem Moved.undrew {P R : Nat} {a b : World} (h : Moved P R a.drew b) : Moved P R a b := ⟨h.os, h.tape, h.output, h.size, h.block⟩

/-- What is so behind k additions: the row of cells and the law's own array S hold the same four sums. -/
structure Summed (W w : World) (P R S k : Nat) (c : Nat → Int) : Prop where
  mem : IsMem w P R 4 c k 0
  sum : w.rowIs S 38 4 (fun i => .int .u64 (c i))
  old : Below W.heap.size W w
  hP : W.heap.size ≤ P
  hR : W.heap.size ≤ R
  hS : W.heap.size ≤ S
  sp : S ≠ P
  sr : S ≠ R

set_option maxHeartbeats 1600000 in
theorem sums_walk (ad ad2 : Option Addr) (b off len cap : Nat) (Z : Nat → Int) (hZ : ∀ k, k < len → 0 ≤ Z k ∧ Z k ≤ 255) (b2 off2 len2 cap2 : Nat) (V : Nat → Int) (W : World) (hb : 0 < len → b < W.heap.size) (hcell : ∀ k, k < len → W.cell? ⟨b, off + k, none⟩ = some (.int .u8 (Z k)))
    (hb2 : 0 < len → b2 < W.heap.size) (hcell2 : ∀ k, k < len2 → W.cell? ⟨b2, off2 + k, none⟩ = some (.int .u64 (V k))) (hlen : len ≤ 80) (hlen2 : len ≤ len2) (had : Aside (0 < len → ad = some ⟨b, off, none⟩)) (had2 : Aside (0 < len → ad2 = some ⟨b2, off2, none⟩)) :
    Calls Try.prog 7 #[.slice ad len cap, .slice ad2 len2 cap2] W fun e w' => e = .returned (.bool true) ∧ Below W.heap.size W w' := by
  have hd : decide (80 < (len : Int)) = false := by simp; omega
  have hd2 : decide ((len2 : Int) < (len : Int)) = false := by simp; omega
  have hd3 : decide (len2 < len) = false := by simp; omega
  have hh4 : held 4 = 4 := by decide
  go_enter Try.func7, Try.ntmps7
  go_wp2_with (first
    | (go_at_call 8; refine (known_any W).mono ?_; rintro e w1 ⟨rfl, b1⟩)
    | (go_at_call 9; refine (new_any 4 w1).mono ?_; rw [hh4]; rintro e w2 ⟨rfl, m2, n2, s2⟩))
  go_loopg [7] len (fun g si wr => ∃ (k : Nat) (c : Nat → Int), k + g = len ∧ si = .int .i64 (k : Int) ∧ Summed W wr (w1.heap.size + 1) w1.heap.size (w1.heap.size + 2) k c)
  case atStart =>
    refine ⟨0, fun _ => 0, by omega, rfl, ⟨m2.new _, ?_, (below_far b1 n2).alloc (by have := b1.size; omega) _, by have := b1.size; omega, b1.size, by have := b1.size; omega, by omega, by omega⟩⟩
    rw [← s2]
    exact World.rowIs_alloc w2 #[.int .u64 0, .int .u64 0, .int .u64 0, .int .u64 0] 38 (fun _ => .int .u64 0) (fun i hi => by
      have : i = 0 ∨ i = 1 ∨ i = 2 ∨ i = 3 := by simp at hi; omega
      rcases this with rfl | rfl | rfl | rfl <;> rfl)
  case round =>
    obtain ⟨k, c, hk, rfl, L⟩ := hrel
    have hK : Aside (k + gk = len) := hk
    by_cases hkl : k < len
    · have hb := hb (by omega)
      have hb2 := hb2 (by omega)
      obtain rfl := had.out (by omega)
      obtain rfl := had2.out (by omega)
      clear had had2
      have hz := hZ k hkl
      have hc : wr.cell? ⟨b, off + k, none⟩ = some (.int .u8 (Z k)) := by rw [L.old.cell hb]; exact hcell k hkl
      have hv : wr.cell? ⟨b2, off2 + k, none⟩ = some (.int .u64 (V k)) := by rw [L.old.cell hb2]; exact hcell2 k (by omega)
      have hk2 : (k : Int) < (len2 : Int) := by omega
      have hk3 : k < len2 := by omega
      generalize Z k = z at hz hc
      generalize V k = v at hv
      obtain ⟨d, hd4, hdd⟩ : ∃ d : Nat, d < 4 ∧ z % 4 = (d : Int) := ⟨(z % 4).toNat, by omega, by omega⟩
      have hs0 : wr.cell? ⟨w1.heap.size + 2, d, none⟩ = some (.int .u64 (c d)) := L.sum.cell hd4
      have hf0 := L.sum.frozen d
      have hd4' : (d : Int) < 4 := by omega
      clear hk
      go_wp2_with fail
      go_region
      try rw [hdd]
      have hsz := L.mem.ltP
      obtain ⟨s, hs⟩ : ∃ s, IntKind.u64.wrap (c d + v) = s := ⟨_, rfl⟩
      rw [hs]
      have hsA : Aside (IntKind.u64.wrap (c d + v) = s) := hs
      clear hs
      have M5 : IsMem (wr.setCell ⟨w1.heap.size + 2, d, none⟩ (.int .u64 s)).drew (w1.heap.size + 1) w1.heap.size 4 c k 0 :=
        (L.mem.of_blocks (Below.heap_setCell _ _ _ _ L.sp.symm) (Below.heap_setCell _ _ _ _ L.sr.symm)).drew
      have S5 : (wr.setCell ⟨w1.heap.size + 2, d, none⟩ (.int .u64 s)).drew.rowIs (w1.heap.size + 2) 38 4 (fun i => .int .u64 (upd c d s i)) :=
        ((L.sum.set d (.int .u64 s)).congr fun j _ => by by_cases e : j = d <;> simp [upd, e]).drew
      have O5 : Below W.heap.size W (wr.setCell ⟨w1.heap.size + 2, d, none⟩ (.int .u64 s)).drew := (L.old.setCell L.hS _).drew
      generalize (wr.setCell ⟨w1.heap.size + 2, d, none⟩ (.int .u64 s)).drew = w5 at M5 S5 O5 ⊢
      have hv5 : w5.cell? ⟨b2, off2 + k, none⟩ = some (.int .u64 v) := by rw [← hv, O5.cell hb2, L.old.cell hb2]
      have hs5 : w5.cell? ⟨w1.heap.size + 2, d, none⟩ = some (.int .u64 s) := by
        have := S5.cell hd4
        rw [upd_same] at this
        exact this
      have hwd : Aside (IntKind.i64.wrap (d : Int) = (d : Int)) := by simp only [Aside]; rw [IntKind.wrap_i64]; omega
      have hk9 : (0 : Int) ≤ k ∧ (k : Int) ≤ 1000000000 := by omega
      go_wp2_with fail
      go_region_with (first
        | (go_at_call 13; rw [hwd.out]; refine (add_at M5.drew d (c d) v s rfl hsA.out hd4 hk9).mono ?_; rintro e w6 ⟨rfl, m6, b6⟩; have hs6 : w6.cell? ⟨w1.heap.size + 2, d, none⟩ = some (.int .u64 s) := by (have := (S5.of_block (b6.block _ S5.lt L.sp L.sr)).cell hd4; rw [upd_same] at this; exact this)))
      all_goals go_wp2_with fail
      all_goals go_roundg (gk - 1)
      all_goals first
        | (have := hK.out; omega)
        | (have hk := hK.out
           refine ⟨k + 1, upd c d s, by omega, rfl, ⟨m6, S5.of_block (b6.block _ S5.lt L.sp L.sr), O5.trans (b6.undrew.below O5.size L.hP L.hR), L.hP, L.hR, L.hS, L.sp, L.sr⟩⟩)
    · have hkl' : k = len := by have := hK.out; omega
      subst hkl'
      go_wp2_with fail
      go_loopg [9] 4 (fun g si wr => ∃ (j : Nat) (q : Int), j + g = 4 ∧ q = (k : Int) + (j : Int) ∧ si = .int .i64 (j : Int) ∧ IsMem wr (w1.heap.size + 1) w1.heap.size 4 c q 0 ∧ wr.rowIs (w1.heap.size + 2) 38 4 (fun i => .int .u64 (c i)) ∧ Below W.heap.size W wr)
      case atStart => exact ⟨0, k, by omega, by simp, rfl, L.mem, L.sum, L.old⟩
      case round =>
        obtain ⟨j, q, hj, hq, rfl, M, T, O⟩ := hrel
        have hJ : Aside (j + gk = 4) := hj
        have hQ : Aside (q = (k : Int) + (j : Int)) := hq
        have hq9 : 0 ≤ q ∧ q ≤ 1000000000 := by omega
        clear hj hq
        by_cases hj4 : j < 4
        · have hj4' : (j : Int) < 4 := by omega
          have ht : wr.cell? ⟨w1.heap.size + 2, j, none⟩ = some (.int .u64 (c j)) := T.cell hj4
          go_wp2_with fail
          go_region_with (first
            | (go_at_call 10; refine (load_at M.drew j (c j) rfl hj4 hq9).mono ?_; rintro e w6 ⟨rfl, m6, b6⟩; have hs6 : w6.cell? ⟨w1.heap.size + 2, j, none⟩ = some (.int .u64 (c j)) := (T.of_block (b6.block _ T.lt L.sp L.sr)).cell hj4))
          all_goals go_wp2_with fail
          all_goals go_roundg (gk - 1)
          all_goals first
            | (have := hJ.out; omega)
            | (have hj := hJ.out
               have hq := hQ.out
               refine ⟨j + 1, q + 1, by omega, by omega, rfl, m6, T.of_block (b6.block _ T.lt L.sp L.sr), O.trans (b6.undrew.below O.size L.hP L.hR)⟩)
        · obtain rfl : j = 4 := by have := hJ.out; omega
          have hq := hQ.out
          subst hq
          clear hQ
          go_wp2_with (first
            | (go_at_call 15; refine (fails_any _ _ _ _ _ _ _ M).mono ?_; rintro e w6 ⟨rfl, rfl⟩)
            | (go_at_call 14; refine (ops_any _ _ _ _ _ _ _ M).mono ?_; rintro e w6 ⟨rfl, rfl⟩))
          go_ret
          exact ⟨rfl, O⟩

theorem sums_long (ad ad2 : Option Addr) (len cap len2 cap2 : Nat) (W : World) (hlen : 80 < len ∨ len2 < len) :
    Calls Try.prog 7 #[.slice ad len cap, .slice ad2 len2 cap2] W fun e w' => e = .returned (.bool true) ∧ Below W.heap.size W w' := by
  by_cases h : 80 < len
  · have hd : decide (80 < (len : Int)) = true := by simp; omega
    clear hlen
    go_enter Try.func7, Try.ntmps7
    go_wp2_with (first
      | (go_at_call 8; refine (known_any W).mono ?_; rintro e w1 ⟨rfl, b1⟩))
    go_ret
    exact ⟨rfl, b1⟩
  · have hd : decide (80 < (len : Int)) = false := by simp; omega
    have h2 : (len2 : Int) < (len : Int) := by omega
    have h3 : len2 < len := by omega
    clear hlen
    go_enter Try.func7, Try.ntmps7
    go_wp2_with (first
      | (go_at_call 8; refine (known_any W).mono ?_; rintro e w1 ⟨rfl, b1⟩))
    go_ret
    exact ⟨rfl, b1⟩

end Go.Proofs.Ytkfdmclobodfgaa
