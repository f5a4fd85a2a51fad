/-
  The library's reversing of a part of a row, and its choice of a pivot.
-/
import Derived.Test.YteickckgljlacaaGreatRsIns
namespace Go.Proofs.YteickckgljlacaaGreat.Rs
open Go Go.RowKit

abbrev Pm (a b : Nat) (d d' : Array Int) : Prop := Sort.PermIn a b d d'
theorem Pm.refl (a b : Nat) (d : Array Int) : Pm a b d d := Sort.permIn_refl d a b
theorem Pm.trans {a b : Nat} {d d' d'' : Array Int} (h : Pm a b d d') (k : Pm a b d' d'') : Pm a b d d'' := Sort.permIn_trans d d' d'' a b h k
theorem Pm.swp {a b : Nat} {d d' : Array Int} (h : Pm a b d d') {i j : Nat} (h1 : a ≤ i) (h2 : i < b) (h3 : a ≤ j) (h4 : j < b) (h5 : b ≤ d'.size) : Pm a b d (Sort.swp d' i j) := h.trans (Sort.swp_permIn d' a b i j h1 h2 h3 h4 h5)
theorem Pm.size {a b : Nat} {d d' : Array Int} (h : Pm a b d d') : d'.size = d.size := h.1

set_option maxHeartbeats 4000000 in
theorem rev_any {w0 w : World} {blk cap n : Nat} {U : Nat → Value} {d : Array Int} (h : Rw w0 blk cap U d w) (hn : d.size = n) (hsz : n < 4611686018427387904) (a b : Nat) (hab : a < b) (hb : b ≤ n) :
    Calls Tryz.prog 122 #[.slice (some ⟨blk, 0, none⟩) n cap, .int .i64 (a : Int), .int .i64 (b : Int)] w fun e w' => e = .returned (.tuple #[]) ∧ ∃ d', Pm a b d d' ∧ Rw w0 blk cap U d' w' := by
  go_enter Tryz.func122, Tryz.ntmps122
  go_wp2
  go_loopg [6, 7] b (fun g s1 s2 wr => ∃ (i j : Nat) (D : Array Int), s1 = .int .i64 (i : Int) ∧ s2 = .int .i64 (j : Int) ∧ a ≤ i ∧ j < b ∧ j - i ≤ g ∧ Aside (D.size = n) ∧ Aside (Pm a b d D) ∧ Rw w0 blk cap U D wr)
  case atStart => exact ⟨a, b - 1, d, rfl, by go_num, Nat.le_refl _, by omega, by omega, hn, Pm.refl _ _ _, h⟩
  case round =>
    obtain ⟨i, j, D, rfl, rfl, hai, hjb, hg, hs, hP, hR⟩ := hrel
    by_cases hij : i < j
    · have hijz : (i : Int) < (j : Int) := by omega
      have bI : (i : Int) < (n : Int) := by omega
      have bJ : (j : Int) < (n : Int) := by omega
      have cI := hR.cell (i := i) (by have := hs.out; omega)
      have cJ := hR.cell (i := j) (by have := hs.out; omega)
      have fI := hR.free i
      have fJ := hR.free j
      have hRs := (hR.swp i j (by have := hs.out; omega) (by have := hs.out; omega)).drew
      obtain ⟨u, cU⟩ := hR.cell2 i j (by have := hs.out; omega) (by have := hs.out; omega) D[j]!
      generalize D[i]! = x at cI hRs
      generalize D[j]! = y at cJ cU hRs
      go_wp2_with fail
      go_region
      generalize ((wr.setCell ⟨blk, i, none⟩ (.int .u32 y)).setCell ⟨blk, j, none⟩ (.int .u32 x)).drew = wrs at hRs ⊢
      clear cI cJ fI fJ cU hR
      go_wp2
      go_roundg (j - 1 - (i + 1))
      case measure => omega
      case rel => exact ⟨i + 1, j - 1, _, by go_num, by go_num, by omega, by omega, Nat.le_refl _, by rw [size_swp]; exact hs.out, hP.out.swp (by omega) (by omega) (by omega) (by omega) (by have := hs.out; omega), hRs⟩
    · have hijz : ¬ (i : Int) < (j : Int) := by omega
      go_wp2
      go_end0
      exact ⟨rfl, D, hP.out, hR⟩

/-- A row, and a counter of the call's own beside it. -/
structure Ct (w0 : World) (blk cap : Nat) (U : Nat → Value) (d : Array Int) (c : Nat) (w : World) : Prop where
  row : Rw w0 blk cap U d w
  cell : ∃ s : Int, w.cell? ⟨c, 0, none⟩ = some (.int .i64 s)
  free : w.frozen? ⟨c, 0, none⟩ = false
  new : w0.heap.size ≤ c
section
variable {w0 w : World} {blk cap n c : Nat} {U : Nat → Value} {d : Array Int}
theorem Ct.drewN (h : Ct w0 blk cap U d c w) (q : Nat) : Ct w0 blk cap U d c (w.drewN q) := ⟨h.row.drewN q, h.cell, h.free, h.new⟩
theorem Ct.bump (h : Ct w0 blk cap U d c w) (t : Int) : Ct w0 blk cap U d c (w.setCell ⟨c, 0, none⟩ (.int .i64 t)) :=
  ⟨h.row.setNew h.new 0 _, ⟨t, by obtain ⟨s, hs⟩ := h.cell; exact World.cell?_setCell_same' _ _ _ (by rw [hs]; rfl)⟩, by rw [World.frozen?_setCell]; exact h.free, h.new⟩

set_option maxHeartbeats 4000000 in
theorem order2_any (h : Ct w0 blk cap U d c w) (hn : d.size = n) (_hsz : n < 4611686018427387904) (a b : Nat) (ha : a < n) (hb : b < n) :
    Calls Tryz.prog 157 #[.slice (some ⟨blk, 0, none⟩) n cap, .int .i64 (a : Int), .int .i64 (b : Int), .pointer (some ⟨c, 0, none⟩)] w fun e w' => ∃ (x y : Nat), e = .returned (.tuple #[.int .i64 (x : Int), .int .i64 (y : Int)]) ∧ ((x = a ∧ y = b) ∨ (x = b ∧ y = a)) ∧ Ct w0 blk cap U d c w' := by
  have hs : Aside (d.size = n) := hn
  have hR := h.row
  have hA : Aside (Ct w0 blk cap U d c w) := h
  clear h hn
  go_enter Tryz.func157, Tryz.ntmps157
  have bI : (b : Int) < (n : Int) := by omega
  have bJ : (a : Int) < (n : Int) := by omega
  have cI := hR.cell (i := b) (by have := hs.out; omega)
  have cJ := hR.cell (i := a) (by have := hs.out; omega)
  obtain ⟨x, hx⟩ : ∃ x, x = d[b]! := ⟨_, rfl⟩
  obtain ⟨y, hy⟩ : ∃ y, y = d[a]! := ⟨_, rfl⟩
  have hxA : Aside (x = d[b]!) := hx
  have hyA : Aside (y = d[a]!) := hy
  rw [← hx] at cI
  rw [← hy] at cJ
  have K := fun w => less_any x y w
  clear hx hy
  cases hl : lt x y with
  | true =>
    rw [show Sort.ltInt x y = true from hl] at K
    have hlA : Aside (lt d[b]! d[a]! = true) := by rw [← hxA.out, ← hyA.out]; exact hl
    clear hl hxA hyA
    go_wp2_with fail
    go_quiet (first | (go_at_call 124; exact Calls.quiet_of_same (K _)))
    have hC := hA.out.drewN nq
    have hf := hC.free
    obtain ⟨s, hc⟩ := hC.cell
    generalize w.drewN nq = w1 at hC hf hc ⊢
    go_wp2
    go_ret2
    exact ⟨b, a, rfl, .inr ⟨rfl, rfl⟩, hC.bump _⟩
  | false =>
    rw [show Sort.ltInt x y = false from hl] at K
    have hlA : Aside (lt d[b]! d[a]! = false) := by rw [← hxA.out, ← hyA.out]; exact hl
    clear hl hxA hyA
    go_wp2_with fail
    go_quiet (first | (go_at_call 124; exact Calls.quiet_of_same (K _)))
    have hC := hA.out.drewN nq
    generalize w.drewN nq = w1 at hC ⊢
    go_wp2
    go_ret2
    exact ⟨a, b, rfl, .inl ⟨rfl, rfl⟩, hC⟩

set_option maxHeartbeats 4000000 in
theorem median_any (h : Ct w0 blk cap U d c w) (hn : d.size = n) (hsz : n < 4611686018427387904) (i j k : Nat) (hi : i < n) (hj : j < n) (hk : k < n) :
    Calls Tryz.prog 146 #[.slice (some ⟨blk, 0, none⟩) n cap, .int .i64 (i : Int), .int .i64 (j : Int), .int .i64 (k : Int), .pointer (some ⟨c, 0, none⟩)] w fun e w' => ∃ (x : Nat), e = .returned (.int .i64 (x : Int)) ∧ (x = i ∨ x = j ∨ x = k) ∧ Ct w0 blk cap U d c w' := by
  have K1 := order2_any h hn hsz i j hi hj
  go_enter Tryz.func146, Tryz.ntmps146
  go_wp2_with (first
    | (go_at_call 157; refine K1.mono ?_; clear K1; rintro e w1 ⟨i1, j1, rfl, m1, h1⟩; have b1 : j1 < n := (by omega); have b2 : i1 < n := (by omega); have K2 := order2_any h1 hn hsz j1 k b1 hk)
    | (go_at_call 157; refine K2.mono ?_; clear K2; rintro e w2 ⟨j2, k2, rfl, m2, h2⟩; have b3 : j2 < n := (by omega); have K3 := order2_any h2 hn hsz i1 j2 b2 b3)
    | (go_at_call 157; refine K3.mono ?_; clear K3; rintro e w3 ⟨i3, j3, rfl, m3, h3⟩))
  go_ret
  exact ⟨j3, rfl, by omega, h3⟩

set_option maxHeartbeats 4000000 in
theorem medianAdj_any (h : Ct w0 blk cap U d c w) (hn : d.size = n) (hsz : n < 4611686018427387904) (i : Nat) (h0 : 0 < i) (hi : i + 1 < n) :
    Calls Tryz.prog 145 #[.slice (some ⟨blk, 0, none⟩) n cap, .int .i64 (i : Int), .pointer (some ⟨c, 0, none⟩)] w fun e w' => ∃ (x : Nat), e = .returned (.int .i64 (x : Int)) ∧ (x + 1 = i ∨ x = i ∨ x = i + 1) ∧ Ct w0 blk cap U d c w' := by
  obtain ⟨p, hp⟩ : ∃ p : Nat, (i : Int) - 1 = (p : Int) := ⟨i - 1, by omega⟩
  obtain ⟨q, hq⟩ : ∃ q : Nat, (i : Int) + 1 = (q : Int) := ⟨i + 1, by omega⟩
  have hpA : Aside (p + 1 = i) := (by omega : p + 1 = i)
  have hqA : Aside (q = i + 1) := (by omega : q = i + 1)
  have K1 := median_any h hn hsz p i q (by omega) (by omega) (by omega)
  go_enter Tryz.func145, Tryz.ntmps145
  go_wp2_with (go_at_call 146; refine K1.mono ?_; clear K1; rintro e w1 ⟨x, rfl, m1, h1⟩)
  go_ret
  have := hpA.out
  have := hqA.out
  exact ⟨x, rfl, by omega, h1⟩
end

set_option maxHeartbeats 8000000 in
theorem pivot_any {w0 w : World} {blk cap n : Nat} {U : Nat → Value} {d : Array Int} (h : Rw w0 blk cap U d w) (hn : d.size = n) (hsz : n < 4611686018427387904) (a b : Nat) (hab : a + 12 < b) (hb : b ≤ n) :
    Calls Tryz.prog 121 #[.slice (some ⟨blk, 0, none⟩) n cap, .int .i64 (a : Int), .int .i64 (b : Int)] w fun e w' => ∃ (p : Nat) (t : Int), e = .returned (.tuple #[.int .i64 (p : Int), .int .i64 t]) ∧ a ≤ p ∧ p < b ∧ (t = 0 ∨ t = 1 ∨ t = 2) ∧ Rw w0 blk cap U d w' := by
  obtain ⟨l, hl⟩ : ∃ l : Nat, (b : Int) - (a : Int) = (l : Int) := ⟨b - a, by omega⟩
  obtain ⟨q, hq⟩ : ∃ q : Nat, (l : Int) / 4 = (q : Int) := ⟨l / 4, by omega⟩
  have hq' : (l : Int).tdiv 4 = (q : Int) := by rw [Int.tdiv_eq_ediv_of_nonneg (by omega)]; exact hq
  obtain ⟨i, hi⟩ : ∃ i : Nat, (a : Int) + (q : Int) = (i : Int) := ⟨a + q, by omega⟩
  obtain ⟨j, hj⟩ : ∃ j : Nat, (a : Int) + (q : Int) * 2 = (j : Int) := ⟨a + q * 2, by omega⟩
  obtain ⟨k, hk⟩ : ∃ k : Nat, (a : Int) + (q : Int) * 3 = (k : Int) := ⟨a + q * 3, by omega⟩
  have f1 : Aside (0 < i ∧ a < i ∧ i + 1 < j ∧ j + 1 < k ∧ k + 1 < b) := (by omega : 0 < i ∧ a < i ∧ i + 1 < j ∧ j + 1 < k ∧ k + 1 < b)
  have g1 : (8 : Int) ≤ (l : Int) := by omega
  have f2 : Aside (a + l = b) := (by omega : a + l = b)
  have hC : Ct w0 blk cap U d w.heap.size (w.alloc (.cells #[.int .i64 0] 3)) := ⟨h.alloc _, ⟨0, by simp⟩, by simp, h.size_le⟩
  have hw : Aside (w0.heap.size ≤ w.heap.size) := h.size_le
  have tail : Aside (∀ (j' : Nat) (w' : World), a ≤ j' → j' < b → Ct w0 blk cap U d w.heap.size w' → a ≤ j' ∧ j' < b ∧ Rw w0 blk cap U d w') := fun j' w' h1 h2 h3 => ⟨h1, h2, h3.row⟩
  by_cases hc : (50 : Int) ≤ (l : Int)
  · have K1 := medianAdj_any hC hn hsz i f1.out.1 (by have := f1.out; omega)
    go_enter Tryz.func121, Tryz.ntmps121
    go_wp2_with (first
      | (go_at_call 145; refine K1.mono ?_; clear K1; rintro e w1 ⟨x1, rfl, m1, h1⟩; have K2 := medianAdj_any h1 hn hsz j (by have := f1.out; omega) (by have := f1.out; omega))
      | (go_at_call 145; refine K2.mono ?_; clear K2; rintro e w2 ⟨x2, rfl, m2, h2⟩; have K3 := medianAdj_any h2 hn hsz k (by have := f1.out; omega) (by have := f1.out; omega))
      | (go_at_call 145; refine K3.mono ?_; clear K3; rintro e w3 ⟨x3, rfl, m3, h3⟩; have K4 := median_any h3 hn hsz x1 x2 x3 (by have := f1.out; omega) (by have := f1.out; omega) (by have := f1.out; omega))
      | (go_at_call 146; refine K4.mono ?_; clear K4; rintro e w4 ⟨x4, rfl, m4, h4⟩; obtain ⟨s, hs⟩ := h4.cell))
    all_goals go_ret2
    all_goals (refine ⟨x4, _, rfl, ?_, ?_, ?_, h4.row⟩)
    all_goals first
      | (have := f1.out; omega)
      | simp
  · have K4 := median_any hC hn hsz i j k (by have := f1.out; omega) (by have := f1.out; omega) (by have := f1.out; omega)
    go_enter Tryz.func121, Tryz.ntmps121
    go_wp2_with (go_at_call 146; refine K4.mono ?_; clear K4; rintro e w4 ⟨x4, rfl, m4, h4⟩; obtain ⟨s, hs⟩ := h4.cell)
    all_goals go_ret2
    all_goals (refine ⟨x4, _, rfl, ?_, ?_, ?_, h4.row⟩)
    all_goals first
      | (have := f1.out; omega)
      | simp
end Go.Proofs.YteickckgljlacaaGreat.Rs
