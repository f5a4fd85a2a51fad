/-
  The library's breaking of patterns in a part of a row: some exchanges within it.
-/
import Derived.Test.YteickckgljlacaaGreatRsRev
import Derived.Test.YteickckgljlacaaGreatRsLen
import Derived.Laws.Bits64b
import Derived.Deep.CutRange
namespace Go.Proofs.YteickckgljlacaaGreat.Rs
open Go Go.RowKit

set_option maxHeartbeats 4000000 in
theorem pow2_any (x : Nat) (hx : x < 65536) (w : World) :
    Calls Tryz.prog 143 #[.int .i64 (x : Int)] w fun e w' => e = .returned (.int .u64 ((2 ^ Lib.bitLen x : Nat) : Int)) ∧ w' = w := by
  have K := len_any x hx w
  have hb := Lib.bitLen_le x 16 (by omega) (by omega)
  have hp : (2 : Nat) ^ Lib.bitLen x ≤ 2 ^ 16 := Nat.pow_le_pow_right (by decide) hb
  have hw : IntKind.u64.wrap ((2 : Int) ^ Lib.bitLen x) = ((2 ^ Lib.bitLen x : Nat) : Int) := by
    rw [IntKind.wrap_u64, show ((2 : Int) ^ Lib.bitLen x) = ((2 ^ Lib.bitLen x : Nat) : Int) by push_cast; rfl]
    generalize (2 : Nat) ^ Lib.bitLen x = p at hp
    omega
  generalize Lib.bitLen x = k at K hb hp hw
  go_enter Tryz.func143, Tryz.ntmps143
  go_wp2_with (go_at_call 103; refine K.mono ?_; clear K; rintro e w' ⟨rfl, rfl⟩)
  go_ret
  exact ⟨rfl, rfl⟩

/-- The row, and a number of the call's own beside it. -/
structure Rn (w0 : World) (blk cap : Nat) (U : Nat → Value) (d : Array Int) (c : Nat) (w : World) : Prop where
  row : Rw w0 blk cap U d w
  num : ∃ s : Nat, s < 18446744073709551616 ∧ w.cell? ⟨c, 0, none⟩ = some (.int .u64 (s : Int))
  nfree : w.frozen? ⟨c, 0, none⟩ = false
  new : w0.heap.size ≤ c
section
variable {w0 w : World} {blk cap n c : Nat} {U : Nat → Value} {d : Array Int}
theorem Rn.bump (h : Rn w0 blk cap U d c w) (t : Nat) (ht : t < 18446744073709551616) : Rn w0 blk cap U d c (w.setCell ⟨c, 0, none⟩ (.int .u64 (t : Int))) :=
  ⟨h.row.setNew h.new 0 _, ⟨t, ht, by obtain ⟨s, _, hs⟩ := h.num; exact World.cell?_setCell_same' _ _ _ (by rw [hs]; rfl)⟩, by rw [World.frozen?_setCell]; exact h.nfree, h.new⟩
theorem Rn.drew (h : Rn w0 blk cap U d c w) : Rn w0 blk cap U d c w.drew := ⟨h.row.drew, h.num, h.nfree, h.new⟩
theorem Rn.cellOf (h : Rn w0 blk cap U d c w) (t : Nat) : (w.setCell ⟨c, 0, none⟩ (.int .u64 (t : Int))).drew.cell? ⟨c, 0, none⟩ = some (.int .u64 (t : Int)) := by
  obtain ⟨s, _, hs⟩ := h.num
  exact World.cell?_setCell_same' _ _ _ (by rw [hs]; rfl)
theorem Rn.cell (h : Rn w0 blk cap U d c w) {i : Nat} (hi : i < d.size) : w.cell? ⟨blk, i, none⟩ = some (.int .u32 d[i]!) := h.row.cell hi
theorem Rn.free (h : Rn w0 blk cap U d c w) (i : Nat) : w.frozen? ⟨blk, i, none⟩ = false := h.row.free i
theorem Rn.cell2 (h : Rn w0 blk cap U d c w) (i j : Nat) (hi : i < d.size) (hj : j < d.size) (v : Int) : ∃ u, (w.setCell ⟨blk, i, none⟩ (.int .u32 v)).cell? ⟨blk, j, none⟩ = some u := h.row.cell2 i j hi hj v
theorem Rn.swp (h : Rn w0 blk cap U d c w) (i j : Nat) (hi : i < d.size) (hj : j < d.size) :
    Rn w0 blk cap U (Sort.swp d i j) c ((w.setCell ⟨blk, i, none⟩ (.int .u32 d[j]!)).setCell ⟨blk, j, none⟩ (.int .u32 d[i]!)) := by
  have hne : blk ≠ c := by have := h.new; have := h.row.old; omega
  refine ⟨h.row.swp i j hi hj, ?_, ?_, h.new⟩
  · obtain ⟨s, h1, hs⟩ := h.num
    refine ⟨s, h1, ?_⟩
    rw [World.cell?_setCell_other _ _ _ _ (by intro e; simp only [Addr.mk.injEq] at e; exact hne e.1), World.cell?_setCell_other _ _ _ _ (by intro e; simp only [Addr.mk.injEq] at e; exact hne e.1)]
    exact hs
  · rw [World.frozen?_setCell, World.frozen?_setCell]
    exact h.nfree

set_option maxHeartbeats 4000000 in
theorem next_any (h : Rn w0 blk cap U d c w) :
    Calls Tryz.prog 144 #[.pointer (some ⟨c, 0, none⟩)] w fun e w' => ∃ t : Nat, t < 18446744073709551616 ∧ e = .returned (.int .u64 (t : Int)) ∧ Rn w0 blk cap U d c w' := by
  obtain ⟨s, hs, hc⟩ := h.num
  have hf := h.nfree
  obtain ⟨A, hA⟩ : ∃ A : Nat, A = s ^^^ (s * 8192 % 18446744073709551616) := ⟨_, rfl⟩
  have lA : A < 18446744073709551616 := by rw [hA]; exact Nat.xor_lt_two_pow (n := 64) (by omega) (by omega)
  obtain ⟨B, hB⟩ : ∃ B : Nat, B = A ^^^ (A / 128) := ⟨_, rfl⟩
  have lB : B < 18446744073709551616 := by rw [hB]; exact Nat.xor_lt_two_pow (n := 64) (by omega) (by omega)
  obtain ⟨C, hC⟩ : ∃ C : Nat, C = B ^^^ (B * 131072 % 18446744073709551616) := ⟨_, rfl⟩
  have lC : C < 18446744073709551616 := by rw [hC]; exact Nat.xor_lt_two_pow (n := 64) (by omega) (by omega)
  have e1 : bits .xor .u64 (s : Int) (IntKind.u64.wrap ((s : Int) * 8192)) = (A : Int) := by
    rw [IntKind.wrap_u64, show ((s : Int) * 8192 % 18446744073709551616) = ((s * 8192 % 18446744073709551616 : Nat) : Int) by omega, bits_xor_u64_nat _ _ hs (by omega), hA]
  have e2 : bits .xor .u64 (A : Int) ((A : Int) / 128) = (B : Int) := by
    rw [show ((A : Int) / 128) = ((A / 128 : Nat) : Int) by omega, bits_xor_u64_nat _ _ lA (by omega), hB]
  have e3 : bits .xor .u64 (B : Int) (IntKind.u64.wrap ((B : Int) * 131072)) = (C : Int) := by
    rw [IntKind.wrap_u64, show ((B : Int) * 131072 % 18446744073709551616) = ((B * 131072 % 18446744073709551616 : Nat) : Int) by omega, bits_xor_u64_nat _ _ lB (by omega), hC]
  clear hA hB hC
  have h1 := (h.bump A lA).drew
  have c1 := h.cellOf A
  go_enter Tryz.func144, Tryz.ntmps144
  go_wp2_with fail
  go_region
  generalize (w.setCell ⟨c, 0, none⟩ (.int .u64 (A : Int))).drew = w1 at h1 c1 ⊢
  have f1 := h1.nfree
  have h2 := (h1.bump B lB).drew
  have c2 := h1.cellOf B
  go_wp2_with fail
  go_region
  generalize (w1.setCell ⟨c, 0, none⟩ (.int .u64 (B : Int))).drew = w2 at h2 c2 ⊢
  have f2 := h2.nfree
  have h3 := (h2.bump C lC).drew
  have c3 := h2.cellOf C
  go_wp2_with fail
  go_region
  generalize (w2.setCell ⟨c, 0, none⟩ (.int .u64 (C : Int))).drew = w3 at h3 c3 ⊢
  go_wp2
  go_ret
  exact ⟨C, lC, rfl, h3⟩
end

theorem and_fact (X M1 : Nat) (hX : X < 18446744073709551616) (hM : M1 < 131072) : ∃ o : Nat, bits .and .u64 (X : Int) (M1 : Int) = (o : Int) ∧ o ≤ M1 :=
  ⟨X &&& M1, bits_and_u64_nat X M1 hX (by omega), Nat.and_le_right⟩

set_option maxHeartbeats 8000000 in
set_option maxRecDepth 100000 in
theorem brk_any {w0 w : World} {blk cap n : Nat} {U : Nat → Value} {d : Array Int} (h : Rw w0 blk cap U d w) (hn : d.size = n) (hsz : n < 65536) (a b : Nat) (hab : a + 12 < b) (hb : b ≤ n) :
    Calls Tryz.prog 120 #[.slice (some ⟨blk, 0, none⟩) n cap, .int .i64 (a : Int), .int .i64 (b : Int)] w fun e w' => e = .returned (.tuple #[]) ∧ ∃ d', Pm a b d d' ∧ Rw w0 blk cap U d' w' := by
  obtain ⟨l, hl⟩ : ∃ l : Nat, (b : Int) - (a : Int) = (l : Int) := ⟨b - a, by omega⟩
  have hlA : Aside (a + l = b ∧ 12 < l) := (by omega : a + l = b ∧ 12 < l)
  obtain ⟨q, hq⟩ : ∃ q : Nat, (l : Int) / 4 = (q : Int) := ⟨l / 4, by omega⟩
  have hq' : (l : Int).tdiv 4 = (q : Int) := by rw [Int.tdiv_eq_ediv_of_nonneg (by omega)]; exact hq
  obtain ⟨m, hm⟩ : ∃ m : Nat, (a : Int) + (q : Int) * 2 = (m : Int) := ⟨a + q * 2, by omega⟩
  have hmA : Aside (a < m ∧ m + 1 < b) := (by omega : a < m ∧ m + 1 < b)
  have h8 : (8 : Int) ≤ (l : Int) := by omega
  have hlw : IntKind.u64.wrap (l : Int) = (l : Int) := by rw [IntKind.wrap_u64]; omega
  have hs0 : Aside (d.size = n) := hn
  obtain ⟨M, hM⟩ : ∃ M, M = 2 ^ Lib.bitLen l := ⟨_, rfl⟩
  have hMA : Aside (0 < M ∧ M ≤ 2 * l ∧ M ≤ 131072) := by
    have h1 := bl_spec l l (Nat.le_refl _) (by omega)
    have h2 := h1.2 (by omega)
    have h3 := Nat.two_pow_pos (Lib.bitLen l)
    rw [← hM] at h2 h3
    exact ⟨h3, h2, by omega⟩
  have hR := h.alloc (.cells #[.int .u64 (l : Int)] 211)
  have hc : (w.alloc (.cells #[.int .u64 (l : Int)] 211)).cell? ⟨w.heap.size, 0, none⟩ = some (.int .u64 (l : Int)) := by simp
  have hN0 : Rn w0 blk cap U d w.heap.size (w.alloc (.cells #[.int .u64 (l : Int)] 211)) := ⟨hR, ⟨l, by omega, hc⟩, by simp, h.size_le⟩
  have K := fun w => pow2_any l (by omega) w
  rw [← hM] at K
  have hn2 : Aside (b ≤ n) := hb
  clear h hn hR hc hM
  go_enter Tryz.func120, Tryz.ntmps120
  go_wp2_with (go_at_call 143; refine (K _).mono ?_; rintro e w' ⟨rfl, rfl⟩)
  obtain ⟨w1, hw1⟩ : ∃ w1, w1 = w.alloc (.cells #[.int .u64 (l : Int)] 211) := ⟨_, rfl⟩
  rw [← hw1] at hN0 ⊢
  generalize w.heap.size = c at hN0 ⊢
  clear hw1 K
  go_loopg [9] 3 (fun g s wr => ∃ (t : Nat) (D : Array Int), s = .int .i64 (t : Int) ∧ t + g = m + 2 ∧ g ≤ 3 ∧ Aside (D.size = n) ∧ Aside (Pm a b d D) ∧ Rn w0 blk cap U D c wr)
  case atStart => exact ⟨m - 1, d, by have := hmA.out; go_num, by have := hmA.out; omega, Nat.le_refl _, hs0, Pm.refl _ _ _, hN0⟩
  case round =>
    clear hN0
    obtain ⟨t, D, rfl, htg, hg3, hs, hP, hN⟩ := hrel
    have htA : Aside (t + gk = m + 2) := htg
    by_cases ht : t ≤ m + 1
    · have htz : (t : Int) ≤ (m : Int) + 1 := by omega
      have K := next_any hN
      have hMz : (M : Int) - 1 = ((M - 1 : Nat) : Int) := by have := hMA.out; omega
      have hMw : IntKind.u64.wrap ((M : Int) - 1) = ((M - 1 : Nat) : Int) := by rw [hMz, IntKind.wrap_u64]; have := hMA.out; omega
      obtain ⟨M1, hM1⟩ : ∃ M1, M1 = M - 1 := ⟨_, rfl⟩
      rw [← hM1] at hMz hMw
      have hM1A : Aside (M1 < 2 * l ∧ M1 < 131072) := (by have := hMA.out; omega : M1 < 2 * l ∧ M1 < 131072)
      have hM1w : IntKind.u64.wrap (M1 : Int) = (M1 : Int) := by rw [IntKind.wrap_u64]; have := hM1A.out; omega
      have hM1b : M1 < 131072 := hM1A.out.2
      clear hM1
      go_upto_if 43 with (go_at_call 144; refine K.mono ?_; clear K; rintro e w2 ⟨X, hX, rfl, hN2⟩; obtain ⟨o, hand, hob⟩ := and_fact X M1 hX hM1b)
      go_cut [10] from 41 to 46 (fun so w => ∃ o : Nat, so = .int .i64 (o : Int) ∧ o < l ∧ w = w2)
      case first =>
        by_cases hol : o < l
        · have hz : ¬ (l : Int) ≤ (o : Int) := by omega
          go_wp2
          go_meet
          case rel => exact ⟨o, rfl, hol, rfl⟩
        · have hz : (l : Int) ≤ (o : Int) := by omega
          go_wp2
          go_meet
          case rel => exact ⟨o - l, by first | go_num | (congr 1; omega), by have := hM1A.out; omega, rfl⟩
      case rest =>
        obtain ⟨oo, rfl, hoo, rfl⟩ := hcut
        obtain ⟨pk, hpk⟩ : ∃ pk : Nat, (a : Int) + (oo : Int) = (pk : Int) := ⟨a + oo, by omega⟩
        have hpA : Aside (a ≤ pk ∧ pk < b) := (by have := hlA.out; omega : a ≤ pk ∧ pk < b)
        have hmm := hmA.out
        have hnn := hn2.out
        have hpp := hpA.out
        have hgk : Aside (0 < gk) := (by omega : 0 < gk)
        have hgk3 : Aside (m ≤ t + 1) := (by simp only [Aside]; have := htA.out; omega)
        have bI : (t : Int) < (n : Int) := by omega
        have bJ : (pk : Int) < (n : Int) := by omega
        have cI := hN2.cell (i := t) (by have := hs.out; omega)
        have cJ := hN2.cell (i := pk) (by have := hs.out; omega)
        have fI := hN2.free t
        have fJ := hN2.free pk
        have hN2s := (hN2.swp t pk (by have := hs.out; omega) (by have := hs.out; omega)).drew
        obtain ⟨u, cU⟩ := hN2.cell2 t pk (by have := hs.out; omega) (by have := hs.out; omega) D[pk]!
        generalize D[t]! = vx at cI hN2s
        generalize D[pk]! = vy at cJ cU hN2s
        go_wp2_with fail
        go_region
        generalize ((wc.setCell ⟨blk, t, none⟩ (.int .u32 vy)).setCell ⟨blk, pk, none⟩ (.int .u32 vx)).drew = wcs at hN2s ⊢
        clear cI cJ fI fJ cU hN2
        go_wp2
        go_roundg (gk - 1)
        case measure => have := hgk.out; omega
        case rel => exact ⟨t + 1, _, by go_num, by have := hgk.out; have := htA.out; omega, by omega, (show Aside _ from by rw [size_swp]; exact hs.out), hP.out.swp (by have := hgk3.out; omega) (by omega) (by omega) (by omega) (by have := hs.out; omega), hN2s⟩
    · have htz : ¬ (t : Int) ≤ (m : Int) + 1 := by omega
      go_wp2
      go_end0
      exact ⟨rfl, D, hP.out, hN.row⟩
end Go.Proofs.YteickckgljlacaaGreat.Rs
