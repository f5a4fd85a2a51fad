/-
  The library's insertion sort over a row of handles.
-/
import Derived.Test.YteickckgljlacaaGreatRsRow
namespace Go.Proofs.YteickckgljlacaaGreat.Rs
open Go Go.RowKit

abbrev lt := Sort.ltInt
theorem insInner_go (a j : Nat) (d : Array Int) (h : a < j + 1) (hl : lt d[j + 1]! d[j]! = true) : Sort.insInner lt a (j + 1) d = Sort.insInner lt a j (Sort.swp d (j + 1) j) := by
  rw [Sort.insInner, if_pos]
  simp only [hl, Bool.and_true, decide_eq_true_eq]
  omega
theorem insInner_end (a j : Nat) (d : Array Int) (h : j ≤ a ∨ lt d[j]! d[j - 1]! = false) : Sort.insInner lt a j d = d := by
  cases j with
  | zero => rfl
  | succ j =>
    rw [Sort.insInner, if_neg]
    rcases h with h | h
    · simp only [Bool.and_eq_true, decide_eq_true_eq, not_and]
      intro e
      omega
    · rw [show j + 1 - 1 = j by omega] at h
      rw [h]
      simp
theorem insOuter_go (a b i : Nat) (d : Array Int) (h : i < b) : Sort.insOuter lt a b i d = Sort.insOuter lt a b (i + 1) (Sort.insInner lt a i d) := by
  rw [Sort.insOuter, if_pos h]
theorem insOuter_end (a b i : Nat) (d : Array Int) (h : ¬ i < b) : Sort.insOuter lt a b i d = d := by
  rw [Sort.insOuter, if_neg h]

set_option maxHeartbeats 4000000 in
theorem ins_any {w0 w : World} {blk cap n : Nat} {U : Nat → Value} {d : Array Int} (h : Rw w0 blk cap U d w) (hn : d.size = n) (hsz : n < 4611686018427387904) (a b : Nat) (hab : a ≤ b) (hb : b ≤ n) :
    Calls Tryz.prog 118 #[.slice (some ⟨blk, 0, none⟩) n cap, .int .i64 (a : Int), .int .i64 (b : Int)] w fun e w' => e = .returned (.tuple #[]) ∧ Rw w0 blk cap U (Sort.insertionSort lt d a b) w' := by
  go_enter Tryz.func118, Tryz.ntmps118
  go_wp2
  go_loopg [6] (b - a) (fun g sv wr => ∃ (i : Nat) (D : Array Int), sv = .int .i64 (i : Int) ∧ a < i ∧ i ≤ b + 1 ∧ b + 1 - i ≤ g + 1 ∧ Aside (D.size = n) ∧ Rw w0 blk cap U D wr ∧ Aside (Sort.insOuter lt a b i D = Sort.insOuter lt a b (a + 1) d))
  case atStart => exact ⟨a + 1, d, by go_num, by omega, by omega, by omega, hn, h, rfl⟩
  case round =>
    obtain ⟨i, D, rfl, hai, hib, hg, hs, hR, hE⟩ := hrel
    obtain ⟨go, hgo⟩ : ∃ go, go = gk := ⟨_, rfl⟩
    have hgoA : Aside (b + 1 - i ≤ go + 1) := (by omega : b + 1 - i ≤ go + 1)
    by_cases hlt : i < b
    · have hltz : (i : Int) < (b : Int) := by omega
      go_wp2
      go_loopg [7] i (fun g sv wr => ∃ (D' : Array Int), sv = .int .i64 (g : Int) ∧ a ≤ g ∧ g ≤ i ∧ Aside (D'.size = n) ∧ Rw w0 blk cap U D' wr ∧ Aside (Sort.insInner lt a g D' = Sort.insInner lt a i D))
      case atStart => exact ⟨D, rfl, by omega, Nat.le_refl _, hs, hR, rfl⟩
      case round =>
        clear hR
        obtain ⟨D', rfl, haj, hji, hs', hR, hI⟩ := hrel
        have fin : Aside ((gk ≤ a ∨ lt D'[gk]! D'[gk - 1]! = false) → Sort.insOuter lt a b (i + 1) D' = Sort.insOuter lt a b (a + 1) d) := fun e => by
          rw [← hE.out, insOuter_go a b i D hlt, ← hI.out, insInner_end a gk D' e]
        by_cases hja : a < gk
        · obtain ⟨j, hj⟩ : ∃ j : Nat, gk = j + 1 := ⟨gk - 1, by omega⟩
          have hz : (gk : Int) - 1 = (j : Int) := by omega
          have hja' : (a : Int) < (gk : Int) := by omega
          have hd : decide ((gk : Int) > (a : Int)) = true := decide_eq_true (by omega)
          have b1 : (gk : Int) < (n : Int) := by omega
          have b2 : (j : Int) < (n : Int) := by omega
          have c1 := hR.cell (i := gk) (by have := hs'.out; omega)
          have c2 := hR.cell (i := j) (by have := hs'.out; omega)
          have jA : Aside (gk = j + 1) := hj
          obtain ⟨x, hx⟩ : ∃ x, x = D'[gk]! := ⟨_, rfl⟩
          obtain ⟨y, hy⟩ : ∃ y, y = D'[j]! := ⟨_, rfl⟩
          have hxA : Aside (x = D'[gk]!) := hx
          have hyA : Aside (y = D'[j]!) := hy
          rw [← hx] at c1
          rw [← hy] at c2
          have K := fun w => less_any x y w
          cases hl : lt x y with
          | true =>
            rw [show Sort.ltInt x y = true from hl] at K
            have hlA : Aside (lt x y = true) := hl
            clear hx hy hj hl
            go_wp2_with fail
            go_quiet (first | (go_at_call 124; exact Calls.quiet_of_same (K _)))
            have hR1 := hR.drewN nq
            generalize wr.drewN nq = w1 at hR1 ⊢
            have c1 := hR1.cell (i := gk) (by have := hs'.out; omega)
            have c2 := hR1.cell (i := j) (by have := hs'.out; omega)
            rw [← hxA.out] at c1
            rw [← hyA.out] at c2
            have f1 := hR1.free gk
            have f2 := hR1.free j
            obtain ⟨u, c3⟩ := hR1.cell2 gk j (by have := hs'.out; omega) (by have := hs'.out; omega) y
            have hR2 := (hR1.swp gk j (by have := hs'.out; omega) (by have := hs'.out; omega)).drew
            rw [← hxA.out, ← hyA.out] at hR2
            go_wp2_with fail
            go_region
            generalize ((w1.setCell ⟨blk, gk, none⟩ (.int .u32 y)).setCell ⟨blk, j, none⟩ (.int .u32 x)).drew = w2 at hR2 ⊢
            go_wp2
            go_roundg j
            case measure => have := jA.out; omega
            case rel =>
              have e := jA.out
              subst e
              exact ⟨_, rfl, by omega, by omega, by rw [size_swp]; exact hs'.out, hR2, by rw [← hI.out, insInner_go a j D' hja (by rw [← hxA.out, ← hyA.out]; exact hlA.out)]; exact rfl⟩
          | false =>
            rw [show Sort.ltInt x y = false from hl] at K
            have hlA : Aside (lt x y = false) := hl
            clear hx hy hj hl
            go_wp2_with fail
            go_quiet (first | (go_at_call 124; exact Calls.quiet_of_same (K _)))
            have hR1 := hR.drewN nq
            generalize wr.drewN nq = w1 at hR1 ⊢
            go_wp2
            go_roundg (b - (i + 1))
            case measure => omega
            case rel =>
              have e := jA.out
              exact ⟨i + 1, D', by go_num, by omega, by omega, by omega, hs', hR1, fin.out (.inr (by rw [show gk - 1 = j by omega, ← hxA.out, ← hyA.out]; exact hlA.out))⟩
        · have hd : decide ((gk : Int) > (a : Int)) = false := decide_eq_false (by omega)
          have hja' : ¬ (a : Int) < (gk : Int) := by omega
          go_wp2_with fail
          go_region
          have hR1 := hR.drew
          generalize wr.drew = w1 at hR1 ⊢
          go_wp2
          go_roundg (b - (i + 1))
          case measure => omega
          case rel => exact ⟨i + 1, D', by go_num, by omega, by omega, by omega, hs', hR1, fin.out (.inl (by omega))⟩
    · have hltz : ¬ (i : Int) < (b : Int) := by omega
      go_wp2
      go_end0
      refine ⟨rfl, ?_⟩
      rw [Sort.insertionSort, ← hE.out, insOuter_end a b i D hlt]
      exact hR
end Go.Proofs.YteickckgljlacaaGreat.Rs
