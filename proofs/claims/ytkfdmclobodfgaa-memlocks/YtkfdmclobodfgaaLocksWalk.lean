/-
  The walk of MemLocks: for every row of turns it tells true, and old memory is as it was.
-/
import Derived.Test.YtkfdmclobodfgaaUse
namespace Go.Proofs.Ytkfdmclobodfgaa
open Go Go.RowKit

/-- What is so behind k turns: the owner o stands in cell 0, f attempts have failed. -/
structure Locked (W w : World) (P R k : Nat) (o f : Int) (c : Nat → Int) (q : Int) : Prop where
  mem : IsMem w P R 2 c q f
  own : c 0 = o
  rest : c 1 = 0
  who : 0 ≤ o ∧ o ≤ 5
  few : 0 ≤ f ∧ f ≤ k
  ops : 0 ≤ q ∧ q ≤ 3 * k
  old : Below W.heap.size W w
  hP : W.heap.size ≤ P
  hR : W.heap.size ≤ R

theorem locks_walk (b off len cap : Nat) (Z : Nat → Int) (hZ : ∀ k, k < len → 0 ≤ Z k ∧ Z k ≤ 255) (W : World) (hb : b < W.heap.size) (hcell : ∀ k, k < len → W.cell? ⟨b, off + k, none⟩ = some (.int .u8 (Z k))) :
    Calls Try.prog 5 #[.slice (some ⟨b, off, none⟩) len cap] W fun e w' => e = .returned (.bool true) ∧ Below W.heap.size W w' := by
  by_cases hlen : 300 < len
  · have hd : decide (300 < (len : Int)) = true := by simp; omega
    go_enter Try.func5, Try.ntmps5
    go_wp2_with (first
      | (go_at_call 8; refine (known_any W).mono ?_; rintro e w1 ⟨rfl, b1⟩))
    go_ret
    exact ⟨rfl, b1⟩
  · have hd : decide (300 < (len : Int)) = false := by simp; omega
    have hh2 : held 2 = 2 := by decide
    go_enter Try.func5, Try.ntmps5
    go_wp2_with (first
      | (go_at_call 8; refine (known_any W).mono ?_; rintro e w1 ⟨rfl, b1⟩)
      | (go_at_call 9; refine (new_any 2 w1).mono ?_; rw [hh2]; rintro e w2 ⟨rfl, m2, b2, s2⟩))
    go_loopg [4, 5, 6] len (fun g so sf si wr => ∃ (k : Nat) (o f : Int) (c : Nat → Int) (q : Int), k + g = len ∧ so = .int .i64 o ∧ sf = .int .i64 f ∧ si = .int .i64 (k : Int) ∧ Locked W wr (w1.heap.size + 1) w1.heap.size k o f c q)
    case atStart =>
      refine ⟨0, 0, 0, fun _ => 0, 0, by omega, rfl, rfl, rfl, ?_⟩
      exact ⟨m2, rfl, rfl, by decide, by decide, by decide, below_far b1 b2, by have := b1.size; omega, b1.size⟩
    case round =>
      obtain ⟨k, o, f, c, q, hk, rfl, rfl, rfl, L⟩ := hrel
      have hK : Aside (k + gk = len) := hk
      have hL : Aside (len ≤ 300) := by simp only [Aside]; omega
      by_cases hkl : k < len
      · have hz := hZ k hkl
        have hc : wr.cell? ⟨b, off + k, none⟩ = some (.int .u8 (Z k)) := by rw [L.old.cell hb]; exact hcell k hkl
        have hq : 0 ≤ q ∧ q ≤ 1000 := by have := L.ops; omega
        generalize Z k = z at hz hc
        clear hk
        by_cases ho : o = z % 5 + 1
        · go_wp2_with (first
            | (go_at_call 11; refine (store_in _ _ _ _ _ _ _ 0 0 (by decide) (by omega) L.mem).mono ?_; rintro e w3 ⟨rfl, m3, b3⟩))
          go_roundg (gk - 1)
          case measure => have := hK.out; omega
          case rel =>
            have hk := hK.out
            refine ⟨k + 1, 0, f, upd c 0 0, q + 1, by omega, rfl, rfl, rfl, ⟨m3, rfl, ?_, by decide, ?_, ?_, ?_, L.hP, L.hR⟩⟩
            · exact L.rest
            · have := L.few; omega
            · have := L.ops; omega
            · exact L.old.trans (b3.below L.old.size L.hP L.hR)
        · have hd2 : (o == z % 5 + 1) = false := by simpa using ho
          have hw : IntKind.u64.wrap (z % 5 + 1) = z % 5 + 1 := by rw [IntKind.wrap_u64]; omega
          have ho5 := L.who
          have hf := L.few
          by_cases h0 : o = 0
          · subst h0
            have h9 : (z % 5 + 1 == z % 5 + 1) = true := by simp
            go_wp2_with (first
              | (go_at_call 12; refine (hit_at L.mem 0 0 (z % 5 + 1) L.own (by decide) (by omega)).mono ?_; rintro e w3 ⟨rfl, m3, b3⟩)
              | (go_at_call 10; refine (load_at m3 0 (z % 5 + 1) (upd_same _ _ _) (by decide) (by omega)).mono ?_; rintro e w4 ⟨rfl, m4, b4⟩)
              | (go_at_call 15; refine (fails_any _ _ _ _ _ _ _ m4).mono ?_; rintro e w' ⟨rfl, rfl⟩))
            go_roundg (gk - 1)
            case measure => have := hK.out; omega
            case rel =>
              have hk := hK.out
              refine ⟨k + 1, z % 5 + 1, f, upd c 0 (z % 5 + 1), q + 1 + 1, by omega, rfl, rfl, rfl, ⟨m4, upd_same _ _ _, ?_, by omega, ?_, ?_, ?_, L.hP, L.hR⟩⟩
              · exact L.rest
              · have := L.few; omega
              · have := L.ops; omega
              · exact L.old.trans ((b3.trans b4).below L.old.size L.hP L.hR)
          · have h9 : (o == 0) = false := by simpa using h0
            have hw2 : IntKind.u64.wrap o = o := by rw [IntKind.wrap_u64]; omega
            have hne : ¬ c 0 = 0 := by rw [L.own]; exact h0
            go_wp2_with (first
              | (go_at_call 12; refine (cas_miss _ _ _ _ _ _ _ 0 0 (z % 5 + 1) (by decide) hne (by omega) (by omega) L.mem).mono ?_; rintro e w3 ⟨rfl, m3, b3⟩)
              | (go_at_call 10; refine (load_at m3 0 o L.own (by decide) (by omega)).mono ?_; rintro e w4 ⟨rfl, m4, b4⟩)
              | (go_at_call 15; refine (fails_any _ _ _ _ _ _ _ m4).mono ?_; rintro e w' ⟨rfl, rfl⟩))
            go_roundg (gk - 1)
            case measure => have := hK.out; omega
            case rel =>
              have hk := hK.out
              refine ⟨k + 1, o, f + 1, c, q + 1 + 1, by omega, rfl, rfl, rfl, ⟨m4, L.own, L.rest, L.who, by omega, ?_, ?_, L.hP, L.hR⟩⟩
              · have := L.ops; omega
              · exact L.old.trans ((b3.trans b4).below L.old.size L.hP L.hR)
      · have hkl' : k = len := by have := hK.out; omega
        subst hkl'
        have hq : 0 ≤ q ∧ q ≤ 1000 := by have := L.ops; have := hL.out; omega
        go_wp2_with (first
          | (go_at_call 10; refine (load_at L.mem 1 0 L.rest (by decide) (by omega)).mono ?_; rintro e w3 ⟨rfl, m3, b3⟩))
        go_ret
        exact ⟨rfl, L.old.trans (b3.below L.old.size L.hP L.hR)⟩

/-- No turns at all, wherever the row lies. -/
theorem locks_none (ad : Option Addr) (cap : Nat) (W : World) :
    Calls Try.prog 5 #[.slice ad 0 cap] W fun e w' => e = .returned (.bool true) ∧ Below W.heap.size W w' := by
  have hh2 : held 2 = 2 := by decide
  go_enter Try.func5, Try.ntmps5
  go_wp2_with (first
    | (go_at_call 8; refine (known_any W).mono ?_; rintro e w1 ⟨rfl, b1⟩)
    | (go_at_call 9; refine (new_any 2 w1).mono ?_; rw [hh2]; rintro e w2 ⟨rfl, m2, b2, s2⟩))
  refine wp_loop_rounds 1 ?_
  rw [rounds_succ]
  go_wp2_with (first
    | (go_at_call 10; refine (load_at m2 1 0 rfl (by decide) (by omega)).mono ?_; rintro e w3 ⟨rfl, m3, b3⟩))
  go_ret
  exact ⟨rfl, below_far b1 (b2.trans (b3.below (by omega) (by omega) (by omega)))⟩

end Go.Proofs.Ytkfdmclobodfgaa
