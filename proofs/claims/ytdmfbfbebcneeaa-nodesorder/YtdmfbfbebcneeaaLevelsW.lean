/-
  NodesLevels, walked.
-/
import Derived.Test.YtdmfbfbebcneeaaKnown
namespace Go.Proofs.Ytdmfbfbebcneeaa
open Go Go.RowKit
theorem far {B : Nat} {a b d : World} (h : Below B a b) (k : Below b.heap.size b d) (hB : B ≤ b.heap.size) : Below B a d :=
  h.trans ⟨k.os, k.tape, k.output, k.size, fun i hi => k.block i (by omega)⟩
set_option maxRecDepth 100000 in
set_option maxHeartbeats 1000000 in
theorem levels_walk (z x : Int) (W : World) (z0 : 0 ≤ z) (x0 : 0 ≤ x) (x1 : x ≤ 4294967295) :
    Calls Try.prog 6 #[.int .u8 z, .int .u32 x] W fun e w' => e = .returned (.bool true) ∧ Below W.heap.size W w' := by
  have K0 := known_any W
  obtain ⟨n, hn⟩ : ∃ n : Nat, z % 8 + 1 = (n : Int) := ⟨(z % 8 + 1).toNat, by omega⟩
  have n1 : 1 ≤ n := by omega
  have n8 : n ≤ 8 := by omega
  have hz : Int.tmod z 8 = z % 8 := Int.tmod_eq_emod_of_nonneg z0
  obtain ⟨y, rfl⟩ := Int.eq_ofNat_of_zero_le x0
  obtain ⟨M, hM⟩ : ∃ M, Mdl.empty n 9 = M := ⟨_, rfl⟩
  have K1 : Aside (∀ w, Calls Try.prog 9 #[.int .i64 (n : Int), .int .i64 9] w fun e w' => ∃ S F, e = .returned (.tuple #[.pointer (some ⟨S, 0, none⟩), .int .i64 0]) ∧ St w' S F M ∧ Below w.heap.size w w' ∧ ∀ k, F k → w.heap.size ≤ k) := fun w => by
    have := s_new n 9 w n1 n8 (by omega) (by omega)
    rw [hM] at this
    exact this
  have hMe : Aside (M.n = n ∧ M.hs = []) := by rw [← hM]; exact ⟨rfl, rfl⟩
  clear hM
  by_cases hy : y < 2
  · have hy1 : (y : Int) ≤ 1 := by omega
    have nd : Aside (M.isNode y) := .inl hy
    have hyA : Aside (y < 2) := hy
    clear hy
    go_enter Try.func6, Try.ntmps6
    go_wp2_with (first
      | (go_at_call 8; refine K0.mono ?_; clear K0; rintro e w1 ⟨rfl, b1⟩; have Kn := K1.out w1)
      | (go_at_call 9; refine Kn.mono ?_; clear Kn; rintro e w2 ⟨S, F, rfl, h2, b2, f2⟩; have Ki := s_is h2 y (by omega); rw [decide_eq_true nd.out] at Ki; have Kl := s_level h2 y (by omega); rw [Mdl.levI_const hyA.out, hMe.out.1] at Kl; have Ka := s_low h2 y (by omega); rw [Mdl.lowN_const hyA.out] at Ka; have Kb := s_high h2 y (by omega); rw [Mdl.highN_const hyA.out] at Kb)
      | (go_at_call 27; refine Ki.mono ?_; clear Ki; rintro e w2 ⟨rfl, rfl⟩)
      | (go_at_call 15; refine Kl.mono ?_; clear Kl; rintro e w2 ⟨rfl, rfl⟩)
      | (go_at_call 16; refine Ka.mono ?_; clear Ka; rintro e w2 ⟨rfl, rfl⟩)
      | (go_at_call 17; refine Kb.mono ?_; clear Kb; rintro e w2 ⟨rfl, rfl⟩))
    go_ret
    exact ⟨rfl, far b1 b2 b1.size⟩
  · have hy1 : ¬ (y : Int) ≤ 1 := by omega
    have nd : Aside (¬ M.isNode y) := fun e => by
      rcases e with e | e
      · omega
      · rw [hMe.out.2] at e; cases e
    clear hy
    go_enter Try.func6, Try.ntmps6
    go_wp2_with (first
      | (go_at_call 8; refine K0.mono ?_; clear K0; rintro e w1 ⟨rfl, b1⟩; have Kn := K1.out w1)
      | (go_at_call 9; refine Kn.mono ?_; clear Kn; rintro e w2 ⟨S, F, rfl, h2, b2, f2⟩; have Ki := s_is h2 y (by omega); rw [decide_eq_false nd.out] at Ki; have Kl := s_level h2 y (by omega); rw [Mdl.levI_none nd.out] at Kl; have Ka := s_low h2 y (by omega); rw [Mdl.lowN_none nd.out] at Ka; have Kb := s_high h2 y (by omega); rw [Mdl.highN_none nd.out] at Kb; have Kz := s_len h2; rw [hMe.out.2] at Kz; have Ky := s_all h2; rw [hMe.out.2] at Ky)
      | (go_at_call 27; refine Ki.mono ?_; clear Ki; rintro e w2 ⟨rfl, rfl⟩)
      | (go_at_call 15; refine Kl.mono ?_; clear Kl; rintro e w2 ⟨rfl, rfl⟩)
      | (go_at_call 16; refine Ka.mono ?_; clear Ka; rintro e w2 ⟨rfl, rfl⟩)
      | (go_at_call 17; refine Kb.mono ?_; clear Kb; rintro e w2 ⟨rfl, rfl⟩)
      | (go_at_call 18; refine Kz.mono ?_; clear Kz; rintro e w2 ⟨rfl, rfl⟩)
      | (go_at_call 28; refine Ky.mono ?_; clear Ky; rintro e w3 ⟨g, rfl, r3, b3, g3⟩; have Ko := s_order (h2.below b3))
      | (go_at_call 21; refine Ko.mono ?_; clear Ko; rintro e w4 ⟨P, l, rfl, o4, b4, p4⟩; have Kp := Od.len_any o4; rw [hMe.out.1] at Kp)
      | (go_at_call 29; refine Kp.mono ?_; clear Kp; rintro e w4 ⟨rfl, rfl⟩))
    go_ret
    exact ⟨rfl, far (far (far b1 b2 b1.size) b3 (Nat.le_trans b1.size b2.size)) b4 (Nat.le_trans (Nat.le_trans b1.size b2.size) b3.size)⟩
end Go.Proofs.Ytdmfbfbebcneeaa
