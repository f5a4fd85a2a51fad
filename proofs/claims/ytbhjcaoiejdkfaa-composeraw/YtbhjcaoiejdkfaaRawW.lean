/-
  ComposeRaw, walked.
-/
import Derived.Test.YtbhjcaoiejdkfaaCpX
namespace Go.Proofs.Ytbhjcaoiejdkfaa
open Go Go.RowKit
open Rf (IntsAt)

theorem hs_made (w : World) (k : Nat) : HdAt (w.alloc (.cells (madeCells #[.int .u32 0] k) 36)) (some ⟨w.heap.size, 0, none⟩) k (fun _ => 0) := by
  have r := World.rowIs_made w (.int .u32 0) k 36
  exact .inr ⟨_, 0, rfl, r.lt, fun i hi => by rw [Nat.zero_add]; exact r.cell hi⟩
theorem is_made (w : World) (k : Nat) : IntsAt (w.alloc (.cells (madeCells #[.int .i64 0] k) 3)) (some ⟨w.heap.size, 0, none⟩) k (fun _ => 0) := by
  have r := World.rowIs_made w (.int .i64 0) k 3
  exact .inr ⟨_, 0, rfl, r.lt, fun i hi => by rw [Nat.zero_add]; exact r.cell hi⟩
/-- What a list of so many is answered with. -/
def Er (k : Nat) (er : Int) : Prop := (k = 3 ∧ er = 0) ∨ (k ≠ 3 ∧ er = 40)
section
variable {W w : World} {S n r b k x : Nat} {l : Kl} {X : Nat → Bool} {er : Int}
theorem more1 (h : Sx W w S n r l b) : Sx W w S n r l (b + 1) := by
  obtain ⟨F, M, s, e1, e2, e3, q, B, f⟩ := h
  exact ⟨F, M, s, e1, e2, by omega, q, B, f⟩
theorem is_yes (h : Sx W w S n r l b) (hx : (x, X) ∈ l) :
    Calls Try.prog 15 #[.pointer (some ⟨S, 0, none⟩), .int .u32 (x : Int)] w fun e w' => e = .returned (.bool true) ∧ w' = w := by
  obtain ⟨F, M, s, e1, e2, e3, q, B, f⟩ := h
  have nx := (q _ hx).1
  have := s_is s x (by have := Mdl.isNode_lt s.ok nx; omega)
  rwa [Mdl.nodeB_true nx] at this
theorem sub_zero (h : Sx W w S 3 100 l b) (hx : (x, X) ∈ l) (h0 : (0, c0) ∈ l) (hb : b + 20 ≤ 100) (hk : k < 6) (he : Er k er) :
    Calls Try.prog 16 #[.pointer (some ⟨S, 0, none⟩), .int .u32 (x : Int), .slice (some ⟨w.heap.size, 0, none⟩) k k] (w.alloc (.cells (madeCells #[.int .u32 0] k) 36)) fun e w' => ∃ z : Nat, e = .returned (.tuple #[.int .u32 (z : Int), .int .i64 er]) ∧ Sx W w' S 3 100 l (b + 1) := by
  have x1 := h.below (nb w (.cells (madeCells #[.int .u32 0] k) 36))
  rcases he with ⟨rfl, rfl⟩ | ⟨ne, rfl⟩
  · refine (sub_x x1 hx (hs_made w 3) (G := fun _ => c0) (fun _ _ => h0) 1 (by decide) (by omega)).mono ?_
    rintro e w' ⟨z, rfl, x2, _⟩
    exact ⟨z, rfl, x2.mono fun p hp => .tail _ hp⟩
  · refine (sub_lenx x1 hx (hs_made w k) (G := fun _ => c0) (fun _ _ => h0) (by omega) ne).mono ?_
    rintro e w' ⟨rfl, rfl⟩
    exact ⟨0, rfl, more1 x1⟩
theorem ren_zero (h : Sx W w S 3 100 l b) (hx : (x, X) ∈ l) (_h0 : (0, c0) ∈ l) (hb : b + 20 ≤ 100) (_hk : k < 6) (he : Er k er) :
    Calls Try.prog 17 #[.pointer (some ⟨S, 0, none⟩), .int .u32 (x : Int), .slice (some ⟨w.heap.size, 0, none⟩) k k] (w.alloc (.cells (madeCells #[.int .i64 0] k) 3)) fun e w' => ∃ z : Nat, e = .returned (.tuple #[.int .u32 (z : Int), .int .i64 er]) ∧ Sx W w' S 3 100 l (b + 1) := by
  have x1 := h.below (nb w (.cells (madeCells #[.int .i64 0] k) 3))
  rcases he with ⟨rfl, rfl⟩ | ⟨ne, rfl⟩
  · refine (ren_x x1 hx (is_made w 3) (fun u _ => by show (0 : Int) ≤ 0 ∧ (0 : Int) < (3 : Nat); omega) 1 (by decide) (by omega)).mono ?_
    rintro e w' ⟨z, rfl, x2, _⟩
    exact ⟨z, rfl, x2.mono fun p hp => .tail _ hp⟩
  · refine (ren_lenx x1 hx _ k k ne).mono ?_
    rintro e w' ⟨rfl, rfl⟩
    exact ⟨0, rfl, more1 x1⟩
end
theorem empty_node {n r a : Nat} : (Mdl.empty n r).isNode a ↔ a < 2 := ⟨fun h => h.resolve_right (by rintro h; cases h), .inl⟩
theorem in_two {h : Nat} (h2 : h < 2) : ∃ X : Nat → Bool, (h, X) ∈ ([(0, c0), (1, c1)] : Kl) := by
  have : h = 0 ∨ h = 1 := by omega
  rcases this with rfl | rfl
  · exact ⟨_, .head _⟩
  · exact ⟨_, .tail _ (.head _)⟩
set_option maxRecDepth 100000 in
set_option maxHeartbeats 4000000 in
theorem raw_walk (h g : Nat) (v z : Int) (W : World) (hh : h < 4294967296) (hg : g < 4294967296) (z0 : 0 ≤ z) (_z1 : z ≤ 255) :
    Calls Try.prog 4 #[.int .u32 (h : Int), .int .u32 (g : Int), .int .i64 v, .int .u8 z] W fun e w' => e = .returned (.bool true) ∧ Below W.heap.size W w' := by
  obtain ⟨k, hk⟩ : ∃ k : Nat, z % 6 = (k : Int) := ⟨(z % 6).toNat, by omega⟩
  have k6 : k < 6 := by omega
  have k6A : Aside (k < 6) := k6
  have hz : Int.tmod z 6 = z % 6 := Int.tmod_eq_emod_of_nonneg z0
  have wk : IntKind.i64.wrap (k : Int) = (k : Int) := by rw [IntKind.wrap_i64]; omega
  have wk8 : IntKind.u8.wrap (k : Int) = (k : Int) := by rw [IntKind.wrap_u8]; omega
  have wh : IntKind.u32.wrap (h : Int) = (h : Int) := by rw [IntKind.wrap_u32]; omega
  have wg : IntKind.u32.wrap (g : Int) = (g : Int) := by rw [IntKind.wrap_u32]; omega
  have hm1 := make_hs k (by omega)
  have hm2 := Od.make_ints k (by omega)
  have Kk := cknown_any W
  have KN : Aside (∀ u, Below W.heap.size W u → Calls Try.prog 6 #[.int .i64 3, .int .i64 100] u _) := fun u hu => new_x W u 3 100 (by omega) (by omega) (by omega) (by omega) hu
  go_enter Try.func4, Try.ntmps4
  go_upto_region 9 with (first
    | (go_at_call 13; refine Kk.mono ?_; clear Kk; rintro e v1 ⟨rfl, b1⟩; have Kn := KN.out v1 b1)
    | (go_at_call 6; refine Kn.mono ?_; clear Kn; rintro e w2 ⟨S, rfl, f2, x2, b2⟩))
  have x2A : Aside (Sx W w2 S 3 100 [(0, c0), (1, c1)] 0) := x2
  obtain ⟨F0, s2, _⟩ := f2
  have KI := s_is s2 h hh
  have KJ := s_is s2 g hg
  clear KN b1 b2 x2 k6
  by_cases h2 : h < 2
  · obtain ⟨X, hm⟩ := in_two h2
    have hmA : Aside ((h, X) ∈ ([(0, c0), (1, c1)] : Kl)) := hm
    rw [Mdl.nodeB_true (empty_node.2 h2)] at KI
    by_cases g2 : g < 2
    · obtain ⟨Y, hgm⟩ := in_two g2
      have hgA : Aside ((g, Y) ∈ ([(0, c0), (1, c1)] : Kl)) := hgm
      clear KI KJ
      by_cases vb : v < 0 ∨ 3 ≤ v
      · have C0 := com_varx x2A.out hm hgm v (by omega)
        have v3 : ¬ v < 0 → 3 ≤ v := fun c => vb.resolve_left c
        clear hm hgm s2 hh hg h2 g2
        by_cases vn : v < 0
        · clear v3 vb
          by_cases k3 : k = 3
          · subst k3
            have heA : Aside (Er 3 0) := .inl ⟨rfl, rfl⟩
            have hk : z % 6 = 3 := hk
            have hm1 : ∀ u : World, (Instr.makeSlice 47 (.int .i64 3) (.int .i64 3)).run Try.prog u = .ok (.slice (some ⟨u.heap.size, 0, none⟩) 3 3) (u.alloc (.cells (madeCells #[.int .u32 0] 3) 36)) := hm1
            have hm2 : ∀ u : World, (Instr.makeSlice 30 (.int .i64 3) (.int .i64 3)).run Try.prog u = .ok (.slice (some ⟨u.heap.size, 0, none⟩) 3 3) (u.alloc (.cells (madeCells #[.int .i64 0] 3) 3)) := hm2
            clear wk wk8
            go_wp2_with (first
              | (go_at_call 14; refine C0.mono ?_; clear C0; rintro e w1 ⟨rfl, b1⟩; have x1 := more1 (x2A.out.below b1); have KI := is_yes x1 hmA.out; have KJ := is_yes x1 hgA.out; have K2 := sub_zero x1 hmA.out (.head _) (by decide) k6A.out heA.out)
              | (go_at_call 15; refine KI.mono ?_; clear KI; rintro e w5 ⟨rfl, e5⟩; subst w5)
              | (go_at_call 15; refine KJ.mono ?_; clear KJ; rintro e w5 ⟨rfl, e5⟩; subst w5)
              | (go_at_call 16; refine K2.mono ?_; clear K2; rintro e w3 ⟨z2, rfl, x3⟩; have K3 := ren_zero x3 hmA.out (.head _) (by decide) k6A.out heA.out)
              | (go_at_call 17; refine K3.mono ?_; clear K3; rintro e w4 ⟨z3, rfl, x4⟩; have K4 := is_yes x4 hmA.out)
              | (go_at_call 15; refine K4.mono ?_; clear K4; rintro e w5 ⟨rfl, e5⟩; subst w5))
            go_ret
            exact ⟨rfl, x4.base⟩
          · have heA : Aside (Er k 40) := .inr ⟨k3, rfl⟩
            have ki : ¬ (k : Int) = 3 := by omega
            clear k3
            go_wp2_with (first
              | (go_at_call 14; refine C0.mono ?_; clear C0; rintro e w1 ⟨rfl, b1⟩; have x1 := more1 (x2A.out.below b1); have KI := is_yes x1 hmA.out; have KJ := is_yes x1 hgA.out; have K2 := sub_zero x1 hmA.out (.head _) (by decide) k6A.out heA.out)
              | (go_at_call 15; refine KI.mono ?_; clear KI; rintro e w5 ⟨rfl, e5⟩; subst w5)
              | (go_at_call 15; refine KJ.mono ?_; clear KJ; rintro e w5 ⟨rfl, e5⟩; subst w5)
              | (go_at_call 16; refine K2.mono ?_; clear K2; rintro e w3 ⟨z2, rfl, x3⟩; have K3 := ren_zero x3 hmA.out (.head _) (by decide) k6A.out heA.out)
              | (go_at_call 17; refine K3.mono ?_; clear K3; rintro e w4 ⟨z3, rfl, x4⟩; have K4 := is_yes x4 hmA.out)
              | (go_at_call 15; refine K4.mono ?_; clear K4; rintro e w5 ⟨rfl, e5⟩; subst w5))
            go_ret
            exact ⟨rfl, x4.base⟩
        · have v3 := v3 vn
          clear vb
          by_cases k3 : k = 3
          · subst k3
            have heA : Aside (Er 3 0) := .inl ⟨rfl, rfl⟩
            have hk : z % 6 = 3 := hk
            have hm1 : ∀ u : World, (Instr.makeSlice 47 (.int .i64 3) (.int .i64 3)).run Try.prog u = .ok (.slice (some ⟨u.heap.size, 0, none⟩) 3 3) (u.alloc (.cells (madeCells #[.int .u32 0] 3) 36)) := hm1
            have hm2 : ∀ u : World, (Instr.makeSlice 30 (.int .i64 3) (.int .i64 3)).run Try.prog u = .ok (.slice (some ⟨u.heap.size, 0, none⟩) 3 3) (u.alloc (.cells (madeCells #[.int .i64 0] 3) 3)) := hm2
            clear wk wk8
            go_wp2_with (first
              | (go_at_call 14; refine C0.mono ?_; clear C0; rintro e w1 ⟨rfl, b1⟩; have x1 := more1 (x2A.out.below b1); have KI := is_yes x1 hmA.out; have KJ := is_yes x1 hgA.out; have K2 := sub_zero x1 hmA.out (.head _) (by decide) k6A.out heA.out)
              | (go_at_call 15; refine KI.mono ?_; clear KI; rintro e w5 ⟨rfl, e5⟩; subst w5)
              | (go_at_call 15; refine KJ.mono ?_; clear KJ; rintro e w5 ⟨rfl, e5⟩; subst w5)
              | (go_at_call 16; refine K2.mono ?_; clear K2; rintro e w3 ⟨z2, rfl, x3⟩; have K3 := ren_zero x3 hmA.out (.head _) (by decide) k6A.out heA.out)
              | (go_at_call 17; refine K3.mono ?_; clear K3; rintro e w4 ⟨z3, rfl, x4⟩; have K4 := is_yes x4 hmA.out)
              | (go_at_call 15; refine K4.mono ?_; clear K4; rintro e w5 ⟨rfl, e5⟩; subst w5))
            go_ret
            exact ⟨rfl, x4.base⟩
          · have heA : Aside (Er k 40) := .inr ⟨k3, rfl⟩
            have ki : ¬ (k : Int) = 3 := by omega
            clear k3
            go_wp2_with (first
              | (go_at_call 14; refine C0.mono ?_; clear C0; rintro e w1 ⟨rfl, b1⟩; have x1 := more1 (x2A.out.below b1); have KI := is_yes x1 hmA.out; have KJ := is_yes x1 hgA.out; have K2 := sub_zero x1 hmA.out (.head _) (by decide) k6A.out heA.out)
              | (go_at_call 15; refine KI.mono ?_; clear KI; rintro e w5 ⟨rfl, e5⟩; subst w5)
              | (go_at_call 15; refine KJ.mono ?_; clear KJ; rintro e w5 ⟨rfl, e5⟩; subst w5)
              | (go_at_call 16; refine K2.mono ?_; clear K2; rintro e w3 ⟨z2, rfl, x3⟩; have K3 := ren_zero x3 hmA.out (.head _) (by decide) k6A.out heA.out)
              | (go_at_call 17; refine K3.mono ?_; clear K3; rintro e w4 ⟨z3, rfl, x4⟩; have K4 := is_yes x4 hmA.out)
              | (go_at_call 15; refine K4.mono ?_; clear K4; rintro e w5 ⟨rfl, e5⟩; subst w5))
            go_ret
            exact ⟨rfl, x4.base⟩
      · obtain ⟨m, rfl⟩ : ∃ m : Nat, v = (m : Int) := ⟨v.toNat, by omega⟩
        have C0 := com_x x2A.out (v := m) hm hgm (by omega) 1 (by decide) (by decide)
        have v0 : ¬ (m : Int) < 0 := by omega
        have v3 : ¬ (3 : Int) ≤ (m : Int) := by omega
        clear hm hgm s2 hh hg h2 g2 vb
        by_cases k3 : k = 3
        · subst k3
          have heA : Aside (Er 3 0) := .inl ⟨rfl, rfl⟩
          have hk : z % 6 = 3 := hk
          have hm1 : ∀ u : World, (Instr.makeSlice 47 (.int .i64 3) (.int .i64 3)).run Try.prog u = .ok (.slice (some ⟨u.heap.size, 0, none⟩) 3 3) (u.alloc (.cells (madeCells #[.int .u32 0] 3) 36)) := hm1
          have hm2 : ∀ u : World, (Instr.makeSlice 30 (.int .i64 3) (.int .i64 3)).run Try.prog u = .ok (.slice (some ⟨u.heap.size, 0, none⟩) 3 3) (u.alloc (.cells (madeCells #[.int .i64 0] 3) 3)) := hm2
          clear wk wk8
          go_wp2_with (first
            | (go_at_call 14; refine C0.mono ?_; clear C0; rintro e w1 ⟨z1, rfl, x1', u1⟩; have x1 := x1'.mono (l' := [(0, c0), (1, c1)]) (fun p hp => .tail _ hp); have KI := is_yes x1 hmA.out; have KJ := is_yes x1 hgA.out; have K2 := sub_zero x1 hmA.out (.head _) (by decide) k6A.out heA.out)
            | (go_at_call 15; refine KI.mono ?_; clear KI; rintro e w5 ⟨rfl, e5⟩; subst w5)
            | (go_at_call 15; refine KJ.mono ?_; clear KJ; rintro e w5 ⟨rfl, e5⟩; subst w5)
            | (go_at_call 16; refine K2.mono ?_; clear K2; rintro e w3 ⟨z2, rfl, x3⟩; have K3 := ren_zero x3 hmA.out (.head _) (by decide) k6A.out heA.out)
            | (go_at_call 17; refine K3.mono ?_; clear K3; rintro e w4 ⟨z3, rfl, x4⟩; have K4 := is_yes x4 hmA.out)
            | (go_at_call 15; refine K4.mono ?_; clear K4; rintro e w5 ⟨rfl, e5⟩; subst w5))
          go_ret
          exact ⟨rfl, x4.base⟩
        · have heA : Aside (Er k 40) := .inr ⟨k3, rfl⟩
          have ki : ¬ (k : Int) = 3 := by omega
          clear k3
          go_wp2_with (first
            | (go_at_call 14; refine C0.mono ?_; clear C0; rintro e w1 ⟨z1, rfl, x1', u1⟩; have x1 := x1'.mono (l' := [(0, c0), (1, c1)]) (fun p hp => .tail _ hp); have KI := is_yes x1 hmA.out; have KJ := is_yes x1 hgA.out; have K2 := sub_zero x1 hmA.out (.head _) (by decide) k6A.out heA.out)
            | (go_at_call 15; refine KI.mono ?_; clear KI; rintro e w5 ⟨rfl, e5⟩; subst w5)
            | (go_at_call 15; refine KJ.mono ?_; clear KJ; rintro e w5 ⟨rfl, e5⟩; subst w5)
            | (go_at_call 16; refine K2.mono ?_; clear K2; rintro e w3 ⟨z2, rfl, x3⟩; have K3 := ren_zero x3 hmA.out (.head _) (by decide) k6A.out heA.out)
            | (go_at_call 17; refine K3.mono ?_; clear K3; rintro e w4 ⟨z3, rfl, x4⟩; have K4 := is_yes x4 hmA.out)
            | (go_at_call 15; refine K4.mono ?_; clear K4; rintro e w5 ⟨rfl, e5⟩; subst w5))
          go_ret
          exact ⟨rfl, x4.base⟩
    · have no : ¬ (Mdl.empty 3 100).isNode g := fun q => g2 (empty_node.1 q)
      rw [Mdl.nodeB_false no] at KJ
      have C0 := compose_node v s2 hh hg (.inr no)
      clear hm s2 hh hg h2 g2 no
      by_cases k3 : k = 3
      · subst k3
        have heA : Aside (Er 3 0) := .inl ⟨rfl, rfl⟩
        have hk : z % 6 = 3 := hk
        have hm1 : ∀ u : World, (Instr.makeSlice 47 (.int .i64 3) (.int .i64 3)).run Try.prog u = .ok (.slice (some ⟨u.heap.size, 0, none⟩) 3 3) (u.alloc (.cells (madeCells #[.int .u32 0] 3) 36)) := hm1
        have hm2 : ∀ u : World, (Instr.makeSlice 30 (.int .i64 3) (.int .i64 3)).run Try.prog u = .ok (.slice (some ⟨u.heap.size, 0, none⟩) 3 3) (u.alloc (.cells (madeCells #[.int .i64 0] 3) 3)) := hm2
        clear wk wk8
        go_wp2_with (first
          | (go_at_call 14; refine C0.mono ?_; clear C0; rintro e w1 ⟨rfl, e1⟩; subst w1; have x1 := more1 x2A.out; have K2 := sub_zero x1 hmA.out (.head _) (by decide) k6A.out heA.out)
          | (go_at_call 15; refine KI.mono ?_; clear KI; rintro e w5 ⟨rfl, e5⟩; subst w5)
          | (go_at_call 15; refine KJ.mono ?_; clear KJ; rintro e w5 ⟨rfl, e5⟩; subst w5)
          | (go_at_call 16; refine K2.mono ?_; clear K2; rintro e w3 ⟨z2, rfl, x3⟩; have K3 := ren_zero x3 hmA.out (.head _) (by decide) k6A.out heA.out)
          | (go_at_call 17; refine K3.mono ?_; clear K3; rintro e w4 ⟨z3, rfl, x4⟩; have K4 := is_yes x4 hmA.out)
          | (go_at_call 15; refine K4.mono ?_; clear K4; rintro e w5 ⟨rfl, e5⟩; subst w5))
        go_ret
        exact ⟨rfl, x4.base⟩
      · have heA : Aside (Er k 40) := .inr ⟨k3, rfl⟩
        have ki : ¬ (k : Int) = 3 := by omega
        clear k3
        go_wp2_with (first
          | (go_at_call 14; refine C0.mono ?_; clear C0; rintro e w1 ⟨rfl, e1⟩; subst w1; have x1 := more1 x2A.out; have K2 := sub_zero x1 hmA.out (.head _) (by decide) k6A.out heA.out)
          | (go_at_call 15; refine KI.mono ?_; clear KI; rintro e w5 ⟨rfl, e5⟩; subst w5)
          | (go_at_call 15; refine KJ.mono ?_; clear KJ; rintro e w5 ⟨rfl, e5⟩; subst w5)
          | (go_at_call 16; refine K2.mono ?_; clear K2; rintro e w3 ⟨z2, rfl, x3⟩; have K3 := ren_zero x3 hmA.out (.head _) (by decide) k6A.out heA.out)
          | (go_at_call 17; refine K3.mono ?_; clear K3; rintro e w4 ⟨z3, rfl, x4⟩; have K4 := is_yes x4 hmA.out)
          | (go_at_call 15; refine K4.mono ?_; clear K4; rintro e w5 ⟨rfl, e5⟩; subst w5))
        go_ret
        exact ⟨rfl, x4.base⟩
  · have no : ¬ (Mdl.empty 3 100).isNode h := fun q => h2 (empty_node.1 q)
    rw [Mdl.nodeB_false no] at KI
    have C0 := compose_node v s2 hh hg (.inl no)
    have s3 := s2.below (nb w2 (.cells (madeCells #[.int .u32 0] k) 36))
    have s4 := s3.below (nb (w2.alloc (.cells (madeCells #[.int .u32 0] k) 36)) (.cells (madeCells #[.int .i64 0] k) 3))
    have C1 := subst_node s3 hh no (.slice (some ⟨w2.heap.size, 0, none⟩) k k)
    have C2 := rename_node s4 hh no (.slice (some ⟨w2.heap.size + 1, 0, none⟩) k k)
    have KI2 := s_is s4 h hh
    rw [Mdl.nodeB_false no] at KI2
    have B4 : Aside (Below W.heap.size W ((w2.alloc (.cells (madeCells #[.int .u32 0] k) 36)).alloc (.cells (madeCells #[.int .i64 0] k) 3))) := ((x2A.out.below (nb w2 (.cells (madeCells #[.int .u32 0] k) 36))).below (nb _ (.cells (madeCells #[.int .i64 0] k) 3))).base
    clear s2 s3 s4 hh hg h2 no KJ
    go_wp2_with (first
      | (go_at_call 14; refine C0.mono ?_; clear C0; rintro e w1 ⟨rfl, e1⟩; subst w1)
      | (go_at_call 16; refine C1.mono ?_; clear C1; rintro e w1 ⟨rfl, e1⟩; subst w1)
      | (go_at_call 17; refine C2.mono ?_; clear C2; rintro e w1 ⟨rfl, e1⟩; subst w1)
      | (go_at_call 15; refine KI.mono ?_; clear KI; rintro e w1 ⟨rfl, e1⟩; subst w1)
      | (go_at_call 15; refine KI2.mono ?_; clear KI2; rintro e w1 ⟨rfl, e1⟩; subst w1))
    go_ret
    exact ⟨rfl, B4.out⟩
end Go.Proofs.Ytbhjcaoiejdkfaa
