/-
  RelRaw, walked.
-/
import Derived.Test.YtdjjelknjojnfaaGreatRlK
namespace Go.Proofs.YtdjjelknjojnfaaGreat
open Go Go.RowKit
open Rf (nextF prevF)

theorem empty_node {n r a : Nat} : (Mdl.empty n r).isNode a ↔ a < 2 := ⟨fun h => h.resolve_right (by rintro h; cases h), .inl⟩
theorem in_two {h : Nat} (h2 : h < 2) : ∃ X : Nat → Bool, Cst X ∧ (h, X) ∈ ([(0, c0), (1, c1)] : Kl) := by
  have : h = 0 ∨ h = 1 := by omega
  rcases this with rfl | rfl
  · exact ⟨_, .inl (Eqt.refl _), .head _⟩
  · exact ⟨_, .inr (Eqt.refl _), .tail _ (.head _)⟩
theorem cst_cur {X : Nat → Bool} (h : Cst X) : Cur X := by
  rcases h with h | h
  · exact Cur.congr cur_cst0 h.symm
  · exact Cur.congr (X := fun _ => true) (fun _ _ _ _ _ => rfl) h.symm
/-- What Pair answers. -/
def pairE (n p q : Nat) : Int := if n % 2 = 1 then 160 else if 2 ^ (n / 2) ≤ p ∨ 2 ^ (n / 2) ≤ q then 40 else 0
theorem pair_raw {W w : World} {S n b : Nat} {l : Kl} (h : Sx W w S n 300 l b) (hb : b + 128 + 19 ≤ 300) (p q : Nat) (hp : p < 256) (hq : q < 256) :
    Calls Tryz.prog 12 #[.pointer (some ⟨S, 0, none⟩), .int .u8 (p : Int), .int .u8 (q : Int)] w fun e w' => (∃ z : Nat, e = .returned (.tuple #[.int .u32 (z : Int), .int .i64 (pairE n p q)])) ∧ Below W.heap.size W w' := by
  have n8 := h.n8
  unfold pairE
  by_cases c : n % 2 = 1
  · rw [if_pos c]
    refine (pair_odd h c p q).mono ?_
    rintro e w' ⟨rfl, rfl⟩
    exact ⟨⟨0, rfl⟩, h.base⟩
  · rw [if_neg c]
    by_cases d : 2 ^ (n / 2) ≤ p ∨ 2 ^ (n / 2) ≤ q
    · rw [if_pos d]
      refine (pair_var h (by omega) p q hp hq d).mono ?_
      rintro e w' ⟨rfl, rfl⟩
      exact ⟨⟨0, rfl⟩, h.base⟩
    · rw [if_neg d]
      have m : n * (8 + 8) ≤ 8 * (8 + 8) := Nat.mul_le_mul_right _ n8
      refine (pair_c h (by omega) (p := p) (q := q) (by omega) (by omega) 8 (.inl (by omega)) (by omega)).mono ?_
      rintro e w' ⟨z, rfl, x, _⟩
      exact ⟨⟨z, rfl⟩, x.base⟩
/-- What three calls with two handles answer, in worlds of a kind. -/
structure Thr (I : World → Prop) (S h g : Nat) (er : Int) : Prop where
  next : ∀ u, I u → Calls Tryz.prog 23 #[.pointer (some ⟨S, 0, none⟩), .int .u32 (h : Int), .int .u32 (g : Int)] u fun e w' => (∃ z : Nat, e = .returned (.tuple #[.int .u32 (z : Int), .int .i64 er])) ∧ I w'
  prev : ∀ u, I u → Calls Tryz.prog 24 #[.pointer (some ⟨S, 0, none⟩), .int .u32 (h : Int), .int .u32 (g : Int)] u fun e w' => (∃ z : Nat, e = .returned (.tuple #[.int .u32 (z : Int), .int .i64 er])) ∧ I w'
  reach : ∀ u, I u → Calls Tryz.prog 15 #[.pointer (some ⟨S, 0, none⟩), .int .u32 (h : Int), .int .u32 (g : Int)] u fun e w' => (∃ z k : Nat, e = .returned (.tuple #[.int .u32 (z : Int), .int .i64 (k : Int), .int .i64 er]) ∧ (er ≠ 0 → k = 0)) ∧ I w'
section
variable {W w : World} {S n h g : Nat} {X Y : Nat → Bool}
/-- All three refuse alike. -/
theorem Thr.er {I : World → Prop} (er : Int) (ne : er ≠ 0) (K : ∀ u v, I u → Calls Tryz.prog 48 #[.pointer (some ⟨S, 0, none⟩), .int .u32 (h : Int), .int .u32 (g : Int), v] u fun e w' => e = .returned (.tuple #[.int .u32 0, .int .i64 er]) ∧ Below u.heap.size u w') (keep : ∀ u w', I u → Below u.heap.size u w' → I w') : Thr I S h g er where
  next := fun u iu => (next_er er fun v => K u v iu).mono fun _ w' q => ⟨⟨0, q.1⟩, keep u w' iu q.2⟩
  prev := fun u iu => (prev_er er fun v => K u v iu).mono fun _ w' q => ⟨⟨0, q.1⟩, keep u w' iu q.2⟩
  reach := fun u iu => (reach_er er ne fun v => K u v iu).mono fun _ w' q => ⟨⟨0, 0, q.1, fun _ => rfl⟩, keep u w' iu q.2⟩
theorem Thr.even (h2 : n % 2 = 0) (cX : Cst X) (cY : Cst Y) (hx : (h, X) ∈ ([(0, c0), (1, c1)] : Kl)) (hy : (g, Y) ∈ ([(0, c0), (1, c1)] : Kl)) : Thr (fun u => Sx W u S n 300 [(0, c0), (1, c1)] 0) S h g 0 where
  next := fun u iu => (next_x iu h2 (cst_cur cX) hx hy (a := 0) (e := 0) (.inr ⟨cX, cY⟩) (by omega)).mono fun _ w' ⟨z, q, x, _⟩ => ⟨⟨z, q⟩, x.mono fun p hp => .tail _ hp⟩
  prev := fun u iu => (prev_x iu h2 (cst_cur cX) hx hy (a := 0) (e := 0) (.inr ⟨cX, cY⟩) (by omega)).mono fun _ w' ⟨z, q, x, _⟩ => ⟨⟨z, q⟩, x.mono fun p hp => .tail _ hp⟩
  reach := fun u iu => (reach_x iu h2 (cst_cur cX) hx hy (a := 0) (e := 0) (.inr ⟨cX, cY⟩) 0 rfl (by omega)).mono fun _ w' ⟨z, k, q, _, _, x, _⟩ => ⟨⟨z, k, q, fun ne => absurd rfl ne⟩, x.mono fun p hp => .tail _ hp⟩
end
set_option maxRecDepth 100000 in
set_option maxHeartbeats 8000000 in
theorem raw_walk (z : Int) (h g p q : Nat) (W : World) (z0 : 0 ≤ z) (hh : h < 4294967296) (hg : g < 4294967296) (hp : p < 256) (hq : q < 256) :
    Calls Tryz.prog 6 #[.int .u8 z, .int .u32 (h : Int), .int .u32 (g : Int), .int .u8 (p : Int), .int .u8 (q : Int)] W fun e w' => e = .returned (.bool true) ∧ Below W.heap.size W w' := by
  obtain ⟨n, hn⟩ : ∃ n : Nat, z % 8 + 1 = (n : Int) := ⟨(z % 8 + 1).toNat, by omega⟩
  have n1 : 1 ≤ n := by omega
  have n8 : n ≤ 8 := by omega
  have hz : Int.tmod z 8 = z % 8 := Int.tmod_eq_emod_of_nonneg z0
  have wh : IntKind.u32.wrap (h : Int) = (h : Int) := by rw [IntKind.wrap_u32]; omega
  have wg : IntKind.u32.wrap (g : Int) = (g : Int) := by rw [IntKind.wrap_u32]; omega
  have Kk := rknown_any W
  have KN : Aside (∀ u, Below W.heap.size W u → Calls Tryz.prog 10 #[.int .i64 (n : Int), .int .i64 300] u _) := fun u hu => new_x W u n 300 n1 n8 (by omega) (by omega) hu
  go_enter Tryz.func6, Tryz.ntmps6
  go_upto_region 8 with (first
    | (go_at_call 9; refine Kk.mono ?_; clear Kk; rintro e v1 ⟨rfl, b1⟩; have K1 := KN.out v1 b1; clear b1)
    | (go_at_call 10; refine K1.mono ?_; clear K1; rintro e w ⟨S, rfl, f2, x2, b2⟩))
  obtain ⟨F0, s2, _⟩ := f2
  have KI := s_is s2 h hh
  clear KN b2 wh wg hz
  by_cases h2 : h < 2
  · obtain ⟨X, cX, hx⟩ := in_two h2
    rw [Mdl.nodeB_true (empty_node.2 h2)] at KI
    by_cases g2 : g < 2
    · obtain ⟨Y, cY, hy⟩ := in_two g2
      have KF := fits_x x2 hx
      rw [cur_iff.2 (cst_cur cX)] at KF
      by_cases c : n % 2 = 1
      · obtain ⟨I, hI⟩ : ∃ I : World → Prop, I = fun u => Sx W u S n 300 [(0, c0), (1, c1)] 0 := ⟨_, rfl⟩
        have T : Aside (Thr I S h g 160) := by
          rw [hI]
          exact Thr.er 160 (by decide) (fun u v iu => (ranswer_odd v iu hx hy c).mono fun e w' k => ⟨k.1, by rw [k.2]; exact Below.refl _ _⟩) (fun u w' iu k => iu.below k)
        have KF : Calls Tryz.prog 21 #[.pointer (some ⟨S, 0, none⟩), .int .u32 (h : Int)] w fun e w' => e = .returned (.bool true) ∧ I w' := KF.mono fun e w' k => ⟨k.1, by rw [hI]; exact x2.below k.2⟩
        have KJA : Aside (∀ u, I u → Calls Tryz.prog 31 #[.pointer (some ⟨S, 0, none⟩), .int .u32 (g : Int)] u fun e w' => e = .returned (.bool true) ∧ w' = u) := fun u iu => is_x1 (by rw [hI] at iu; exact iu) hy
        have KPA : ∀ u, I u → Calls Tryz.prog 12 #[.pointer (some ⟨S, 0, none⟩), .int .u8 (p : Int), .int .u8 (q : Int)] u fun e w' => (∃ z : Nat, e = .returned (.tuple #[.int .u32 (z : Int), .int .i64 (pairE n p q)])) ∧ Below W.heap.size W w' := fun u iu => pair_raw (by rw [hI] at iu; exact iu) (by omega) p q hp hq
        clear hI x2 s2 hx hy cX cY h2 g2
        have pe : pairE n p q = 160 := by unfold pairE; rw [if_pos c]
        rw [pe] at KPA
        have KP : Aside _ := KPA
        clear KPA pe
        have m1 : Int.tmod (n : Int) 2 = 1 := by rw [Int.tmod_eq_emod_of_nonneg (by omega)]; omega
        have m2 : (n : Int) % 2 = 1 := by omega
        clear c n8
        go_wp2_with (first
          | (go_at_call 31; refine KI.mono ?_; clear KI; rintro e v1 ⟨rfl, e1⟩; subst v1)
          | (go_at_call 21; refine KF.mono ?_; clear KF; rintro e v2 ⟨rfl, i2⟩; have K3 := T.out.next v2 i2; have KJ := KJA.out v2 i2; clear i2)
          | (go_at_call 31; refine KJ.mono ?_; clear KJ; rintro e v1 ⟨rfl, e1⟩; subst v1)
          | (go_at_call 23; refine K3.mono ?_; clear K3; rintro e v3 ⟨⟨z3, rfl⟩, i3⟩; have K4 := T.out.prev v3 i3; clear i3)
          | (go_at_call 24; refine K4.mono ?_; clear K4; rintro e v4 ⟨⟨z4, rfl⟩, i4⟩; have K5 := T.out.reach v4 i4; clear i4)
          | (go_at_call 15; refine K5.mono ?_; clear K5; rintro e v5 ⟨⟨z5, k5, rfl, hk5⟩, i5⟩; clear hk5; have K6 := KP.out v5 i5; clear i5)
          | (go_at_call 12; refine K6.mono ?_; clear K6; rintro e v6 ⟨⟨z6, rfl⟩, b6⟩))
        go_ret
        exact ⟨rfl, b6⟩
      · obtain ⟨I, hI⟩ : ∃ I : World → Prop, I = fun u => Sx W u S n 300 [(0, c0), (1, c1)] 0 := ⟨_, rfl⟩
        have T : Aside (Thr I S h g 0) := by
          rw [hI]
          exact Thr.even (by omega) cX cY hx hy
        have KF : Calls Tryz.prog 21 #[.pointer (some ⟨S, 0, none⟩), .int .u32 (h : Int)] w fun e w' => e = .returned (.bool true) ∧ I w' := KF.mono fun e w' k => ⟨k.1, by rw [hI]; exact x2.below k.2⟩
        have KJA : Aside (∀ u, I u → Calls Tryz.prog 31 #[.pointer (some ⟨S, 0, none⟩), .int .u32 (g : Int)] u fun e w' => e = .returned (.bool true) ∧ w' = u) := fun u iu => is_x1 (by rw [hI] at iu; exact iu) hy
        have KPA : ∀ u, I u → Calls Tryz.prog 12 #[.pointer (some ⟨S, 0, none⟩), .int .u8 (p : Int), .int .u8 (q : Int)] u fun e w' => (∃ z : Nat, e = .returned (.tuple #[.int .u32 (z : Int), .int .i64 (pairE n p q)])) ∧ Below W.heap.size W w' := fun u iu => pair_raw (by rw [hI] at iu; exact iu) (by omega) p q hp hq
        clear hI x2 s2 hx hy cX cY h2 g2
        by_cases d : 2 ^ (n / 2) ≤ p ∨ 2 ^ (n / 2) ≤ q
        · have pe : pairE n p q = 40 := by unfold pairE; rw [if_neg c, if_pos d]
          rw [pe] at KPA
          have KP : Aside _ := KPA
          clear KPA pe
          have m1 : Int.tmod (n : Int) 2 = 0 := by rw [Int.tmod_eq_emod_of_nonneg (by omega)]; omega
          have m2 : (n : Int) % 2 = 0 := by omega
          have t1 : Int.tdiv (n : Int) 2 = ((n / 2 : Nat) : Int) := by rw [Int.tdiv_eq_ediv_of_nonneg (by omega)]; omega
          have t2 : (n : Int) / 2 = ((n / 2 : Nat) : Int) := by omega
          have k4 : n / 2 ≤ 4 := by omega
          obtain ⟨P, hP⟩ : ∃ P, 2 ^ (n / 2) = P := ⟨_, rfl⟩
          have P16 : P ≤ 16 := by rw [← hP]; exact pw_half n8
          rw [hP] at d
          have hPi : (2 : Int) ^ (n / 2) = (P : Int) := by rw [← hP]; push_cast; rfl
          generalize n / 2 = k at t1 t2 k4 hPi
          have k64 : min k 64 = k := by omega
          have kw : IntKind.u64.wrap (k : Int) = (k : Int) := by rw [IntKind.wrap_u64]; omega
          have pw : IntKind.i64.wrap (p : Int) = (p : Int) := by rw [IntKind.wrap_i64]; omega
          have qw : IntKind.i64.wrap (q : Int) = (q : Int) := by rw [IntKind.wrap_i64]; omega
          have Pw : IntKind.i64.wrap (P : Int) = (P : Int) := by rw [IntKind.wrap_i64]; omega
          clear hP c n8
          by_cases dp : P ≤ p
          · have dp : (P : Int) ≤ (p : Int) := by omega
            clear d
            go_wp2_with (first
              | (go_at_call 31; refine KI.mono ?_; clear KI; rintro e v1 ⟨rfl, e1⟩; subst v1)
              | (go_at_call 21; refine KF.mono ?_; clear KF; rintro e v2 ⟨rfl, i2⟩; have K3 := T.out.next v2 i2; have KJ := KJA.out v2 i2; clear i2)
              | (go_at_call 31; refine KJ.mono ?_; clear KJ; rintro e v1 ⟨rfl, e1⟩; subst v1)
              | (go_at_call 23; refine K3.mono ?_; clear K3; rintro e v3 ⟨⟨z3, rfl⟩, i3⟩; have K4 := T.out.prev v3 i3; clear i3)
              | (go_at_call 24; refine K4.mono ?_; clear K4; rintro e v4 ⟨⟨z4, rfl⟩, i4⟩; have K5 := T.out.reach v4 i4; clear i4)
              | (go_at_call 15; refine K5.mono ?_; clear K5; rintro e v5 ⟨⟨z5, k5, rfl, hk5⟩, i5⟩; clear hk5; have K6 := KP.out v5 i5; clear i5)
              | (go_at_call 12; refine K6.mono ?_; clear K6; rintro e v6 ⟨⟨z6, rfl⟩, b6⟩))
            go_ret
            exact ⟨rfl, b6⟩
          · have dp' : ¬ (P : Int) ≤ (p : Int) := by omega
            have dq : (P : Int) ≤ (q : Int) := by have := d.resolve_left dp; omega
            clear d dp
            go_wp2_with (first
              | (go_at_call 31; refine KI.mono ?_; clear KI; rintro e v1 ⟨rfl, e1⟩; subst v1)
              | (go_at_call 21; refine KF.mono ?_; clear KF; rintro e v2 ⟨rfl, i2⟩; have K3 := T.out.next v2 i2; have KJ := KJA.out v2 i2; clear i2)
              | (go_at_call 31; refine KJ.mono ?_; clear KJ; rintro e v1 ⟨rfl, e1⟩; subst v1)
              | (go_at_call 23; refine K3.mono ?_; clear K3; rintro e v3 ⟨⟨z3, rfl⟩, i3⟩; have K4 := T.out.prev v3 i3; clear i3)
              | (go_at_call 24; refine K4.mono ?_; clear K4; rintro e v4 ⟨⟨z4, rfl⟩, i4⟩; have K5 := T.out.reach v4 i4; clear i4)
              | (go_at_call 15; refine K5.mono ?_; clear K5; rintro e v5 ⟨⟨z5, k5, rfl, hk5⟩, i5⟩; clear hk5; have K6 := KP.out v5 i5; clear i5)
              | (go_at_call 12; refine K6.mono ?_; clear K6; rintro e v6 ⟨⟨z6, rfl⟩, b6⟩))
            go_ret
            exact ⟨rfl, b6⟩
        · have pe : pairE n p q = 0 := by unfold pairE; rw [if_neg c, if_neg d]
          rw [pe] at KPA
          have KP : Aside _ := KPA
          clear KPA pe
          have m1 : Int.tmod (n : Int) 2 = 0 := by rw [Int.tmod_eq_emod_of_nonneg (by omega)]; omega
          have m2 : (n : Int) % 2 = 0 := by omega
          have t1 : Int.tdiv (n : Int) 2 = ((n / 2 : Nat) : Int) := by rw [Int.tdiv_eq_ediv_of_nonneg (by omega)]; omega
          have t2 : (n : Int) / 2 = ((n / 2 : Nat) : Int) := by omega
          have k4 : n / 2 ≤ 4 := by omega
          obtain ⟨P, hP⟩ : ∃ P, 2 ^ (n / 2) = P := ⟨_, rfl⟩
          have P16 : P ≤ 16 := by rw [← hP]; exact pw_half n8
          rw [hP] at d
          have hPi : (2 : Int) ^ (n / 2) = (P : Int) := by rw [← hP]; push_cast; rfl
          generalize n / 2 = k at t1 t2 k4 hPi
          have k64 : min k 64 = k := by omega
          have kw : IntKind.u64.wrap (k : Int) = (k : Int) := by rw [IntKind.wrap_u64]; omega
          have pw : IntKind.i64.wrap (p : Int) = (p : Int) := by rw [IntKind.wrap_i64]; omega
          have qw : IntKind.i64.wrap (q : Int) = (q : Int) := by rw [IntKind.wrap_i64]; omega
          have Pw : IntKind.i64.wrap (P : Int) = (P : Int) := by rw [IntKind.wrap_i64]; omega
          clear hP c n8
          have dp : ¬ (P : Int) ≤ (p : Int) := by omega
          have dq : ¬ (P : Int) ≤ (q : Int) := by omega
          clear d
          go_wp2_with (first
            | (go_at_call 31; refine KI.mono ?_; clear KI; rintro e v1 ⟨rfl, e1⟩; subst v1)
            | (go_at_call 21; refine KF.mono ?_; clear KF; rintro e v2 ⟨rfl, i2⟩; have K3 := T.out.next v2 i2; have KJ := KJA.out v2 i2; clear i2)
            | (go_at_call 31; refine KJ.mono ?_; clear KJ; rintro e v1 ⟨rfl, e1⟩; subst v1)
            | (go_at_call 23; refine K3.mono ?_; clear K3; rintro e v3 ⟨⟨z3, rfl⟩, i3⟩; have K4 := T.out.prev v3 i3; clear i3)
            | (go_at_call 24; refine K4.mono ?_; clear K4; rintro e v4 ⟨⟨z4, rfl⟩, i4⟩; have K5 := T.out.reach v4 i4; clear i4)
            | (go_at_call 15; refine K5.mono ?_; clear K5; rintro e v5 ⟨⟨z5, k5, rfl, hk5⟩, i5⟩; clear hk5; have K6 := KP.out v5 i5; clear i5)
            | (go_at_call 12; refine K6.mono ?_; clear K6; rintro e v6 ⟨⟨z6, rfl⟩, b6⟩))
          go_ret
          exact ⟨rfl, b6⟩
    · have KF := fits_x x2 hx
      rw [cur_iff.2 (cst_cur cX)] at KF
      obtain ⟨I, hI⟩ : ∃ I : World → Prop, I = fun u => Below w.heap.size w u := ⟨_, rfl⟩
      have T : Aside (Thr I S h g 101) := by
        rw [hI]
        exact Thr.er 101 (by decide) (fun u v iu => (ranswer_node v (s2.below iu) hh hg (.inr fun k => g2 (empty_node.1 k))).mono fun e w' k => ⟨k.1, by rw [k.2]; exact Below.refl _ _⟩) (fun u w' iu k => Rf.below_far iu k)
      have KF : Calls Tryz.prog 21 #[.pointer (some ⟨S, 0, none⟩), .int .u32 (h : Int)] w fun e w' => e = .returned (.bool true) ∧ I w' := KF.mono fun e w' k => ⟨k.1, by rw [hI]; exact k.2⟩
      have KJA : Aside (∀ u, I u → Calls Tryz.prog 31 #[.pointer (some ⟨S, 0, none⟩), .int .u32 (g : Int)] u fun e w' => e = .returned (.bool false) ∧ w' = u) := fun u iu => by
        rw [hI] at iu
        have := s_is (s2.below iu) g hg
        rwa [Mdl.nodeB_false fun k => g2 (empty_node.1 k)] at this
      have KPA : ∀ u, I u → Calls Tryz.prog 12 #[.pointer (some ⟨S, 0, none⟩), .int .u8 (p : Int), .int .u8 (q : Int)] u fun e w' => (∃ z : Nat, e = .returned (.tuple #[.int .u32 (z : Int), .int .i64 (pairE n p q)])) ∧ Below W.heap.size W w' := fun u iu => pair_raw (x2.below (by rw [hI] at iu; exact iu)) (by omega) p q hp hq
      clear hI x2 s2 hx cX h2 g2
      by_cases c : n % 2 = 1
      · have pe : pairE n p q = 160 := by unfold pairE; rw [if_pos c]
        rw [pe] at KPA
        have KP : Aside _ := KPA
        clear KPA pe
        have m1 : Int.tmod (n : Int) 2 = 1 := by rw [Int.tmod_eq_emod_of_nonneg (by omega)]; omega
        have m2 : (n : Int) % 2 = 1 := by omega
        clear c n8
        go_wp2_with (first
          | (go_at_call 31; refine KI.mono ?_; clear KI; rintro e v1 ⟨rfl, e1⟩; subst v1)
          | (go_at_call 21; refine KF.mono ?_; clear KF; rintro e v2 ⟨rfl, i2⟩; have K3 := T.out.next v2 i2; have KJ := KJA.out v2 i2; clear i2)
          | (go_at_call 31; refine KJ.mono ?_; clear KJ; rintro e v1 ⟨rfl, e1⟩; subst v1)
          | (go_at_call 23; refine K3.mono ?_; clear K3; rintro e v3 ⟨⟨z3, rfl⟩, i3⟩; have K4 := T.out.prev v3 i3; clear i3)
          | (go_at_call 24; refine K4.mono ?_; clear K4; rintro e v4 ⟨⟨z4, rfl⟩, i4⟩; have K5 := T.out.reach v4 i4; clear i4)
          | (go_at_call 15; refine K5.mono ?_; clear K5; rintro e v5 ⟨⟨z5, k5, rfl, hk5⟩, i5⟩; obtain rfl := hk5 (by decide); have K6 := KP.out v5 i5; clear i5)
          | (go_at_call 12; refine K6.mono ?_; clear K6; rintro e v6 ⟨⟨z6, rfl⟩, b6⟩))
        go_ret
        exact ⟨rfl, b6⟩
      · by_cases d : 2 ^ (n / 2) ≤ p ∨ 2 ^ (n / 2) ≤ q
        · have pe : pairE n p q = 40 := by unfold pairE; rw [if_neg c, if_pos d]
          rw [pe] at KPA
          have KP : Aside _ := KPA
          clear KPA pe
          have m1 : Int.tmod (n : Int) 2 = 0 := by rw [Int.tmod_eq_emod_of_nonneg (by omega)]; omega
          have m2 : (n : Int) % 2 = 0 := by omega
          have t1 : Int.tdiv (n : Int) 2 = ((n / 2 : Nat) : Int) := by rw [Int.tdiv_eq_ediv_of_nonneg (by omega)]; omega
          have t2 : (n : Int) / 2 = ((n / 2 : Nat) : Int) := by omega
          have k4 : n / 2 ≤ 4 := by omega
          obtain ⟨P, hP⟩ : ∃ P, 2 ^ (n / 2) = P := ⟨_, rfl⟩
          have P16 : P ≤ 16 := by rw [← hP]; exact pw_half n8
          rw [hP] at d
          have hPi : (2 : Int) ^ (n / 2) = (P : Int) := by rw [← hP]; push_cast; rfl
          generalize n / 2 = k at t1 t2 k4 hPi
          have k64 : min k 64 = k := by omega
          have kw : IntKind.u64.wrap (k : Int) = (k : Int) := by rw [IntKind.wrap_u64]; omega
          have pw : IntKind.i64.wrap (p : Int) = (p : Int) := by rw [IntKind.wrap_i64]; omega
          have qw : IntKind.i64.wrap (q : Int) = (q : Int) := by rw [IntKind.wrap_i64]; omega
          have Pw : IntKind.i64.wrap (P : Int) = (P : Int) := by rw [IntKind.wrap_i64]; omega
          clear hP c n8
          by_cases dp : P ≤ p
          · have dp : (P : Int) ≤ (p : Int) := by omega
            clear d
            go_wp2_with (first
              | (go_at_call 31; refine KI.mono ?_; clear KI; rintro e v1 ⟨rfl, e1⟩; subst v1)
              | (go_at_call 21; refine KF.mono ?_; clear KF; rintro e v2 ⟨rfl, i2⟩; have K3 := T.out.next v2 i2; have KJ := KJA.out v2 i2; clear i2)
              | (go_at_call 31; refine KJ.mono ?_; clear KJ; rintro e v1 ⟨rfl, e1⟩; subst v1)
              | (go_at_call 23; refine K3.mono ?_; clear K3; rintro e v3 ⟨⟨z3, rfl⟩, i3⟩; have K4 := T.out.prev v3 i3; clear i3)
              | (go_at_call 24; refine K4.mono ?_; clear K4; rintro e v4 ⟨⟨z4, rfl⟩, i4⟩; have K5 := T.out.reach v4 i4; clear i4)
              | (go_at_call 15; refine K5.mono ?_; clear K5; rintro e v5 ⟨⟨z5, k5, rfl, hk5⟩, i5⟩; obtain rfl := hk5 (by decide); have K6 := KP.out v5 i5; clear i5)
              | (go_at_call 12; refine K6.mono ?_; clear K6; rintro e v6 ⟨⟨z6, rfl⟩, b6⟩))
            go_ret
            exact ⟨rfl, b6⟩
          · have dp' : ¬ (P : Int) ≤ (p : Int) := by omega
            have dq : (P : Int) ≤ (q : Int) := by have := d.resolve_left dp; omega
            clear d dp
            go_wp2_with (first
              | (go_at_call 31; refine KI.mono ?_; clear KI; rintro e v1 ⟨rfl, e1⟩; subst v1)
              | (go_at_call 21; refine KF.mono ?_; clear KF; rintro e v2 ⟨rfl, i2⟩; have K3 := T.out.next v2 i2; have KJ := KJA.out v2 i2; clear i2)
              | (go_at_call 31; refine KJ.mono ?_; clear KJ; rintro e v1 ⟨rfl, e1⟩; subst v1)
              | (go_at_call 23; refine K3.mono ?_; clear K3; rintro e v3 ⟨⟨z3, rfl⟩, i3⟩; have K4 := T.out.prev v3 i3; clear i3)
              | (go_at_call 24; refine K4.mono ?_; clear K4; rintro e v4 ⟨⟨z4, rfl⟩, i4⟩; have K5 := T.out.reach v4 i4; clear i4)
              | (go_at_call 15; refine K5.mono ?_; clear K5; rintro e v5 ⟨⟨z5, k5, rfl, hk5⟩, i5⟩; obtain rfl := hk5 (by decide); have K6 := KP.out v5 i5; clear i5)
              | (go_at_call 12; refine K6.mono ?_; clear K6; rintro e v6 ⟨⟨z6, rfl⟩, b6⟩))
            go_ret
            exact ⟨rfl, b6⟩
        · have pe : pairE n p q = 0 := by unfold pairE; rw [if_neg c, if_neg d]
          rw [pe] at KPA
          have KP : Aside _ := KPA
          clear KPA pe
          have m1 : Int.tmod (n : Int) 2 = 0 := by rw [Int.tmod_eq_emod_of_nonneg (by omega)]; omega
          have m2 : (n : Int) % 2 = 0 := by omega
          have t1 : Int.tdiv (n : Int) 2 = ((n / 2 : Nat) : Int) := by rw [Int.tdiv_eq_ediv_of_nonneg (by omega)]; omega
          have t2 : (n : Int) / 2 = ((n / 2 : Nat) : Int) := by omega
          have k4 : n / 2 ≤ 4 := by omega
          obtain ⟨P, hP⟩ : ∃ P, 2 ^ (n / 2) = P := ⟨_, rfl⟩
          have P16 : P ≤ 16 := by rw [← hP]; exact pw_half n8
          rw [hP] at d
          have hPi : (2 : Int) ^ (n / 2) = (P : Int) := by rw [← hP]; push_cast; rfl
          generalize n / 2 = k at t1 t2 k4 hPi
          have k64 : min k 64 = k := by omega
          have kw : IntKind.u64.wrap (k : Int) = (k : Int) := by rw [IntKind.wrap_u64]; omega
          have pw : IntKind.i64.wrap (p : Int) = (p : Int) := by rw [IntKind.wrap_i64]; omega
          have qw : IntKind.i64.wrap (q : Int) = (q : Int) := by rw [IntKind.wrap_i64]; omega
          have Pw : IntKind.i64.wrap (P : Int) = (P : Int) := by rw [IntKind.wrap_i64]; omega
          clear hP c n8
          have dp : ¬ (P : Int) ≤ (p : Int) := by omega
          have dq : ¬ (P : Int) ≤ (q : Int) := by omega
          clear d
          go_wp2_with (first
            | (go_at_call 31; refine KI.mono ?_; clear KI; rintro e v1 ⟨rfl, e1⟩; subst v1)
            | (go_at_call 21; refine KF.mono ?_; clear KF; rintro e v2 ⟨rfl, i2⟩; have K3 := T.out.next v2 i2; have KJ := KJA.out v2 i2; clear i2)
            | (go_at_call 31; refine KJ.mono ?_; clear KJ; rintro e v1 ⟨rfl, e1⟩; subst v1)
            | (go_at_call 23; refine K3.mono ?_; clear K3; rintro e v3 ⟨⟨z3, rfl⟩, i3⟩; have K4 := T.out.prev v3 i3; clear i3)
            | (go_at_call 24; refine K4.mono ?_; clear K4; rintro e v4 ⟨⟨z4, rfl⟩, i4⟩; have K5 := T.out.reach v4 i4; clear i4)
            | (go_at_call 15; refine K5.mono ?_; clear K5; rintro e v5 ⟨⟨z5, k5, rfl, hk5⟩, i5⟩; obtain rfl := hk5 (by decide); have K6 := KP.out v5 i5; clear i5)
            | (go_at_call 12; refine K6.mono ?_; clear K6; rintro e v6 ⟨⟨z6, rfl⟩, b6⟩))
          go_ret
          exact ⟨rfl, b6⟩
  · have KF := fits_bad s2 hh fun k => h2 (empty_node.1 k)
    rw [Mdl.nodeB_false fun k => h2 (empty_node.1 k)] at KI
    obtain ⟨I, hI⟩ : ∃ I : World → Prop, I = fun u => Below w.heap.size w u := ⟨_, rfl⟩
    have T : Aside (Thr I S h g 101) := by
      rw [hI]
      exact Thr.er 101 (by decide) (fun u v iu => (ranswer_node v (s2.below iu) hh hg (.inl fun k => h2 (empty_node.1 k))).mono fun e w' k => ⟨k.1, by rw [k.2]; exact Below.refl _ _⟩) (fun u w' iu k => Rf.below_far iu k)
    have KF : Calls Tryz.prog 21 #[.pointer (some ⟨S, 0, none⟩), .int .u32 (h : Int)] w fun e w' => e = .returned (.bool false) ∧ I w' := KF.mono fun e w' k => ⟨k.1, by rw [hI, k.2]; exact Below.refl _ _⟩
    have KPA : ∀ u, I u → Calls Tryz.prog 12 #[.pointer (some ⟨S, 0, none⟩), .int .u8 (p : Int), .int .u8 (q : Int)] u fun e w' => (∃ z : Nat, e = .returned (.tuple #[.int .u32 (z : Int), .int .i64 (pairE n p q)])) ∧ Below W.heap.size W w' := fun u iu => pair_raw (x2.below (by rw [hI] at iu; exact iu)) (by omega) p q hp hq
    clear hI x2 s2 h2
    by_cases c : n % 2 = 1
    · have pe : pairE n p q = 160 := by unfold pairE; rw [if_pos c]
      rw [pe] at KPA
      have KP : Aside _ := KPA
      clear KPA pe
      have m1 : Int.tmod (n : Int) 2 = 1 := by rw [Int.tmod_eq_emod_of_nonneg (by omega)]; omega
      have m2 : (n : Int) % 2 = 1 := by omega
      clear c n8
      go_wp2_with (first
        | (go_at_call 31; refine KI.mono ?_; clear KI; rintro e v1 ⟨rfl, e1⟩; subst v1)
        | (go_at_call 21; refine KF.mono ?_; clear KF; rintro e v2 ⟨rfl, i2⟩; have K3 := T.out.next v2 i2; clear i2)
        | (go_at_call 23; refine K3.mono ?_; clear K3; rintro e v3 ⟨⟨z3, rfl⟩, i3⟩; have K4 := T.out.prev v3 i3; clear i3)
        | (go_at_call 24; refine K4.mono ?_; clear K4; rintro e v4 ⟨⟨z4, rfl⟩, i4⟩; have K5 := T.out.reach v4 i4; clear i4)
        | (go_at_call 15; refine K5.mono ?_; clear K5; rintro e v5 ⟨⟨z5, k5, rfl, hk5⟩, i5⟩; obtain rfl := hk5 (by decide); have K6 := KP.out v5 i5; clear i5)
        | (go_at_call 12; refine K6.mono ?_; clear K6; rintro e v6 ⟨⟨z6, rfl⟩, b6⟩))
      go_ret
      exact ⟨rfl, b6⟩
    · by_cases d : 2 ^ (n / 2) ≤ p ∨ 2 ^ (n / 2) ≤ q
      · have pe : pairE n p q = 40 := by unfold pairE; rw [if_neg c, if_pos d]
        rw [pe] at KPA
        have KP : Aside _ := KPA
        clear KPA pe
        have m1 : Int.tmod (n : Int) 2 = 0 := by rw [Int.tmod_eq_emod_of_nonneg (by omega)]; omega
        have m2 : (n : Int) % 2 = 0 := by omega
        have t1 : Int.tdiv (n : Int) 2 = ((n / 2 : Nat) : Int) := by rw [Int.tdiv_eq_ediv_of_nonneg (by omega)]; omega
        have t2 : (n : Int) / 2 = ((n / 2 : Nat) : Int) := by omega
        have k4 : n / 2 ≤ 4 := by omega
        obtain ⟨P, hP⟩ : ∃ P, 2 ^ (n / 2) = P := ⟨_, rfl⟩
        have P16 : P ≤ 16 := by rw [← hP]; exact pw_half n8
        rw [hP] at d
        have hPi : (2 : Int) ^ (n / 2) = (P : Int) := by rw [← hP]; push_cast; rfl
        generalize n / 2 = k at t1 t2 k4 hPi
        have k64 : min k 64 = k := by omega
        have kw : IntKind.u64.wrap (k : Int) = (k : Int) := by rw [IntKind.wrap_u64]; omega
        have pw : IntKind.i64.wrap (p : Int) = (p : Int) := by rw [IntKind.wrap_i64]; omega
        have qw : IntKind.i64.wrap (q : Int) = (q : Int) := by rw [IntKind.wrap_i64]; omega
        have Pw : IntKind.i64.wrap (P : Int) = (P : Int) := by rw [IntKind.wrap_i64]; omega
        clear hP c n8
        by_cases dp : P ≤ p
        · have dp : (P : Int) ≤ (p : Int) := by omega
          clear d
          go_wp2_with (first
            | (go_at_call 31; refine KI.mono ?_; clear KI; rintro e v1 ⟨rfl, e1⟩; subst v1)
            | (go_at_call 21; refine KF.mono ?_; clear KF; rintro e v2 ⟨rfl, i2⟩; have K3 := T.out.next v2 i2; clear i2)
            | (go_at_call 23; refine K3.mono ?_; clear K3; rintro e v3 ⟨⟨z3, rfl⟩, i3⟩; have K4 := T.out.prev v3 i3; clear i3)
            | (go_at_call 24; refine K4.mono ?_; clear K4; rintro e v4 ⟨⟨z4, rfl⟩, i4⟩; have K5 := T.out.reach v4 i4; clear i4)
            | (go_at_call 15; refine K5.mono ?_; clear K5; rintro e v5 ⟨⟨z5, k5, rfl, hk5⟩, i5⟩; obtain rfl := hk5 (by decide); have K6 := KP.out v5 i5; clear i5)
            | (go_at_call 12; refine K6.mono ?_; clear K6; rintro e v6 ⟨⟨z6, rfl⟩, b6⟩))
          go_ret
          exact ⟨rfl, b6⟩
        · have dp' : ¬ (P : Int) ≤ (p : Int) := by omega
          have dq : (P : Int) ≤ (q : Int) := by have := d.resolve_left dp; omega
          clear d dp
          go_wp2_with (first
            | (go_at_call 31; refine KI.mono ?_; clear KI; rintro e v1 ⟨rfl, e1⟩; subst v1)
            | (go_at_call 21; refine KF.mono ?_; clear KF; rintro e v2 ⟨rfl, i2⟩; have K3 := T.out.next v2 i2; clear i2)
            | (go_at_call 23; refine K3.mono ?_; clear K3; rintro e v3 ⟨⟨z3, rfl⟩, i3⟩; have K4 := T.out.prev v3 i3; clear i3)
            | (go_at_call 24; refine K4.mono ?_; clear K4; rintro e v4 ⟨⟨z4, rfl⟩, i4⟩; have K5 := T.out.reach v4 i4; clear i4)
            | (go_at_call 15; refine K5.mono ?_; clear K5; rintro e v5 ⟨⟨z5, k5, rfl, hk5⟩, i5⟩; obtain rfl := hk5 (by decide); have K6 := KP.out v5 i5; clear i5)
            | (go_at_call 12; refine K6.mono ?_; clear K6; rintro e v6 ⟨⟨z6, rfl⟩, b6⟩))
          go_ret
          exact ⟨rfl, b6⟩
      · have pe : pairE n p q = 0 := by unfold pairE; rw [if_neg c, if_neg d]
        rw [pe] at KPA
        have KP : Aside _ := KPA
        clear KPA pe
        have m1 : Int.tmod (n : Int) 2 = 0 := by rw [Int.tmod_eq_emod_of_nonneg (by omega)]; omega
        have m2 : (n : Int) % 2 = 0 := by omega
        have t1 : Int.tdiv (n : Int) 2 = ((n / 2 : Nat) : Int) := by rw [Int.tdiv_eq_ediv_of_nonneg (by omega)]; omega
        have t2 : (n : Int) / 2 = ((n / 2 : Nat) : Int) := by omega
        have k4 : n / 2 ≤ 4 := by omega
        obtain ⟨P, hP⟩ : ∃ P, 2 ^ (n / 2) = P := ⟨_, rfl⟩
        have P16 : P ≤ 16 := by rw [← hP]; exact pw_half n8
        rw [hP] at d
        have hPi : (2 : Int) ^ (n / 2) = (P : Int) := by rw [← hP]; push_cast; rfl
        generalize n / 2 = k at t1 t2 k4 hPi
        have k64 : min k 64 = k := by omega
        have kw : IntKind.u64.wrap (k : Int) = (k : Int) := by rw [IntKind.wrap_u64]; omega
        have pw : IntKind.i64.wrap (p : Int) = (p : Int) := by rw [IntKind.wrap_i64]; omega
        have qw : IntKind.i64.wrap (q : Int) = (q : Int) := by rw [IntKind.wrap_i64]; omega
        have Pw : IntKind.i64.wrap (P : Int) = (P : Int) := by rw [IntKind.wrap_i64]; omega
        clear hP c n8
        have dp : ¬ (P : Int) ≤ (p : Int) := by omega
        have dq : ¬ (P : Int) ≤ (q : Int) := by omega
        clear d
        go_wp2_with (first
          | (go_at_call 31; refine KI.mono ?_; clear KI; rintro e v1 ⟨rfl, e1⟩; subst v1)
          | (go_at_call 21; refine KF.mono ?_; clear KF; rintro e v2 ⟨rfl, i2⟩; have K3 := T.out.next v2 i2; clear i2)
          | (go_at_call 23; refine K3.mono ?_; clear K3; rintro e v3 ⟨⟨z3, rfl⟩, i3⟩; have K4 := T.out.prev v3 i3; clear i3)
          | (go_at_call 24; refine K4.mono ?_; clear K4; rintro e v4 ⟨⟨z4, rfl⟩, i4⟩; have K5 := T.out.reach v4 i4; clear i4)
          | (go_at_call 15; refine K5.mono ?_; clear K5; rintro e v5 ⟨⟨z5, k5, rfl, hk5⟩, i5⟩; obtain rfl := hk5 (by decide); have K6 := KP.out v5 i5; clear i5)
          | (go_at_call 12; refine K6.mono ?_; clear K6; rintro e v6 ⟨⟨z6, rfl⟩, b6⟩))
        go_ret
        exact ⟨rfl, b6⟩
end Go.Proofs.YtdjjelknjojnfaaGreat
