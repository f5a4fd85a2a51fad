/-
  QuantFull, walked.
-/
import Derived.Test.YtlhanbjjlifjjaaGreatFullA
namespace Go.Proofs.YtlhanbjjlifjjaaGreat
open Go Go.RowKit
open Rf (tab word IsTab TabsAt IntsAt prt dedup laid laid_turned laid_tab)

set_option maxRecDepth 100000 in
set_option maxHeartbeats 4000000 in
theorem full_no (F : Nat → Bool) (m : Nat) (z : Int) (W : World) (hm : m < 2 ^ 8) (z0 : 0 ≤ z) :
    Calls Tryz.prog 5 #[tab F, .int .u8 (m : Int), .int .u8 z, .bool false] W fun e w' => e = .returned (.bool true) ∧ Below W.heap.size W w' := by
  obtain ⟨q, hq⟩ : ∃ q : Nat, z % 40 = (q : Int) := ⟨(z % 40).toNat, by omega⟩
  have q40 : q < 40 := by omega
  have hz : Int.tmod z 40 = z % 40 := Int.tmod_eq_emod_of_nonneg z0
  have hwq : IntKind.i64.wrap (q : Int) = (q : Int) := by rw [IntKind.wrap_i64]; omega
  obtain ⟨N, hN⟩ : ∃ N, sizeF F = N := ⟨_, rfl⟩
  have N1 : N ≤ 511 := by have := sizeF_le F; omega
  have KS := sizeF_any F
  rw [hN] at KS
  have hNA : Aside (sizeF F = N) := hN
  clear hN
  conv in #[tab F, Value.int .u8 (m : Int), Value.int .u8 z, Value.bool false] => unfold tab
  go_enter Tryz.func5, Tryz.ntmps5
  go_upto_region 1 with fail
  have TF := IsTab.new W F
  have B3 := nb W (.cells #[.int .u64 (word F 0 : Int), .int .u64 (word F 1 : Int), .int .u64 (word F 2 : Int), .int .u64 (word F 3 : Int)] 24)
  generalize W.alloc (.cells #[.int .u64 (word F 0 : Int), .int .u64 (word F 1 : Int), .int .u64 (word F 2 : Int), .int .u64 (word F 3 : Int)] 24) = v3 at TF B3 ⊢
  have B3A : Aside (Below W.heap.size W v3) := B3
  clear B3
  generalize W.heap.size = bf at TF ⊢
  have Kk := known_any v3
  go_upto_region 3 with (first
    | (go_at_call 9; refine Kk.mono ?_; clear Kk; rintro e w1 ⟨rfl, b1⟩))
  have TF1 := kept TF b1
  have B1A : Aside (Below W.heap.size W w1) := Rf.below_far B3A.out b1
  clear TF B3A b1
  obtain ⟨p0, p1, p2, p3⟩ := TF1.copy
  have K1 := KS w1
  clear KS
  obtain ⟨r, hr⟩ : ∃ r : Nat, (N : Int) + (q : Int) + 1 = (r : Int) := ⟨N + q + 1, by omega⟩
  have hrA : Aside (r = N + q + 1) := by show r = _; omega
  have hw1 : IntKind.i64.wrap ((N : Int) + (q : Int)) = (N : Int) + (q : Int) := by rw [IntKind.wrap_i64]; omega
  have hw2 : IntKind.i64.wrap ((N : Int) + (q : Int) + 1) = (r : Int) := by rw [IntKind.wrap_i64]; omega
  have hNr : Aside (sizeF F ≤ r) := by have := hrA.out; have := hNA.out; show sizeF F ≤ r; omega
  have KN : Aside (∀ u, Calls Tryz.prog 10 #[.int .i64 8, .int .i64 (r : Int)] u fun e w' => ∃ S F, e = .returned (.tuple #[.pointer (some ⟨S, 0, none⟩), .int .i64 0]) ∧ St w' S F (Mdl.empty 8 r) ∧ Below u.heap.size u w' ∧ ∀ k, F k → u.heap.size ≤ k) := fun u => s_new 8 r u (by omega) (by omega) (by have := hrA.out; omega) (by have := hrA.out; omega)
  clear hNA
  go_upto_region 7 with (first
    | (go_at_call 25; refine K1.mono ?_; clear K1; rintro e w2 ⟨rfl, b2⟩; have Kn := KN.out w2)
    | (go_at_call 10; refine Kn.mono ?_; clear Kn; rintro e w3 ⟨S, F0, rfl, s3, b3, f3⟩))
  have b13 := Rf.below_far b2 b3
  have TF3 := kept TF1 b13
  have B3 := Rf.below_far B1A.out b13
  have Km := make_just (F := F) (W := W) s3 hNr.out B3 (fun k hk => Nat.le_trans (Nat.le_trans B1A.out.size b2.size) (f3 k hk))
  clear p0 p1 p2 p3 TF1 b13 B3 B1A b2 b3 f3 s3
  obtain ⟨p0, p1, p2, p3⟩ := TF3.copy
  unfold tab at Km
  go_upto_region 8 with (first
    | (go_at_call 13; refine Km.mono ?_; clear Km; rintro e w4 ⟨a, rfl, x4, u4⟩))
  have TF4 := u4.tab TF3
  have Ke := ex_try x4 hm
  clear p0 p1 p2 p3 TF3 u4
  go_upto_region 9 with (first
    | (go_at_call 14; refine Ke.mono ?_; clear Ke; rintro e w5 ⟨x, er, rfl, u5, B5, t5⟩))
  have TF5 := u5.tab TF4
  have KE := Rf.exists_any F m hm w5
  have eE : Aside (Eqt (exQ m F) (Rf.exUpto F m 8)) := (exUpto_ex F m).symm
  generalize Rf.exUpto F m 8 = E at KE eE
  clear u5 TF4 x4
  obtain ⟨p0, p1, p2, p3⟩ := TF5.copy
  unfold tab at KE
  have B5A : Aside (Below W.heap.size W w5) := B5
  clear B5
  go_upto_region 10 with (first
    | (go_at_call 18; refine KE.mono ?_; clear KE; rintro e w6 ⟨rfl, b6⟩))
  have b67 := Rf.below_far b6 (nb w6 (.cells #[.int .u64 (word E 0 : Int), .int .u64 (word E 1 : Int), .int .u64 (word E 2 : Int), .int .u64 (word E 3 : Int)] 24))
  have TF7 := kept TF5 b67
  have TE7 : IsTab (w6.alloc (.cells #[.int .u64 (word E 0 : Int), .int .u64 (word E 1 : Int), .int .u64 (word E 2 : Int), .int .u64 (word E 3 : Int)] 24)) w6.heap.size E := IsTab.new w6 E
  have hbe : bf ≠ w6.heap.size := by have := TF5.lt; have := b6.size; omega
  have hWe : Aside (W.heap.size ≤ w6.heap.size) := Nat.le_trans B5A.out.size b6.size
  have B7 := Rf.below_far B5A.out b67
  generalize w6.alloc (.cells #[.int .u64 (word E 0 : Int), .int .u64 (word E 1 : Int), .int .u64 (word E 2 : Int), .int .u64 (word E 3 : Int)] 24) = w7 at b67 TF7 TE7 B7 ⊢
  generalize w6.heap.size = be at TE7 hbe hWe ⊢
  clear b6 TF5 p0 p1 p2 p3 B5A
  have t7 : (er = 0 ∧ Sx W w7 S 8 r [(x, exQ m F), (a, F)] r) ∨ (er = 60 ∧ x = 0 ∧ SxF W w7 S 8 r [(a, F)] r) := t5.imp (fun h => ⟨h.1, h.2.below b67⟩) fun h => ⟨h.1, h.2.1, h.2.2.below b67⟩
  clear t5 b67 hbe hWe B7 KN hNr
  rcases t7 with ⟨rfl, x8⟩ | ⟨rfl, rfl, x8⟩
  · have J1 := is_x x8 (x := x) (X := exQ m F) (.head _) eE.out
    have J2 : Aside (∀ {u : World}, Below w7.heap.size w7 u → Calls Tryz.prog 17 #[.pointer (some ⟨S, 0, none⟩), .int .u32 (a : Int), tab F] u fun e w' => e = .returned (.bool true) ∧ Below u.heap.size u w') := fun {u} k => is_x (x8.below k) (x := a) (X := F) (.tail _ (.head _)) (Eqt.refl _)
    have B8 : Aside (Below W.heap.size W w7) := x8.base
    unfold tab at J1
    obtain ⟨q0, q1, q2, q3⟩ := TE7.copy
    clear x8 eE
    go_wp2_with (first
      | (go_at_call 17; refine J1.mono ?_; clear J1; rintro e w9 ⟨rfl, b9⟩; have T9 := kept TF7 b9; obtain ⟨r0, r1, r2, r3⟩ := T9.copy; have J3 := J2.out b9; unfold tab at J3)
      | (go_at_call 17; refine J3.mono ?_; clear J3; rintro e w10 ⟨rfl, b10⟩))
    go_ret
    exact ⟨rfl, Rf.below_far (Rf.below_far B8.out b9) b10⟩
  · have J1 := x8.len
    have J2 := room_x x8.sx
    have J3 := is_x x8.sx (x := a) (X := F) (.head _) (Eqt.refl _)
    have J4 : Aside (∀ {u : World}, Below w7.heap.size w7 u → Calls Tryz.prog 21 #[.pointer (some ⟨S, 0, none⟩)] u fun e w' => e = .returned (.bool true) ∧ Below u.heap.size u w') := fun {u} k => once_x (x8.below k).sx
    have B8 : Aside (Below W.heap.size W w7) := x8.sx.base
    unfold tab at J3
    obtain ⟨q0, q1, q2, q3⟩ := TF7.copy
    clear x8 eE
    go_wp2_with (first
      | (go_at_call 26; refine J1.mono ?_; clear J1; rintro e w9 ⟨rfl, e9⟩; subst w9)
      | (go_at_call 27; refine J2.mono ?_; clear J2; rintro e w9 ⟨rfl, e9⟩; subst w9)
      | (go_at_call 17; refine J3.mono ?_; clear J3; rintro e w9 ⟨rfl, b9⟩; have J5 := J4.out b9)
      | (go_at_call 21; refine J5.mono ?_; clear J5; rintro e w10 ⟨rfl, b10⟩))
    go_ret
    exact ⟨rfl, Rf.below_far (Rf.below_far B8.out b9) b10⟩
set_option maxRecDepth 100000 in
set_option maxHeartbeats 4000000 in
theorem full_yes (F : Nat → Bool) (m : Nat) (z : Int) (W : World) (hm : m < 2 ^ 8) (z0 : 0 ≤ z) :
    Calls Tryz.prog 5 #[tab F, .int .u8 (m : Int), .int .u8 z, .bool true] W fun e w' => e = .returned (.bool true) ∧ Below W.heap.size W w' := by
  obtain ⟨q, hq⟩ : ∃ q : Nat, z % 40 = (q : Int) := ⟨(z % 40).toNat, by omega⟩
  have q40 : q < 40 := by omega
  have hz : Int.tmod z 40 = z % 40 := Int.tmod_eq_emod_of_nonneg z0
  have hwq : IntKind.i64.wrap (q : Int) = (q : Int) := by rw [IntKind.wrap_i64]; omega
  obtain ⟨N, hN⟩ : ∃ N, sizeF F = N := ⟨_, rfl⟩
  have N1 : N ≤ 511 := by have := sizeF_le F; omega
  have KS := sizeF_any F
  rw [hN] at KS
  have hNA : Aside (sizeF F = N) := hN
  clear hN
  conv in #[tab F, Value.int .u8 (m : Int), Value.int .u8 z, Value.bool true] => unfold tab
  go_enter Tryz.func5, Tryz.ntmps5
  go_upto_region 1 with fail
  have TF := IsTab.new W F
  have B3 := nb W (.cells #[.int .u64 (word F 0 : Int), .int .u64 (word F 1 : Int), .int .u64 (word F 2 : Int), .int .u64 (word F 3 : Int)] 24)
  generalize W.alloc (.cells #[.int .u64 (word F 0 : Int), .int .u64 (word F 1 : Int), .int .u64 (word F 2 : Int), .int .u64 (word F 3 : Int)] 24) = v3 at TF B3 ⊢
  have B3A : Aside (Below W.heap.size W v3) := B3
  clear B3
  generalize W.heap.size = bf at TF ⊢
  have Kk := known_any v3
  go_upto_region 3 with (first
    | (go_at_call 9; refine Kk.mono ?_; clear Kk; rintro e w1 ⟨rfl, b1⟩))
  have TF1 := kept TF b1
  have B1A : Aside (Below W.heap.size W w1) := Rf.below_far B3A.out b1
  clear TF B3A b1
  obtain ⟨p0, p1, p2, p3⟩ := TF1.copy
  have K1 := KS w1
  clear KS
  obtain ⟨r, hr⟩ : ∃ r : Nat, (N : Int) + (q : Int) + 1 = (r : Int) := ⟨N + q + 1, by omega⟩
  have hrA : Aside (r = N + q + 1) := by show r = _; omega
  have hw1 : IntKind.i64.wrap ((N : Int) + (q : Int)) = (N : Int) + (q : Int) := by rw [IntKind.wrap_i64]; omega
  have hw2 : IntKind.i64.wrap ((N : Int) + (q : Int) + 1) = (r : Int) := by rw [IntKind.wrap_i64]; omega
  have hNr : Aside (sizeF F ≤ r) := by have := hrA.out; have := hNA.out; show sizeF F ≤ r; omega
  have KN : Aside (∀ u, Calls Tryz.prog 10 #[.int .i64 8, .int .i64 (r : Int)] u fun e w' => ∃ S F, e = .returned (.tuple #[.pointer (some ⟨S, 0, none⟩), .int .i64 0]) ∧ St w' S F (Mdl.empty 8 r) ∧ Below u.heap.size u w' ∧ ∀ k, F k → u.heap.size ≤ k) := fun u => s_new 8 r u (by omega) (by omega) (by have := hrA.out; omega) (by have := hrA.out; omega)
  clear hNA
  go_upto_region 7 with (first
    | (go_at_call 25; refine K1.mono ?_; clear K1; rintro e w2 ⟨rfl, b2⟩; have Kn := KN.out w2)
    | (go_at_call 10; refine Kn.mono ?_; clear Kn; rintro e w3 ⟨S, F0, rfl, s3, b3, f3⟩))
  have b13 := Rf.below_far b2 b3
  have TF3 := kept TF1 b13
  have B3 := Rf.below_far B1A.out b13
  have Km := make_just (F := F) (W := W) s3 hNr.out B3 (fun k hk => Nat.le_trans (Nat.le_trans B1A.out.size b2.size) (f3 k hk))
  clear p0 p1 p2 p3 TF1 b13 B3 B1A b2 b3 f3 s3
  obtain ⟨p0, p1, p2, p3⟩ := TF3.copy
  unfold tab at Km
  go_upto_region 8 with (first
    | (go_at_call 13; refine Km.mono ?_; clear Km; rintro e w4 ⟨a, rfl, x4, u4⟩))
  have TF4 := u4.tab TF3
  have Ke := ex_try x4 hm
  clear p0 p1 p2 p3 TF3 u4
  go_upto_region 9 with (first
    | (go_at_call 14; refine Ke.mono ?_; clear Ke; rintro e w5 ⟨x, er, rfl, u5, B5, t5⟩))
  have TF5 := u5.tab TF4
  have KE := Rf.exists_any F m hm w5
  have eE : Aside (Eqt (exQ m F) (Rf.exUpto F m 8)) := (exUpto_ex F m).symm
  generalize Rf.exUpto F m 8 = E at KE eE
  clear u5 TF4 x4
  obtain ⟨p0, p1, p2, p3⟩ := TF5.copy
  unfold tab at KE
  have B5A : Aside (Below W.heap.size W w5) := B5
  clear B5
  go_upto_region 10 with (first
    | (go_at_call 18; refine KE.mono ?_; clear KE; rintro e w6 ⟨rfl, b6⟩))
  have b67 := Rf.below_far b6 (nb w6 (.cells #[.int .u64 (word E 0 : Int), .int .u64 (word E 1 : Int), .int .u64 (word E 2 : Int), .int .u64 (word E 3 : Int)] 24))
  have TF7 := kept TF5 b67
  have TE7 : IsTab (w6.alloc (.cells #[.int .u64 (word E 0 : Int), .int .u64 (word E 1 : Int), .int .u64 (word E 2 : Int), .int .u64 (word E 3 : Int)] 24)) w6.heap.size E := IsTab.new w6 E
  have hbe : bf ≠ w6.heap.size := by have := TF5.lt; have := b6.size; omega
  have hWe : Aside (W.heap.size ≤ w6.heap.size) := Nat.le_trans B5A.out.size b6.size
  have B7 := Rf.below_far B5A.out b67
  generalize w6.alloc (.cells #[.int .u64 (word E 0 : Int), .int .u64 (word E 1 : Int), .int .u64 (word E 2 : Int), .int .u64 (word E 3 : Int)] 24) = w7 at b67 TF7 TE7 B7 ⊢
  generalize w6.heap.size = be at TE7 hbe hWe ⊢
  clear b6 TF5 p0 p1 p2 p3 B5A
  clear t5 b67 eE
  have KA := Rf.forall_any F m hm w7
  have eA : Aside (Eqt (allQ m F) (fun x => !Rf.exUpto (fun x => !F x) m 8 x)) := fun y hy => by
    show (!_) = (!_)
    rw [exUpto_ex (fun x => !F x) m y hy]
  generalize (fun x => !Rf.exUpto (fun x => !F x) m 8 x) = E2 at KA eA
  obtain ⟨p0, p1, p2, p3⟩ := TF7.copy
  unfold tab at KA
  have B7A : Aside (Below W.heap.size W w7) := B7
  clear B7
  go_upto_region 12 with (first
    | (go_at_call 19; refine KA.mono ?_; clear KA; rintro e w8 ⟨rfl, b8⟩; have TE8 := kept TE7 b8; obtain ⟨q0, q1, q2, q3⟩ := TE8.copy; have g0 := TE8.free 0; have g1 := TE8.free 1; have g2 := TE8.free 2; have g3 := TE8.free 3))
  change Code.wp Tryz.prog _ _ _ (laid w8 be E2)
  have t1 := laid_turned w8 be E2
  have TE9 : IsTab (laid w8 be E2) be E2 := laid_tab TE8 E2
  have TF9 : IsTab (laid w8 be E2) bf F := t1.tab (kept TF7 b8) hbe
  have B9 : Below W.heap.size W (laid w8 be E2) := by
    have b1 := Rf.below_far B7A.out b8
    exact b1.trans (t1.below b1.size hWe.out)
  clear p0 p1 p2 p3 g0 g1 g2 g3 q0 q1 q2 q3
  generalize laid w8 be E2 = w9 at TE9 TF9 B9 ⊢
  clear t1 b8 TE8 TE7 TF7 B7A hWe hbe
  have Kn := KN.out w9
  go_upto_region 16 with (first
    | (go_at_call 10; refine Kn.mono ?_; clear Kn; rintro e w3 ⟨S2, F0, rfl, s3, b3, f3⟩))
  have TE3 := kept TE9 b3
  have TF3 := kept TF9 b3
  have B3 := Rf.below_far B9 b3
  have Km := make_just (F := F) (W := W) s3 hNr.out B3 (fun k hk => Nat.le_trans B9.size (f3 k hk))
  clear TE9 TF9 B9 B3 b3 f3 s3 KN hNr
  obtain ⟨p0, p1, p2, p3⟩ := TF3.copy
  unfold tab at Km
  go_upto_region 17 with (first
    | (go_at_call 13; refine Km.mono ?_; clear Km; rintro e w4 ⟨a2, rfl, x4, u4⟩))
  have TF4 := u4.tab TF3
  have TE4 := u4.tab TE3
  have Ke := all_try x4 hm
  clear p0 p1 p2 p3 TF3 TE3 u4
  go_upto_region 18 with (first
    | (go_at_call 15; refine Ke.mono ?_; clear Ke; rintro e w5 ⟨x2, er2, rfl, u5, B5, t5⟩))
  have TF5 := u5.tab TF4
  have TE5 := u5.tab TE4
  clear u5 TF4 TE4 x4 B5
  rcases t5 with ⟨rfl, x8⟩ | ⟨rfl, rfl, x8⟩
  · have J1 := is_x x8 (x := x2) (X := allQ m F) (.head _) eA.out
    have J2 : Aside (∀ {u : World}, Below w5.heap.size w5 u → Calls Tryz.prog 17 #[.pointer (some ⟨S2, 0, none⟩), .int .u32 (a2 : Int), tab F] u fun e w' => e = .returned (.bool true) ∧ Below u.heap.size u w') := fun {u} k => is_x (x8.below k) (x := a2) (X := F) (.tail _ (.head _)) (Eqt.refl _)
    have B8 : Aside (Below W.heap.size W w5) := x8.base
    unfold tab at J1
    obtain ⟨q0, q1, q2, q3⟩ := TE5.copy
    clear x8 eA
    go_wp2_with (first
      | (go_at_call 17; refine J1.mono ?_; clear J1; rintro e w9 ⟨rfl, b9⟩; have T9 := kept TF5 b9; obtain ⟨r0, r1, r2, r3⟩ := T9.copy; have J3 := J2.out b9; unfold tab at J3)
      | (go_at_call 17; refine J3.mono ?_; clear J3; rintro e w10 ⟨rfl, b10⟩))
    go_ret
    exact ⟨rfl, Rf.below_far (Rf.below_far B8.out b9) b10⟩
  · have J1 := x8.len
    have J2 := room_x x8.sx
    have J3 := is_x x8.sx (x := a2) (X := F) (.head _) (Eqt.refl _)
    have J4 : Aside (∀ {u : World}, Below w5.heap.size w5 u → Calls Tryz.prog 21 #[.pointer (some ⟨S2, 0, none⟩)] u fun e w' => e = .returned (.bool true) ∧ Below u.heap.size u w') := fun {u} k => once_x (x8.below k).sx
    have B8 : Aside (Below W.heap.size W w5) := x8.sx.base
    unfold tab at J3
    obtain ⟨q0, q1, q2, q3⟩ := TF5.copy
    clear x8 eA
    go_wp2_with (first
      | (go_at_call 26; refine J1.mono ?_; clear J1; rintro e w9 ⟨rfl, e9⟩; subst w9)
      | (go_at_call 27; refine J2.mono ?_; clear J2; rintro e w9 ⟨rfl, e9⟩; subst w9)
      | (go_at_call 17; refine J3.mono ?_; clear J3; rintro e w9 ⟨rfl, b9⟩; have J5 := J4.out b9)
      | (go_at_call 21; refine J5.mono ?_; clear J5; rintro e w10 ⟨rfl, b10⟩))
    go_ret
    exact ⟨rfl, Rf.below_far (Rf.below_far B8.out b9) b10⟩
theorem full_walk (F : Nat → Bool) (m : Nat) (z : Int) (on : Bool) (W : World) (hm : m < 2 ^ 8) (z0 : 0 ≤ z) :
    Calls Tryz.prog 5 #[tab F, .int .u8 (m : Int), .int .u8 z, .bool on] W fun e w' => e = .returned (.bool true) ∧ Below W.heap.size W w' := by
  cases on with
  | false => exact full_no F m z W hm z0
  | true => exact full_yes F m z W hm z0
end Go.Proofs.YtlhanbjjlifjjaaGreat
