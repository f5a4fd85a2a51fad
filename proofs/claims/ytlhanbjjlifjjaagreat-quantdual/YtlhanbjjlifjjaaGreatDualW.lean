/-
  QuantDual, walked.
-/
import Derived.Test.YtlhanbjjlifjjaaGreatQtT
namespace Go.Proofs.YtlhanbjjlifjjaaGreat
open Go Go.RowKit
open Rf (tab word IsTab)

set_option maxRecDepth 100000 in
set_option maxHeartbeats 4000000 in
theorem dual_walk (F : Nat → Bool) (z : Int) (m : Nat) (W : World) (z0 : 0 ≤ z) (hm : m < 2 ^ 8) :
    Calls Tryz.prog 4 #[tab F, .int .u8 z, .int .u8 (m : Int)] W fun e w' => e = .returned (.bool true) ∧ Below W.heap.size W w' := by
  obtain ⟨k, hk⟩ : ∃ k : Nat, z % 8 = (k : Int) := ⟨(z % 8).toNat, by omega⟩
  have hk8 : k < 8 := by omega
  have hz : Int.tmod z 8 = z % 8 := Int.tmod_eq_emod_of_nonneg z0
  have hwk : IntKind.i64.wrap (k : Int) = (k : Int) := by rw [IntKind.wrap_i64]; omega
  obtain ⟨P, hP'⟩ : ∃ P : Nat, 2 ^ k = P := ⟨_, rfl⟩
  have hP : Aside (2 ^ k = P) := hP'
  have hP8 : P < 2 ^ 8 := by rw [← hP']; exact Nat.pow_lt_pow_right (by omega) hk8
  have hp : (2 : Int) ^ k % 256 = (P : Int) := by
    have : (2 : Int) ^ k = ((2 ^ k : Nat) : Int) := by push_cast; rfl
    rw [this, hP']
    exact Int.emod_eq_of_lt (Int.natCast_nonneg _) (Int.ofNat_lt.2 hP8)
  clear hP'
  conv in #[tab F, Value.int .u8 z, Value.int .u8 (m : Int)] => unfold tab
  go_enter Tryz.func4, Tryz.ntmps4
  go_upto_region 1 with fail
  have TF := IsTab.new W F
  have B3 := nb W (.cells #[.int .u64 (word F 0 : Int), .int .u64 (word F 1 : Int), .int .u64 (word F 2 : Int), .int .u64 (word F 3 : Int)] 24)
  generalize W.alloc (.cells #[.int .u64 (word F 0 : Int), .int .u64 (word F 1 : Int), .int .u64 (word F 2 : Int), .int .u64 (word F 3 : Int)] 24) = v3 at TF B3 ⊢
  have B3A : Aside (Below W.heap.size W v3) := B3
  clear B3
  generalize W.heap.size = bf at TF ⊢
  have Kk := known_any v3
  go_upto_region 3 with (first
    | (go_at_call 9; refine Kk.mono ?_; clear Kk; rintro e v4 ⟨rfl, b4⟩))
  have TF4 := kept TF b4
  have Kn : Calls Tryz.prog 10 #[.int .i64 8, .int .i64 32768] v4 _ := new_x W v4 8 32768 (by omega) (by omega) (by omega) (by omega) (Rf.below_far B3A.out b4)
  clear TF B3A b4
  go_upto_region 6 with (first
    | (go_at_call 10; refine Kn.mono ?_; clear Kn; rintro e w5 ⟨S, rfl, f5, x5, b5⟩))
  have TF5 := kept TF4 b5
  have K1 := make_x x5 (by omega) F
  clear TF4 b5 f5
  unfold tab at K1
  obtain ⟨y0, y1, y2, y3⟩ := TF5.copy
  go_upto_region 7 with (first
    | (go_at_call 13; refine K1.mono ?_; clear K1; rintro e w0 ⟨a, rfl, x0, u0⟩))
  clear y0 y1 y2 y3 TF5 x5 u0
  have C0 : Calls Tryz.prog 22 #[.pointer (some ⟨S, 0, none⟩), .int .u32 (a : Int)] w0 _ := not_x x0 (x := a) (X := F) (.head _) 63 (by decide) (by decide)
  go_wp2_with (first
    | (go_at_call 22; refine C0.mono ?_; clear C0; rintro e w1 ⟨nn, rfl, x1, u1⟩; clear u1 x0; have C1 : Calls Tryz.prog 14 #[.pointer (some ⟨S, 0, none⟩), .int .u32 (nn : Int), .int .u8 (m : Int)] w1 _ := ex_x (m := m) x1 (x := nn) (X := (fN F)) (.head _) hm 384 (by decide) (by decide))
    | (go_at_call 14; refine C1.mono ?_; clear C1; rintro e w2 ⟨x, rfl, x2, u2⟩; clear u2 x1; have C2 : Calls Tryz.prog 22 #[.pointer (some ⟨S, 0, none⟩), .int .u32 (x : Int)] w2 _ := not_x x2 (x := x) (X := (exQ m (fN F))) (.head _) 63 (by decide) (by decide))
    | (go_at_call 22; refine C2.mono ?_; clear C2; rintro e w3 ⟨y, rfl, x3, u3⟩; clear u3 x2; have C3 : Calls Tryz.prog 15 #[.pointer (some ⟨S, 0, none⟩), .int .u32 (a : Int), .int .u8 (m : Int)] w3 _ := all_x (m := m) x3 (x := a) (X := F) (.tail _ (.tail _ (.tail _ (.head _)))) hm 384 (by decide) (by decide))
    | (go_at_call 15; refine C3.mono ?_; clear C3; rintro e w4 ⟨zz, rfl, x4, u4⟩; clear u4 x3; have hsm : zz = y := x4.same (X := (allQ m F)) (Y := (fN (exQ m (fN F)))) (.head _) (.tail _ (.head _)) ((dual_ex m F).symm); subst zz; have C4 : Calls Tryz.prog 16 #[.pointer (some ⟨S, 0, none⟩), .int .u32 (a : Int), .int .u8 (P : Int), .int .u8 0] w4 _ := res_x (m := P) (nv := 0) x4 (x := a) (X := F) (.tail _ (.tail _ (.tail _ (.tail _ (.head _))))) hP8 (by decide) 384 (by decide) (by decide))
    | (go_at_call 16; refine C4.mono ?_; clear C4; rintro e w5 ⟨lo, rfl, x5, u5⟩; clear u5 x4; have C5 : Calls Tryz.prog 16 #[.pointer (some ⟨S, 0, none⟩), .int .u32 (a : Int), .int .u8 (P : Int), .int .u8 255] w5 _ := res_x (m := P) (nv := 255) x5 (x := a) (X := F) (.tail _ (.tail _ (.tail _ (.tail _ (.tail _ (.head _)))))) hP8 (by decide) 384 (by decide) (by decide))
    | (go_at_call 16; refine C5.mono ?_; clear C5; rintro e w6 ⟨hi, rfl, x6, u6⟩; clear u6 x5; have C6 : Calls Tryz.prog 23 #[.pointer (some ⟨S, 0, none⟩), .int .u32 (lo : Int), .int .u32 (hi : Int)] w6 _ := or_x x6 (x := lo) (X := (resQ P 0 F)) (y := hi) (Y := (resQ P 255 F)) (.tail _ (.head _)) (.head _) 63 (by decide) (by decide))
    | (go_at_call 23; refine C6.mono ?_; clear C6; rintro e w7 ⟨b1, rfl, x7, u7⟩; clear u7 x6; have C7 : Calls Tryz.prog 14 #[.pointer (some ⟨S, 0, none⟩), .int .u32 (a : Int), .int .u8 (P : Int)] w7 _ := ex_x (m := P) x7 (x := a) (X := F) (.tail _ (.tail _ (.tail _ (.tail _ (.tail _ (.tail _ (.tail _ (.head _)))))))) hP8 384 (by decide) (by decide))
    | (go_at_call 14; refine C7.mono ?_; clear C7; rintro e w8 ⟨c1', rfl, x8, u8⟩; clear u8 x7; have hsm : c1' = b1 := x8.same (X := (exQ P F)) (Y := (fO (resQ P 0 F) (resQ P 255 F))) (.head _) (.tail _ (.head _)) (hP.out ▸ (ex_one hk8 F).symm); subst c1'; have C8 : Calls Tryz.prog 24 #[.pointer (some ⟨S, 0, none⟩), .int .u32 (lo : Int), .int .u32 (hi : Int)] w8 _ := and_x x8 (x := lo) (X := (resQ P 0 F)) (y := hi) (Y := (resQ P 255 F)) (.tail _ (.tail _ (.tail _ (.head _)))) (.tail _ (.tail _ (.head _))) 63 (by decide) (by decide))
    | (go_at_call 24; refine C8.mono ?_; clear C8; rintro e w9 ⟨b2, rfl, x9, u9⟩; clear u9 x8; have C9 : Calls Tryz.prog 15 #[.pointer (some ⟨S, 0, none⟩), .int .u32 (a : Int), .int .u8 (P : Int)] w9 _ := all_x (m := P) x9 (x := a) (X := F) (.tail _ (.tail _ (.tail _ (.tail _ (.tail _ (.tail _ (.tail _ (.tail _ (.tail _ (.head _)))))))))) hP8 384 (by decide) (by decide))
    | (go_at_call 15; refine C9.mono ?_; clear C9; rintro e w10 ⟨c2', rfl, x10, u10⟩; clear u10 x9; have hsm : c2' = b2 := x10.same (X := (allQ P F)) (Y := (fA (resQ P 0 F) (resQ P 255 F))) (.head _) (.tail _ (.head _)) (hP.out ▸ (all_one hk8 F).symm); subst c2'))
  go_ret
  exact ⟨rfl, x10.base⟩
end Go.Proofs.YtlhanbjjlifjjaaGreat
