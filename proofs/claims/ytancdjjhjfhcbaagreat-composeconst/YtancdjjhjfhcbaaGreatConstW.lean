/-
  ComposeConst, walked.
-/
import Derived.Test.YtancdjjhjfhcbaaGreatCpX
namespace Go.Proofs.YtancdjjhjfhcbaaGreat
open Go Go.RowKit
open Rf (tab word IsTab fixAt)

theorem res_one {v : Nat} (hv : v < 8) (F : Nat → Bool) : Eqt (resQ (2 ^ v) 255 F) (comF v F c1) := fun x hx => by
  show F _ = F _
  rw [mix_one hv (by omega) hx, bit255 hv]
  rfl
theorem res_null {v : Nat} (hv : v < 8) (F : Nat → Bool) : Eqt (resQ (2 ^ v) 0 F) (comF v F c0) := fun x hx => by
  show F _ = F _
  rw [mix_one hv (by omega) hx, Nat.zero_testBit]
  rfl
theorem ite_com {v : Nat} (F G : Nat → Bool) : Eqt (fI G (comF v F c1) (comF v F c0)) (comF v F G) := fun x _ => by
  show (if G x then F (fixAt v true x) else F (fixAt v false x)) = F (fixAt v (G x) x)
  cases G x <;> rfl
set_option maxRecDepth 100000 in
set_option maxHeartbeats 4000000 in
theorem const_walk (F G : Nat → Bool) (z : Int) (W : World) (z0 : 0 ≤ z) :
    Calls Tryz.prog 5 #[tab F, tab G, .int .u8 z] W fun e w' => e = .returned (.bool true) ∧ Below W.heap.size W w' := by
  obtain ⟨k, hk⟩ : ∃ k : Nat, z % 8 = (k : Int) := ⟨(z % 8).toNat, by omega⟩
  have hk8 : k < 8 := by omega
  have hz : Int.tmod z 8 = z % 8 := Int.tmod_eq_emod_of_nonneg z0
  have hwk : IntKind.i64.wrap (k : Int) = (k : Int) := by rw [IntKind.wrap_i64]; omega
  obtain ⟨P, hP'⟩ : ∃ P : Nat, 2 ^ k = P := ⟨_, rfl⟩
  have hP : Aside (2 ^ k = P) := hP'
  have hP8 : P < 2 ^ 8 := by rw [← hP']; exact Nat.pow_lt_pow_right (by omega) hk8
  have hp : (2 : Int) ^ k % 256 = (P : Int) := by
    have : (2 : Int) ^ k = ((2 ^ k : Nat) : Int) := by push_cast; rfl
    rw [this, hP']
    exact Int.emod_eq_of_lt (Int.natCast_nonneg _) (Int.ofNat_lt.2 hP8)
  clear hP'
  conv in #[tab F, tab G, Value.int .u8 z] => unfold tab
  go_enter Tryz.func5, Tryz.ntmps5
  go_upto_region 1 with fail
  obtain ⟨TF, TG, B3⟩ := boxes2 W F G
  generalize (W.alloc (.cells #[.int .u64 (word F 0 : Int), .int .u64 (word F 1 : Int), .int .u64 (word F 2 : Int), .int .u64 (word F 3 : Int)] 24)).alloc (.cells #[.int .u64 (word G 0 : Int), .int .u64 (word G 1 : Int), .int .u64 (word G 2 : Int), .int .u64 (word G 3 : Int)] 24) = v3 at TF TG B3 ⊢
  have B3A : Aside (Below W.heap.size W v3) := B3
  clear B3
  generalize W.heap.size + 1 = bg at TG ⊢
  generalize W.heap.size = bf at TF ⊢
  have Kk := cknown_any v3
  go_upto_region 3 with (first
    | (go_at_call 8; refine Kk.mono ?_; clear Kk; rintro e v4 ⟨rfl, b4⟩))
  have TF4 := kept TF b4
  have TG4 := kept TG b4
  have Kn : Calls Tryz.prog 9 #[.int .i64 8, .int .i64 32768] v4 _ := new_x W v4 8 32768 (by omega) (by omega) (by omega) (by omega) (Rf.below_far B3A.out b4)
  clear TF TG B3A b4
  go_upto_region 6 with (first
    | (go_at_call 9; refine Kn.mono ?_; clear Kn; rintro e w5 ⟨S, rfl, f5, x5, b5⟩))
  have TF5 := kept TF4 b5
  have TG5 := kept TG4 b5
  have K1 := make_x x5 (by omega) F
  clear TF4 TG4 b5 f5
  unfold tab at K1
  obtain ⟨y0, y1, y2, y3⟩ := TF5.copy
  go_upto_region 8 with (first
    | (go_at_call 12; refine K1.mono ?_; clear K1; rintro e w6 ⟨a, rfl, x6, u6⟩))
  have TG6 := u6.tab TG5
  have K2 := make_x x6 (by omega) G
  clear y0 y1 y2 y3 TF5 TG5 x5 u6
  unfold tab at K2
  obtain ⟨y0, y1, y2, y3⟩ := TG6.copy
  go_upto_region 9 with (first
    | (go_at_call 12; refine K2.mono ?_; clear K2; rintro e w0 ⟨b, rfl, x0, u0⟩))
  clear y0 y1 y2 y3 TG6 x6 u0
  have C0 : Calls Tryz.prog 13 #[.pointer (some ⟨S, 0, none⟩), .int .u32 (a : Int), .int .i64 (k : Int), .int .u32 1] w0 _ := com_x x0 (v := k) (x := a) (X := F) (y := 1) (Y := c1) (.tail _ (.head _)) (.tail _ (.tail _ (.tail _ (.head _)))) hk8 63 (by decide) (by decide)
  go_wp2_with (first
    | (go_at_call 13; refine C0.mono ?_; clear C0; rintro e w1 ⟨x, rfl, x1, u1⟩; clear u1 x0; have C1 : Calls Tryz.prog 13 #[.pointer (some ⟨S, 0, none⟩), .int .u32 (a : Int), .int .i64 (k : Int), .int .u32 0] w1 _ := com_x x1 (v := k) (x := a) (X := F) (y := 0) (Y := c0) (.tail _ (.tail _ (.head _))) (.tail _ (.tail _ (.tail _ (.head _)))) hk8 63 (by decide) (by decide))
    | (go_at_call 13; refine C1.mono ?_; clear C1; rintro e w2 ⟨y, rfl, x2, u2⟩; clear u2 x1; have C2 : Calls Tryz.prog 21 #[.pointer (some ⟨S, 0, none⟩), .int .u32 (a : Int), .int .u8 (P : Int), .int .u8 255] w2 _ := res_x (m := P) (nv := 255) x2 (x := a) (X := F) (.tail _ (.tail _ (.tail _ (.head _)))) hP8 (by decide) 384 (by decide) (by decide))
    | (go_at_call 21; refine C2.mono ?_; clear C2; rintro e w3 ⟨on, rfl, x3, u3⟩; clear u3 x2; have hsm : on = x := x3.same (X := (resQ P 255 F)) (Y := (comF k F c1)) (.head _) (.tail _ (.tail _ (.head _))) (hP.out ▸ res_one hk8 F); subst on; have C3 : Calls Tryz.prog 21 #[.pointer (some ⟨S, 0, none⟩), .int .u32 (a : Int), .int .u8 (P : Int), .int .u8 0] w3 _ := res_x (m := P) (nv := 0) x3 (x := a) (X := F) (.tail _ (.tail _ (.tail _ (.tail _ (.head _))))) hP8 (by decide) 384 (by decide) (by decide))
    | (go_at_call 21; refine C3.mono ?_; clear C3; rintro e w4 ⟨no, rfl, x4, u4⟩; clear u4 x3; have hsm : no = y := x4.same (X := (resQ P 0 F)) (Y := (comF k F c0)) (.head _) (.tail _ (.tail _ (.head _))) (hP.out ▸ res_null hk8 F); subst no; have C4 : Calls Tryz.prog 22 #[.pointer (some ⟨S, 0, none⟩), .int .i64 (k : Int)] w4 _ := var_x x4 (v := k) hk8 63 (by decide) (by decide))
    | (go_at_call 22; refine C4.mono ?_; clear C4; rintro e w5 ⟨own, rfl, x5, u5⟩; clear u5 x4; have C5 : Calls Tryz.prog 13 #[.pointer (some ⟨S, 0, none⟩), .int .u32 (a : Int), .int .i64 (k : Int), .int .u32 (own : Int)] w5 _ := com_x x5 (v := k) (x := a) (X := F) (y := own) (Y := (Rf.M k)) (.tail _ (.tail _ (.tail _ (.tail _ (.tail _ (.tail _ (.head _))))))) (.head _) hk8 63 (by decide) (by decide))
    | (go_at_call 13; refine C5.mono ?_; clear C5; rintro e w6 ⟨zz, rfl, x6, u6⟩; clear u6 x5; have hsm : zz = a := x6.same (X := (comF k F (Rf.M k))) (Y := F) (.head _) (.tail _ (.tail _ (.tail _ (.tail _ (.tail _ (.tail _ (.tail _ (.head _)))))))) (com_own hk8 F); subst zz; have C6 : Calls Tryz.prog 13 #[.pointer (some ⟨S, 0, none⟩), .int .u32 (a : Int), .int .i64 (k : Int), .int .u32 (b : Int)] w6 _ := com_x x6 (v := k) (x := a) (X := F) (y := b) (Y := G) (.tail _ (.tail _ (.tail _ (.tail _ (.tail _ (.tail _ (.tail _ (.head _)))))))) (.tail _ (.tail _ (.tail _ (.tail _ (.tail _ (.tail _ (.head _))))))) hk8 63 (by decide) (by decide))
    | (go_at_call 13; refine C6.mono ?_; clear C6; rintro e w7 ⟨ww, rfl, x7, u7⟩; clear u7 x6; have C7 : Calls Tryz.prog 23 #[.pointer (some ⟨S, 0, none⟩), .int .u32 (b : Int), .int .u32 (x : Int), .int .u32 (y : Int)] w7 _ := ite_x x7 (x := b) (X := G) (y := x) (Y := (comF k F c1)) (z := y) (Z := (comF k F c0)) (.tail _ (.tail _ (.tail _ (.tail _ (.tail _ (.tail _ (.tail _ (.head _)))))))) (.tail _ (.tail _ (.tail _ (.tail _ (.tail _ (.tail _ (.head _))))))) (.tail _ (.tail _ (.tail _ (.tail _ (.tail _ (.head _)))))) 63 (by decide) (by decide))
    | (go_at_call 23; refine C7.mono ?_; clear C7; rintro e w8 ⟨ii, rfl, x8, u8⟩; clear u8 x7; have hsm : ii = ww := x8.same (X := (fI G (comF k F c1) (comF k F c0))) (Y := (comF k F G)) (.head _) (.tail _ (.head _)) (ite_com F G); subst ii))
  go_ret
  exact ⟨rfl, x8.base⟩
end Go.Proofs.YtancdjjhjfhcbaaGreat
