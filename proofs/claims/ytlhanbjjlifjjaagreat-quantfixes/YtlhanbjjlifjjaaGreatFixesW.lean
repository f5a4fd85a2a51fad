/-
  QuantFixes, walked.
-/
import Derived.Test.YtlhanbjjlifjjaaGreatQtT
namespace Go.Proofs.YtlhanbjjlifjjaaGreat
open Go Go.RowKit
open Rf (tab word IsTab)

set_option maxRecDepth 100000 in
set_option maxHeartbeats 4000000 in
theorem fixes_walk (F : Nat → Bool) (z : Int) (n : Nat) (W : World) (z0 : 0 ≤ z) (hn : n < 2 ^ 8) :
    Calls Tryz.prog 8 #[tab F, .int .u8 z, .int .u8 (n : Int)] W fun e w' => e = .returned (.bool true) ∧ Below W.heap.size W w' := by
  obtain ⟨k, hk⟩ : ∃ k : Nat, z % 8 = (k : Int) := ⟨(z % 8).toNat, by omega⟩
  have hk8 : k < 8 := by omega
  have hz : Int.tmod z 8 = z % 8 := Int.tmod_eq_emod_of_nonneg z0
  have hwk : IntKind.i64.wrap (k : Int) = (k : Int) := by rw [IntKind.wrap_i64]; omega
  obtain ⟨P, hP'⟩ : ∃ P : Nat, 2 ^ k = P := ⟨_, rfl⟩
  have hP : Aside (2 ^ k = P) := hP'
  have hP8 : P < 2 ^ 8 := by rw [← hP']; exact Nat.pow_lt_pow_right (by omega) hk8
  have hp : (2 : Int) ^ k % 256 = (P : Int) := by
    have : (2 : Int) ^ k = ((2 ^ k : Nat) : Int) := by push_cast; rfl
    rw [this, hP']
    exact Int.emod_eq_of_lt (Int.natCast_nonneg _) (Int.ofNat_lt.2 hP8)
  clear hP'
  obtain ⟨qd, rm, hqr, hqd', hrm⟩ : ∃ q r : Nat, n = 64 * q + r ∧ q < 4 ∧ r < 64 := ⟨n / 64, n % 64, by omega, by omega, by omega⟩
  have hqd : Aside (qd < 4) := hqd'
  have ht1 : Int.tdiv (n : Int) 64 = (qd : Int) := by rw [Int.tdiv_eq_ediv_of_nonneg (by omega)]; omega
  have ht2 : Int.tmod (n : Int) 64 = (rm : Int) := by rw [Int.tmod_eq_emod_of_nonneg (by omega)]; omega
  have ht3 : (n : Int) / 64 = (qd : Int) := by omega
  have ht4 : (n : Int) % 64 = (rm : Int) := by omega
  have hrd := Rf.read_bit F qd rm hrm
  rw [← hqr] at hrd
  have hq4 : (qd : Int) < 4 := by omega
  have hr64 : (rm : Int) ≤ 64 := by omega
  have hmr : min rm 64 = rm := by omega
  clear hqr hqd' hrm
  conv in #[tab F, Value.int .u8 z, Value.int .u8 (n : Int)] => unfold tab
  go_enter Tryz.func8, Tryz.ntmps8
  go_upto_region 1 with fail
  have TF := IsTab.new W F
  have B3 := nb W (.cells #[.int .u64 (word F 0 : Int), .int .u64 (word F 1 : Int), .int .u64 (word F 2 : Int), .int .u64 (word F 3 : Int)] 24)
  generalize W.alloc (.cells #[.int .u64 (word F 0 : Int), .int .u64 (word F 1 : Int), .int .u64 (word F 2 : Int), .int .u64 (word F 3 : Int)] 24) = v3 at TF B3 ⊢
  have B3A : Aside (Below W.heap.size W v3) := B3
  clear B3
  generalize W.heap.size = bf at TF ⊢
  have Kk := known_any v3
  go_upto_region 3 with (first
    | (go_at_call 9; refine Kk.mono ?_; clear Kk; rintro e v4 ⟨rfl, b4⟩))
  have TF4 := kept TF b4
  have B4 : Aside (Below W.heap.size W v4) := Rf.below_far B3A.out b4
  clear TF B3A b4
  have K3 := two_any v4 F F
  unfold tab at K3
  obtain ⟨p0, p1, p2, p3⟩ := TF4.copy
  go_upto_region 4 with (first
    | (go_at_call 28; refine K3.mono ?_; clear K3; rintro e w0 ⟨S, a, b, rfl, x5, b5⟩))
  have x0 := x5.rebase B4.out
  have T0 : IsTab w0 bf F := kept TF4 b5
  clear p0 p1 p2 p3 TF4 x5 B4 b5
  have KM := must_x
  have C0 : Calls Tryz.prog 30 #[.pointer (some ⟨S, 0, none⟩), .int .i64 (k : Int)] w0 _ := var_x x0 (v := k) hk8 63 (by decide) (by decide)
  go_wp2_with (first
    | (go_at_call 29; refine (KM _ _).mono ?_; rintro e w ⟨rfl, e⟩; subst w)
    | (go_at_call 30; refine C0.mono ?_; clear C0; rintro e w1 ⟨xv, rfl, x1, u1⟩; have T1 := u1.tab T0; clear T0; clear u1 x0; have C1 : Calls Tryz.prog 16 #[.pointer (some ⟨S, 0, none⟩), .int .u32 (a : Int), .int .u8 (P : Int), .int .u8 255] w1 _ := res_x (m := P) (nv := 255) x1 (x := a) (X := F) (.tail _ (.tail _ (.head _))) hP8 (by decide) 384 (by decide) (by decide))
    | (go_at_call 16; refine C1.mono ?_; clear C1; rintro e w2 ⟨hi, rfl, x2, u2⟩; have T2 := u2.tab T1; clear T1; clear u2 x1; have C2 : Calls Tryz.prog 16 #[.pointer (some ⟨S, 0, none⟩), .int .u32 (a : Int), .int .u8 (P : Int), .int .u8 0] w2 _ := res_x (m := P) (nv := 0) x2 (x := a) (X := F) (.tail _ (.tail _ (.tail _ (.head _)))) hP8 (by decide) 384 (by decide) (by decide))
    | (go_at_call 16; refine C2.mono ?_; clear C2; rintro e w3 ⟨lo, rfl, x3, u3⟩; have T3 := u3.tab T2; clear T2; clear u3 x2; have C3 : Calls Tryz.prog 16 #[.pointer (some ⟨S, 0, none⟩), .int .u32 (a : Int), .int .u8 255, .int .u8 (n : Int)] w3 _ := res_x (m := 255) (nv := n) x3 (x := a) (X := F) (.tail _ (.tail _ (.tail _ (.tail _ (.head _))))) (by decide) hn 384 (by decide) (by decide))
    | (go_at_call 16; refine C3.mono ?_; clear C3; rintro e w4 ⟨c, rfl, x4, u4⟩; have T4 := u4.tab T3; clear T3; clear u4 x3; obtain ⟨hc1, hc2⟩ := const_told x4 (x := c) (.head _) (F := F) (n := n) (res_all hn F) (.tail _ (.tail _ (.tail _ (.tail _ (.tail _ (.tail _ (.head _))))))) (.tail _ (.tail _ (.tail _ (.tail _ (.tail _ (.tail _ (.tail _ (.head _)))))))); have C4 : Calls Tryz.prog 31 #[.pointer (some ⟨S, 0, none⟩), .int .u32 (xv : Int), .int .u32 (hi : Int), .int .u32 (lo : Int)] w4 _ := ite_x x4 (x := xv) (X := (Rf.M k)) (y := hi) (Y := (resQ P 255 F)) (z := lo) (Z := (resQ P 0 F)) (.tail _ (.tail _ (.tail _ (.head _)))) (.tail _ (.tail _ (.head _))) (.tail _ (.head _)) 63 (by decide) (by decide))
    | (go_at_call 31; refine C4.mono ?_; clear C4; rintro e w5 ⟨e0, rfl, x5, u5⟩; have T5 := u5.tab T4; clear T4; clear u5 x4; have hsm : e0 = a := x5.same (X := (fI (Rf.M k) (resQ P 255 F) (resQ P 0 F))) (Y := F) (.head _) (.tail _ (.tail _ (.tail _ (.tail _ (.tail _ (.tail _ (.head _))))))) (hP.out ▸ ite_halves hk8 F); subst e0; have hcell := T5.cell hqd.out; have C5 : Calls Tryz.prog 14 #[.pointer (some ⟨S, 0, none⟩), .int .u32 (a : Int), .int .u8 255] w5 _ := ex_x (m := 255) x5 (x := a) (X := F) (.tail _ (.tail _ (.tail _ (.tail _ (.tail _ (.tail _ (.head _))))))) (by decide) 384 (by decide) (by decide))
    | (go_at_call 14; refine C5.mono ?_; clear C5; rintro e w6 ⟨e1, rfl, x6, u6⟩; clear u6 x5; obtain ⟨he1, he2⟩ := ex_told x6 (x := e1) (a := a) (F := F) (.head _) (.tail _ (.tail _ (.tail _ (.tail _ (.tail _ (.tail _ (.tail _ (.head _)))))))) (.tail _ (.tail _ (.tail _ (.tail _ (.tail _ (.tail _ (.tail _ (.tail _ (.head _))))))))) (.tail _ (.tail _ (.tail _ (.tail _ (.tail _ (.tail _ (.tail _ (.tail _ (.tail _ (.head _)))))))))); have C6 : Calls Tryz.prog 14 #[.pointer (some ⟨S, 0, none⟩), .int .u32 (a : Int), .int .u8 255] w6 _ := ex_x (m := 255) x6 (x := a) (X := F) (.tail _ (.tail _ (.tail _ (.tail _ (.tail _ (.tail _ (.tail _ (.head _)))))))) (by decide) 384 (by decide) (by decide))
    | (go_at_call 14; refine C6.mono ?_; clear C6; rintro e w7 ⟨e2, rfl, x7, u7⟩; clear u7 x6; have hsm : e2 = e1 := x7.same (X := (exQ 255 F)) (Y := (exQ 255 F)) (.head _) (.tail _ (.head _)) (Eqt.refl _); subst e2; have C7 : Calls Tryz.prog 15 #[.pointer (some ⟨S, 0, none⟩), .int .u32 (a : Int), .int .u8 255] w7 _ := all_x (m := 255) x7 (x := a) (X := F) (.tail _ (.tail _ (.tail _ (.tail _ (.tail _ (.tail _ (.tail _ (.tail _ (.head _))))))))) (by decide) 384 (by decide) (by decide))
    | (go_at_call 15; refine C7.mono ?_; clear C7; rintro e w8 ⟨g1, rfl, x8, u8⟩; clear u8 x7; have hg := all_told x8 (x := g1) (a := a) (F := F) (.head _) (.tail _ (.tail _ (.tail _ (.tail _ (.tail _ (.tail _ (.tail _ (.tail _ (.tail _ (.head _)))))))))) (.tail _ (.tail _ (.tail _ (.tail _ (.tail _ (.tail _ (.tail _ (.tail _ (.tail _ (.tail _ (.tail _ (.head _))))))))))))))
  go_ret
  exact ⟨rfl, x8.base⟩
end Go.Proofs.YtlhanbjjlifjjaaGreat
