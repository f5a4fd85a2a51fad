/-
  QuantJoins, walked.
-/
import Derived.Test.YtlhanbjjlifjjaaGreatQtT
namespace Go.Proofs.YtlhanbjjlifjjaaGreat
open Go Go.RowKit
open Rf (tab word IsTab)

set_option maxRecDepth 100000 in
set_option maxHeartbeats 4000000 in
theorem joins_walk (F G : Nat → Bool) (m : Nat) (W : World) (hm : m < 2 ^ 8) :
    Calls Tryz.prog 7 #[tab F, tab G, .int .u8 (m : Int)] W fun e w' => e = .returned (.bool true) ∧ Below W.heap.size W w' := by
  conv in #[tab F, tab G, Value.int .u8 (m : Int)] => unfold tab
  go_enter Tryz.func7, Tryz.ntmps7
  go_upto_region 1 with fail
  obtain ⟨TF, TG, B3⟩ := boxes2 W F G
  generalize (W.alloc (.cells #[.int .u64 (word F 0 : Int), .int .u64 (word F 1 : Int), .int .u64 (word F 2 : Int), .int .u64 (word F 3 : Int)] 24)).alloc (.cells #[.int .u64 (word G 0 : Int), .int .u64 (word G 1 : Int), .int .u64 (word G 2 : Int), .int .u64 (word G 3 : Int)] 24) = v3 at TF TG B3 ⊢
  have B3A : Aside (Below W.heap.size W v3) := B3
  clear B3
  generalize W.heap.size + 1 = bg at TG ⊢
  generalize W.heap.size = bf at TF ⊢
  have Kk := known_any v3
  go_upto_region 3 with (first
    | (go_at_call 9; refine Kk.mono ?_; clear Kk; rintro e v4 ⟨rfl, b4⟩))
  have TF4 := kept TF b4
  have TG4 := kept TG b4
  have B4 : Aside (Below W.heap.size W v4) := Rf.below_far B3A.out b4
  clear TF TG B3A b4
  have K3 := two_any v4 F G
  unfold tab at K3
  obtain ⟨p0, p1, p2, p3⟩ := TF4.copy
  obtain ⟨q0, q1, q2, q3⟩ := TG4.copy
  go_upto_region 4 with (first
    | (go_at_call 28; refine K3.mono ?_; clear K3; rintro e w0 ⟨S, a, b, rfl, x5, b5⟩))
  have x0 := x5.rebase B4.out
  clear p0 p1 p2 p3 q0 q1 q2 q3 TG4 TF4 x5 B4 b5
  have KM := must_x
  have C0 : Calls Tryz.prog 14 #[.pointer (some ⟨S, 0, none⟩), .int .u32 (a : Int), .int .u8 (m : Int)] w0 _ := ex_x (m := m) x0 (x := a) (X := F) (.tail _ (.head _)) hm 384 (by decide) (by decide)
  go_wp2_with (first
    | (go_at_call 29; refine (KM _ _).mono ?_; rintro e w ⟨rfl, e⟩; subst w)
    | (go_at_call 14; refine C0.mono ?_; clear C0; rintro e w1 ⟨p, rfl, x1, u1⟩; clear u1 x0; have C1 : Calls Tryz.prog 14 #[.pointer (some ⟨S, 0, none⟩), .int .u32 (b : Int), .int .u8 (m : Int)] w1 _ := ex_x (m := m) x1 (x := b) (X := G) (.tail _ (.head _)) hm 384 (by decide) (by decide))
    | (go_at_call 14; refine C1.mono ?_; clear C1; rintro e w2 ⟨q, rfl, x2, u2⟩; clear u2 x1; have C2 : Calls Tryz.prog 15 #[.pointer (some ⟨S, 0, none⟩), .int .u32 (a : Int), .int .u8 (m : Int)] w2 _ := all_x (m := m) x2 (x := a) (X := F) (.tail _ (.tail _ (.tail _ (.head _)))) hm 384 (by decide) (by decide))
    | (go_at_call 15; refine C2.mono ?_; clear C2; rintro e w3 ⟨u, rfl, x3, u3⟩; clear u3 x2; have C3 : Calls Tryz.prog 15 #[.pointer (some ⟨S, 0, none⟩), .int .u32 (b : Int), .int .u8 (m : Int)] w3 _ := all_x (m := m) x3 (x := b) (X := G) (.tail _ (.tail _ (.tail _ (.head _)))) hm 384 (by decide) (by decide))
    | (go_at_call 15; refine C3.mono ?_; clear C3; rintro e w4 ⟨v, rfl, x4, u4⟩; clear u4 x3; have C4 : Calls Tryz.prog 23 #[.pointer (some ⟨S, 0, none⟩), .int .u32 (a : Int), .int .u32 (b : Int)] w4 _ := or_x x4 (x := a) (X := F) (y := b) (Y := G) (.tail _ (.tail _ (.tail _ (.tail _ (.tail _ (.head _)))))) (.tail _ (.tail _ (.tail _ (.tail _ (.head _))))) 63 (by decide) (by decide))
    | (go_at_call 23; refine C4.mono ?_; clear C4; rintro e w5 ⟨od, rfl, x5, u5⟩; clear u5 x4; have C5 : Calls Tryz.prog 24 #[.pointer (some ⟨S, 0, none⟩), .int .u32 (a : Int), .int .u32 (b : Int)] w5 _ := and_x x5 (x := a) (X := F) (y := b) (Y := G) (.tail _ (.tail _ (.tail _ (.tail _ (.tail _ (.tail _ (.head _))))))) (.tail _ (.tail _ (.tail _ (.tail _ (.tail _ (.head _)))))) 63 (by decide) (by decide))
    | (go_at_call 24; refine C5.mono ?_; clear C5; rintro e w6 ⟨ad, rfl, x6, u6⟩; clear u6 x5; have C6 : Calls Tryz.prog 14 #[.pointer (some ⟨S, 0, none⟩), .int .u32 (ad : Int), .int .u8 (m : Int)] w6 _ := ex_x (m := m) x6 (x := ad) (X := (fA F G)) (.head _) hm 384 (by decide) (by decide))
    | (go_at_call 14; refine C6.mono ?_; clear C6; rintro e w7 ⟨x, rfl, x7, u7⟩; clear u7 x6; have C7 : Calls Tryz.prog 14 #[.pointer (some ⟨S, 0, none⟩), .int .u32 (od : Int), .int .u8 (m : Int)] w7 _ := ex_x (m := m) x7 (x := od) (X := (fO F G)) (.tail _ (.tail _ (.head _))) hm 384 (by decide) (by decide))
    | (go_at_call 14; refine C7.mono ?_; clear C7; rintro e w8 ⟨e1, rfl, x8, u8⟩; clear u8 x7; have C8 : Calls Tryz.prog 23 #[.pointer (some ⟨S, 0, none⟩), .int .u32 (p : Int), .int .u32 (q : Int)] w8 _ := or_x x8 (x := p) (X := (exQ m F)) (y := q) (Y := (exQ m G)) (.tail _ (.tail _ (.tail _ (.tail _ (.tail _ (.tail _ (.tail _ (.head _)))))))) (.tail _ (.tail _ (.tail _ (.tail _ (.tail _ (.tail _ (.head _))))))) 63 (by decide) (by decide))
    | (go_at_call 23; refine C8.mono ?_; clear C8; rintro e w9 ⟨e2, rfl, x9, u9⟩; clear u9 x8; have hsm : e2 = e1 := x9.same (X := (fO (exQ m F) (exQ m G))) (Y := (exQ m (fO F G))) (.head _) (.tail _ (.head _)) (ex_or m F G); subst e2; have C9 : Calls Tryz.prog 15 #[.pointer (some ⟨S, 0, none⟩), .int .u32 (ad : Int), .int .u8 (m : Int)] w9 _ := all_x (m := m) x9 (x := ad) (X := (fA F G)) (.tail _ (.tail _ (.tail _ (.head _)))) hm 384 (by decide) (by decide))
    | (go_at_call 15; refine C9.mono ?_; clear C9; rintro e w10 ⟨e3, rfl, x10, u10⟩; clear u10 x9; have C10 : Calls Tryz.prog 24 #[.pointer (some ⟨S, 0, none⟩), .int .u32 (u : Int), .int .u32 (v : Int)] w10 _ := and_x x10 (x := u) (X := (allQ m F)) (y := v) (Y := (allQ m G)) (.tail _ (.tail _ (.tail _ (.tail _ (.tail _ (.tail _ (.tail _ (.head _)))))))) (.tail _ (.tail _ (.tail _ (.tail _ (.tail _ (.tail _ (.head _))))))) 63 (by decide) (by decide))
    | (go_at_call 24; refine C10.mono ?_; clear C10; rintro e w11 ⟨e4, rfl, x11, u11⟩; clear u11 x10; have hsm : e4 = e3 := x11.same (X := (fA (allQ m F) (allQ m G))) (Y := (allQ m (fA F G))) (.head _) (.tail _ (.head _)) (all_and m F G); subst e4; have C11 : Calls Tryz.prog 24 #[.pointer (some ⟨S, 0, none⟩), .int .u32 (p : Int), .int .u32 (q : Int)] w11 _ := and_x x11 (x := p) (X := (exQ m F)) (y := q) (Y := (exQ m G)) (.tail _ (.tail _ (.tail _ (.tail _ (.tail _ (.tail _ (.tail _ (.tail _ (.tail _ (.tail _ (.head _))))))))))) (.tail _ (.tail _ (.tail _ (.tail _ (.tail _ (.tail _ (.tail _ (.tail _ (.tail _ (.head _)))))))))) 63 (by decide) (by decide))
    | (go_at_call 24; refine C11.mono ?_; clear C11; rintro e w12 ⟨e5, rfl, x12, u12⟩; clear u12 x11; have C12 : Calls Tryz.prog 24 #[.pointer (some ⟨S, 0, none⟩), .int .u32 (x : Int), .int .u32 (e5 : Int)] w12 _ := and_x x12 (x := x) (X := (exQ m (fA F G))) (y := e5) (Y := (fA (exQ m F) (exQ m G))) (.tail _ (.tail _ (.tail _ (.tail _ (.tail _ (.head _)))))) (.head _) 63 (by decide) (by decide))
    | (go_at_call 24; refine C12.mono ?_; clear C12; rintro e w13 ⟨e6, rfl, x13, u13⟩; clear u13 x12; have hsm : e6 = x := x13.same (X := (fA (exQ m (fA F G)) (fA (exQ m F) (exQ m G)))) (Y := (exQ m (fA F G))) (.head _) (.tail _ (.tail _ (.tail _ (.tail _ (.tail _ (.tail _ (.head _))))))) (ex_and m F G); subst e6; have C13 : Calls Tryz.prog 23 #[.pointer (some ⟨S, 0, none⟩), .int .u32 (a : Int), .int .u32 (p : Int)] w13 _ := or_x x13 (x := a) (X := F) (y := p) (Y := (exQ m F)) (.tail _ (.tail _ (.tail _ (.tail _ (.tail _ (.tail _ (.tail _ (.tail _ (.tail _ (.tail _ (.tail _ (.tail _ (.tail _ (.tail _ (.head _))))))))))))))) (.tail _ (.tail _ (.tail _ (.tail _ (.tail _ (.tail _ (.tail _ (.tail _ (.tail _ (.tail _ (.tail _ (.tail _ (.head _))))))))))))) 63 (by decide) (by decide))
    | (go_at_call 23; refine C13.mono ?_; clear C13; rintro e w14 ⟨e7, rfl, x14, u14⟩; clear u14 x13; have hsm : e7 = p := x14.same (X := (fO F (exQ m F))) (Y := (exQ m F)) (.head _) (.tail _ (.tail _ (.tail _ (.tail _ (.tail _ (.tail _ (.tail _ (.tail _ (.tail _ (.tail _ (.tail _ (.tail _ (.tail _ (.head _)))))))))))))) (ex_up m F); subst e7; have C14 : Calls Tryz.prog 24 #[.pointer (some ⟨S, 0, none⟩), .int .u32 (a : Int), .int .u32 (u : Int)] w14 _ := and_x x14 (x := a) (X := F) (y := u) (Y := (allQ m F)) (.tail _ (.tail _ (.tail _ (.tail _ (.tail _ (.tail _ (.tail _ (.tail _ (.tail _ (.tail _ (.tail _ (.tail _ (.tail _ (.tail _ (.tail _ (.head _)))))))))))))))) (.tail _ (.tail _ (.tail _ (.tail _ (.tail _ (.tail _ (.tail _ (.tail _ (.tail _ (.tail _ (.tail _ (.head _)))))))))))) 63 (by decide) (by decide))
    | (go_at_call 24; refine C14.mono ?_; clear C14; rintro e w15 ⟨e8, rfl, x15, u15⟩; clear u15 x14; have hsm : e8 = u := x15.same (X := (fA F (allQ m F))) (Y := (allQ m F)) (.head _) (.tail _ (.tail _ (.tail _ (.tail _ (.tail _ (.tail _ (.tail _ (.tail _ (.tail _ (.tail _ (.tail _ (.tail _ (.head _))))))))))))) (all_down m F); subst e8))
  go_ret
  exact ⟨rfl, x15.base⟩
end Go.Proofs.YtlhanbjjlifjjaaGreat
