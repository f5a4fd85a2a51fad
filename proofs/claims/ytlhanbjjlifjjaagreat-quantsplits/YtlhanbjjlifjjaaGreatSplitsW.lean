/-
  QuantSplits, walked.
-/
import Derived.Test.YtlhanbjjlifjjaaGreatQtT
namespace Go.Proofs.YtlhanbjjlifjjaaGreat
open Go Go.RowKit
open Rf (tab word IsTab)

set_option maxRecDepth 100000 in
set_option maxHeartbeats 4000000 in
theorem splits_walk (F : Nat → Bool) (ma mb : Nat) (W : World) (hma : ma < 2 ^ 8) (hmb : mb < 2 ^ 8) :
    Calls Tryz.prog 6 #[tab F, .int .u8 (ma : Int), .int .u8 (mb : Int)] W fun e w' => e = .returned (.bool true) ∧ Below W.heap.size W w' := by
  have hor : bits .or .u8 (ma : Int) (mb : Int) = ((ma ||| mb : Nat) : Int) := u8_or_nat _ _ hma hmb
  have hmo : ma ||| mb < 2 ^ 8 := Nat.or_lt_two_pow hma hmb
  conv in #[tab F, Value.int .u8 (ma : Int), Value.int .u8 (mb : Int)] => unfold tab
  go_enter Tryz.func6, Tryz.ntmps6
  go_upto_region 1 with fail
  have TF := IsTab.new W F
  have B3 := nb W (.cells #[.int .u64 (word F 0 : Int), .int .u64 (word F 1 : Int), .int .u64 (word F 2 : Int), .int .u64 (word F 3 : Int)] 24)
  generalize W.alloc (.cells #[.int .u64 (word F 0 : Int), .int .u64 (word F 1 : Int), .int .u64 (word F 2 : Int), .int .u64 (word F 3 : Int)] 24) = v3 at TF B3 ⊢
  have B3A : Aside (Below W.heap.size W v3) := B3
  clear B3
  generalize W.heap.size = bf at TF ⊢
  have Kk := known_any v3
  go_upto_region 3 with (first
    | (go_at_call 9; refine Kk.mono ?_; clear Kk; rintro e v4 ⟨rfl, b4⟩))
  have TF4 := kept TF b4
  have B4 : Aside (Below W.heap.size W v4) := Rf.below_far B3A.out b4
  clear TF B3A b4
  have K3 := two_any v4 F F
  unfold tab at K3
  obtain ⟨p0, p1, p2, p3⟩ := TF4.copy
  go_upto_region 4 with (first
    | (go_at_call 28; refine K3.mono ?_; clear K3; rintro e w0 ⟨S, a, b, rfl, x5, b5⟩))
  have x0 := x5.rebase B4.out
  clear p0 p1 p2 p3 TF4 x5 B4 b5
  have KM := must_x
  have C0 : Calls Tryz.prog 14 #[.pointer (some ⟨S, 0, none⟩), .int .u32 (a : Int), .int .u8 (ma : Int)] w0 _ := ex_x (m := ma) x0 (x := a) (X := F) (.tail _ (.head _)) hma 384 (by decide) (by decide)
  go_wp2_with (first
    | (go_at_call 29; refine (KM _ _).mono ?_; rintro e w ⟨rfl, e⟩; subst w)
    | (go_at_call 14; refine C0.mono ?_; clear C0; rintro e w1 ⟨e1, rfl, x1, u1⟩; clear u1 x0; have C1 : Calls Tryz.prog 14 #[.pointer (some ⟨S, 0, none⟩), .int .u32 (e1 : Int), .int .u8 (mb : Int)] w1 _ := ex_x (m := mb) x1 (x := e1) (X := (exQ ma F)) (.head _) hmb 384 (by decide) (by decide))
    | (go_at_call 14; refine C1.mono ?_; clear C1; rintro e w2 ⟨e2, rfl, x2, u2⟩; clear u2 x1; have C2 : Calls Tryz.prog 14 #[.pointer (some ⟨S, 0, none⟩), .int .u32 (a : Int), .int .u8 ((ma ||| mb : Nat) : Int)] w2 _ := ex_x (m := (ma ||| mb)) x2 (x := a) (X := F) (.tail _ (.tail _ (.tail _ (.head _)))) hmo 384 (by decide) (by decide))
    | (go_at_call 14; refine C2.mono ?_; clear C2; rintro e w3 ⟨e3, rfl, x3, u3⟩; clear u3 x2; have hsm : e3 = e2 := x3.same (X := (exQ (ma ||| mb) F)) (Y := (exQ mb (exQ ma F))) (.head _) (.tail _ (.head _)) ((ex_ex ma mb F).symm); subst e3; have C3 : Calls Tryz.prog 15 #[.pointer (some ⟨S, 0, none⟩), .int .u32 (a : Int), .int .u8 (mb : Int)] w3 _ := all_x (m := mb) x3 (x := a) (X := F) (.tail _ (.tail _ (.tail _ (.tail _ (.head _))))) hmb 384 (by decide) (by decide))
    | (go_at_call 15; refine C3.mono ?_; clear C3; rintro e w4 ⟨f1, rfl, x4, u4⟩; clear u4 x3; have C4 : Calls Tryz.prog 15 #[.pointer (some ⟨S, 0, none⟩), .int .u32 (f1 : Int), .int .u8 (ma : Int)] w4 _ := all_x (m := ma) x4 (x := f1) (X := (allQ mb F)) (.head _) hma 384 (by decide) (by decide))
    | (go_at_call 15; refine C4.mono ?_; clear C4; rintro e w5 ⟨f2, rfl, x5, u5⟩; clear u5 x4; have C5 : Calls Tryz.prog 15 #[.pointer (some ⟨S, 0, none⟩), .int .u32 (a : Int), .int .u8 ((ma ||| mb : Nat) : Int)] w5 _ := all_x (m := (ma ||| mb)) x5 (x := a) (X := F) (.tail _ (.tail _ (.tail _ (.tail _ (.tail _ (.tail _ (.head _))))))) hmo 384 (by decide) (by decide))
    | (go_at_call 15; refine C5.mono ?_; clear C5; rintro e w6 ⟨f3, rfl, x6, u6⟩; clear u6 x5; have hsm : f3 = f2 := x6.same (X := (allQ (ma ||| mb) F)) (Y := (allQ ma (allQ mb F))) (.head _) (.tail _ (.head _)) ((all_all ma mb F).symm); subst f3; have C6 : Calls Tryz.prog 14 #[.pointer (some ⟨S, 0, none⟩), .int .u32 (a : Int), .int .u8 0] w6 _ := ex_x (m := 0) x6 (x := a) (X := F) (.tail _ (.tail _ (.tail _ (.tail _ (.tail _ (.tail _ (.tail _ (.head _)))))))) (by decide) 384 (by decide) (by decide))
    | (go_at_call 14; refine C6.mono ?_; clear C6; rintro e w7 ⟨g1, rfl, x7, u7⟩; clear u7 x6; have hsm : g1 = a := x7.same (X := (exQ 0 F)) (Y := F) (.head _) (.tail _ (.tail _ (.tail _ (.tail _ (.tail _ (.tail _ (.tail _ (.tail _ (.head _))))))))) (ex_none F); subst g1; have C7 : Calls Tryz.prog 16 #[.pointer (some ⟨S, 0, none⟩), .int .u32 (a : Int), .int .u8 0, .int .u8 (ma : Int)] w7 _ := res_x (m := 0) (nv := ma) x7 (x := a) (X := F) (.tail _ (.tail _ (.tail _ (.tail _ (.tail _ (.tail _ (.tail _ (.tail _ (.head _))))))))) (by decide) hma 384 (by decide) (by decide))
    | (go_at_call 16; refine C7.mono ?_; clear C7; rintro e w8 ⟨g2, rfl, x8, u8⟩; clear u8 x7; have hsm : g2 = a := x8.same (X := (resQ 0 ma F)) (Y := F) (.head _) (.tail _ (.tail _ (.tail _ (.tail _ (.tail _ (.tail _ (.tail _ (.tail _ (.tail _ (.head _)))))))))) (res_none ma hma F); subst g2))
  go_ret
  exact ⟨rfl, x8.base⟩
end Go.Proofs.YtlhanbjjlifjjaaGreat
