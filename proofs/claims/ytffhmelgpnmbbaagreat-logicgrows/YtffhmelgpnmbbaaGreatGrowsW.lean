/-
  LogicGrows, walked.
-/
import Derived.Test.YtffhmelgpnmbbaaGreatLgc
namespace Go.Proofs.YtffhmelgpnmbbaaGreat
open Go Go.RowKit
open Rf (tab word IsTab)

set_option maxRecDepth 100000 in
set_option maxHeartbeats 4000000 in
theorem grows_walk (F G H : Nat → Bool) (W : World) :
    Calls Tryz.prog 5 #[tab F, tab G, tab H] W fun e w' => e = .returned (.bool true) ∧ Below W.heap.size W w' := by
  conv in #[tab F, tab G, tab H] => unfold tab
  go_enter Tryz.func5, Tryz.ntmps5
  go_upto_region 1 with fail
  obtain ⟨TF, TG, TH, B3, hs⟩ := boxes3 W F G H
  generalize ((W.alloc (.cells #[.int .u64 (word F 0 : Int), .int .u64 (word F 1 : Int), .int .u64 (word F 2 : Int), .int .u64 (word F 3 : Int)] 24)).alloc (.cells #[.int .u64 (word G 0 : Int), .int .u64 (word G 1 : Int), .int .u64 (word G 2 : Int), .int .u64 (word G 3 : Int)] 24)).alloc (.cells #[.int .u64 (word H 0 : Int), .int .u64 (word H 1 : Int), .int .u64 (word H 2 : Int), .int .u64 (word H 3 : Int)] 24) = v3 at TF TG TH B3 hs ⊢
  have B3A : Aside (Below W.heap.size W v3) := B3
  clear hs B3
  generalize W.heap.size + 1 + 1 = bh at TH ⊢
  generalize W.heap.size + 1 = bg at TG ⊢
  generalize W.heap.size = bf at TF ⊢
  have Kk := known_any v3
  go_upto_region 3 with (first
    | (go_at_call 6; refine Kk.mono ?_; clear Kk; rintro e v4 ⟨rfl, b4⟩))
  have TF4 := kept TF b4
  have TG4 := kept TG b4
  have TH4 := kept TH b4
  have B4 : Aside (Below W.heap.size W v4) := Rf.below_far B3A.out b4
  clear TF TG TH B3A b4
  have K3 := three_any v4 F G H
  unfold tab at K3
  obtain ⟨p0, p1, p2, p3⟩ := TF4.copy
  obtain ⟨q0, q1, q2, q3⟩ := TG4.copy
  obtain ⟨r0, r1, r2, r3⟩ := TH4.copy
  go_upto_region 4 with (first
    | (go_at_call 17; refine K3.mono ?_; clear K3; rintro e v5 ⟨S, a, b, c, rfl, x5⟩))
  have x0 := (x5.rebase B4.out).below (nb v5 (.cells #[.int .u32 (a : Int), .int .u32 (b : Int), .int .u32 (c : Int)] 44))
  have i0 : Is3 (v5.alloc (.cells #[.int .u32 (a : Int), .int .u32 (b : Int), .int .u32 (c : Int)] 44)) v5.heap.size _ _ _ := Go.Deep.blk_alloc_new _ _
  clear p0 p1 p2 p3 q0 q1 q2 q3 r0 r1 r2 r3 TF4 TG4 TH4 x5 B4
  generalize v5.alloc (.cells #[.int .u32 (a : Int), .int .u32 (b : Int), .int .u32 (c : Int)] 44) = v6 at x0 i0 ⊢
  generalize v5.heap.size = br at i0 ⊢
  obtain ⟨i1, i2, i3⟩ := i0.cells
  go_upto_region 6 with fail
  go_region
  have x0 := x0.below ((Below.refl _ v6).drew)
  generalize v6.drew = w0 at x0 ⊢
  clear i1 i2 i3 i0
  have KM := must_x
  have C0 : Calls Tryz.prog 20 #[.pointer (some ⟨S, 0, none⟩), .int .u32 (a : Int), .int .u32 (b : Int)] w0 _ := and_x x0 (x := a) (X := F) (y := b) (Y := G) (.tail _ (.tail _ (.head _))) (.tail _ (.head _)) 63 (by decide) (by decide)
  
  go_wp2_with (first
    | (go_at_call 18; refine (KM _ _).mono ?_; rintro e w ⟨rfl, e⟩; subst w)
    | (go_at_call 20; refine C0.mono ?_; clear C0; rintro e w1 ⟨ad, rfl, x1, u1⟩; clear u1 x0; have C1 : Calls Tryz.prog 21 #[.pointer (some ⟨S, 0, none⟩), .int .u32 (a : Int), .int .u32 (b : Int)] w1 _ := or_x x1 (x := a) (X := F) (y := b) (Y := G) (.tail _ (.tail _ (.tail _ (.head _)))) (.tail _ (.tail _ (.head _))) 63 (by decide) (by decide))
    | (go_at_call 21; refine C1.mono ?_; clear C1; rintro e w2 ⟨od, rfl, x2, u2⟩; clear u2 x1; have C2 : Calls Tryz.prog 20 #[.pointer (some ⟨S, 0, none⟩), .int .u32 (a : Int), .int .u32 (od : Int)] w2 _ := and_x x2 (x := a) (X := F) (y := od) (Y := (fO F G)) (.tail _ (.tail _ (.tail _ (.tail _ (.head _))))) (.head _) 63 (by decide) (by decide))
    | (go_at_call 20; refine C2.mono ?_; clear C2; rintro e w3 ⟨e1, rfl, x3, u3⟩; clear u3 x2; have hsm : e1 = a := x3.same (X := (fA F (fO F G))) (Y := F) (.head _) (.tail _ (.tail _ (.tail _ (.tail _ (.tail _ (.head _)))))) (fun y _ => (by decide : ∀ p q r : Bool, (p && (p || q)) = p) (F y) (G y) (H y)); subst e1; have C3 : Calls Tryz.prog 21 #[.pointer (some ⟨S, 0, none⟩), .int .u32 (ad : Int), .int .u32 (b : Int)] w3 _ := or_x x3 (x := ad) (X := (fA F G)) (y := b) (Y := G) (.tail _ (.tail _ (.head _))) (.tail _ (.tail _ (.tail _ (.tail _ (.head _))))) 63 (by decide) (by decide))
    | (go_at_call 21; refine C3.mono ?_; clear C3; rintro e w4 ⟨e2, rfl, x4, u4⟩; clear u4 x3; have hsm : e2 = b := x4.same (X := (fO (fA F G) G)) (Y := G) (.head _) (.tail _ (.tail _ (.tail _ (.tail _ (.tail _ (.head _)))))) (fun y _ => (by decide : ∀ p q r : Bool, ((p && q) || q) = q) (F y) (G y) (H y)); subst e2; have C4 : Calls Tryz.prog 23 #[.pointer (some ⟨S, 0, none⟩), .int .u32 (a : Int), .int .u32 (b : Int), .int .u32 1] w4 _ := ite_x x4 (x := a) (X := F) (y := b) (Y := G) (z := 1) (Z := c1) (.tail _ (.tail _ (.tail _ (.tail _ (.tail _ (.tail _ (.head _))))))) (.tail _ (.tail _ (.tail _ (.tail _ (.tail _ (.head _)))))) (.tail _ (.tail _ (.tail _ (.tail _ (.tail _ (.tail _ (.tail _ (.tail _ (.head _))))))))) 63 (by decide) (by decide))
    | (go_at_call 23; refine C4.mono ?_; clear C4; rintro e w5 ⟨im, rfl, x5, u5⟩; clear u5 x4; obtain ⟨zz, g1, g2, g3⟩ := grow_same (x5.one (x := im) (X := (fI F G c1)) (y := 1) (Y := c1) (.head _) (.tail _ (.tail _ (.tail _ (.tail _ (.tail _ (.tail _ (.tail _ (.tail _ (.tail _ (.head _))))))))))) (x5.one (x := ad) (X := (fA F G)) (y := a) (Y := F) (.tail _ (.tail _ (.tail _ (.tail _ (.head _))))) (.tail _ (.tail _ (.tail _ (.tail _ (.tail _ (.tail _ (.tail _ (.head _))))))))) (x5.one (x := od) (X := (fO F G)) (y := b) (Y := G) (.tail _ (.tail _ (.tail _ (.head _)))) (.tail _ (.tail _ (.tail _ (.tail _ (.tail _ (.tail _ (.head _)))))))); have C5 : Calls Tryz.prog 23 #[.pointer (some ⟨S, 0, none⟩), .int .u32 (ad : Int), .int .u32 (od : Int), .int .u32 1] w5 _ := ite_x x5 (x := ad) (X := (fA F G)) (y := od) (Y := (fO F G)) (z := 1) (Z := c1) (.tail _ (.tail _ (.tail _ (.tail _ (.head _))))) (.tail _ (.tail _ (.tail _ (.head _)))) (.tail _ (.tail _ (.tail _ (.tail _ (.tail _ (.tail _ (.tail _ (.tail _ (.tail _ (.head _)))))))))) 63 (by decide) (by decide))
    | (go_at_call 23; refine C5.mono ?_; clear C5; rintro e w6 ⟨e3, rfl, x6, u6⟩; clear u6 x5; have hsm : e3 = 1 := x6.same (X := (fI (fA F G) (fO F G) c1)) (Y := c1) (.head _) (.tail _ (.tail _ (.tail _ (.tail _ (.tail _ (.tail _ (.tail _ (.tail _ (.tail _ (.tail _ (.head _))))))))))) (fun y _ => (by decide : ∀ p q r : Bool, (if (p && q) then (p || q) else true) = true) (F y) (G y) (H y)); subst e3))
  go_ret
  exact ⟨rfl, x6.base⟩
end Go.Proofs.YtffhmelgpnmbbaaGreat
