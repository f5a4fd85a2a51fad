/-
  LogicItes, walked.
-/
import Derived.Test.YthadeopmnedccaaGreatLgc
namespace Go.Proofs.YthadeopmnedccaaGreat
open Go Go.RowKit
open Rf (tab word IsTab)

set_option maxRecDepth 100000 in
set_option maxHeartbeats 4000000 in
theorem ites_walk (F G H : Nat → Bool) (W : World) :
    Calls Tryz.prog 8 #[tab F, tab G, tab H] W fun e w' => e = .returned (.bool true) ∧ Below W.heap.size W w' := by
  conv in #[tab F, tab G, tab H] => unfold tab
  go_enter Tryz.func8, Tryz.ntmps8
  go_upto_region 1 with fail
  obtain ⟨TF, TG, TH, B3, hs⟩ := boxes3 W F G H
  generalize ((W.alloc (.cells #[.int .u64 (word F 0 : Int), .int .u64 (word F 1 : Int), .int .u64 (word F 2 : Int), .int .u64 (word F 3 : Int)] 24)).alloc (.cells #[.int .u64 (word G 0 : Int), .int .u64 (word G 1 : Int), .int .u64 (word G 2 : Int), .int .u64 (word G 3 : Int)] 24)).alloc (.cells #[.int .u64 (word H 0 : Int), .int .u64 (word H 1 : Int), .int .u64 (word H 2 : Int), .int .u64 (word H 3 : Int)] 24) = v3 at TF TG TH B3 hs ⊢
  have B3A : Aside (Below W.heap.size W v3) := B3
  clear hs B3
  generalize W.heap.size + 1 + 1 = bh at TH ⊢
  generalize W.heap.size + 1 = bg at TG ⊢
  generalize W.heap.size = bf at TF ⊢
  have Kk := known_any v3
  go_upto_region 3 with (first
    | (go_at_call 9; refine Kk.mono ?_; clear Kk; rintro e v4 ⟨rfl, b4⟩))
  have TF4 := kept TF b4
  have TG4 := kept TG b4
  have TH4 := kept TH b4
  have B4 : Aside (Below W.heap.size W v4) := Rf.below_far B3A.out b4
  clear TF TG TH B3A b4
  have K3 := three_any v4 F G H
  unfold tab at K3
  obtain ⟨p0, p1, p2, p3⟩ := TF4.copy
  obtain ⟨q0, q1, q2, q3⟩ := TG4.copy
  obtain ⟨r0, r1, r2, r3⟩ := TH4.copy
  go_upto_region 4 with (first
    | (go_at_call 24; refine K3.mono ?_; clear K3; rintro e v5 ⟨S, a, b, c, rfl, x5⟩))
  have x0 := (x5.rebase B4.out).below (nb v5 (.cells #[.int .u32 (a : Int), .int .u32 (b : Int), .int .u32 (c : Int)] 51))
  have i0 : Is3 (v5.alloc (.cells #[.int .u32 (a : Int), .int .u32 (b : Int), .int .u32 (c : Int)] 51)) v5.heap.size _ _ _ := Go.Deep.blk_alloc_new _ _
  clear p0 p1 p2 p3 q0 q1 q2 q3 r0 r1 r2 r3 TF4 TG4 TH4 x5 B4
  generalize v5.alloc (.cells #[.int .u32 (a : Int), .int .u32 (b : Int), .int .u32 (c : Int)] 51) = v6 at x0 i0 ⊢
  generalize v5.heap.size = br at i0 ⊢
  obtain ⟨i1, i2, i3⟩ := i0.cells
  go_upto_region 6 with fail
  go_region
  have x0 := x0.below ((Below.refl _ v6).drew)
  generalize v6.drew = w0 at x0 ⊢
  clear i1 i2 i3 i0
  have KM := must_x
  have C0 : Calls Tryz.prog 30 #[.pointer (some ⟨S, 0, none⟩), .int .u32 (a : Int), .int .u32 (b : Int), .int .u32 (c : Int)] w0 _ := ite_x x0 (x := a) (X := F) (y := b) (Y := G) (z := c) (Z := H) (.tail _ (.tail _ (.head _))) (.tail _ (.head _)) (.head _) 63 (by decide) (by decide)
  
  go_wp2_with (first
    | (go_at_call 25; refine (KM _ _).mono ?_; rintro e w ⟨rfl, e⟩; subst w)
    | (go_at_call 30; refine C0.mono ?_; clear C0; rintro e w1 ⟨i, rfl, x1, u1⟩; clear u1 x0; have C1 : Calls Tryz.prog 27 #[.pointer (some ⟨S, 0, none⟩), .int .u32 (a : Int), .int .u32 (b : Int)] w1 _ := and_x x1 (x := a) (X := F) (y := b) (Y := G) (.tail _ (.tail _ (.tail _ (.head _)))) (.tail _ (.tail _ (.head _))) 63 (by decide) (by decide))
    | (go_at_call 27; refine C1.mono ?_; clear C1; rintro e w2 ⟨t1, rfl, x2, u2⟩; clear u2 x1; have C2 : Calls Tryz.prog 26 #[.pointer (some ⟨S, 0, none⟩), .int .u32 (a : Int)] w2 _ := not_x x2 (x := a) (X := F) (.tail _ (.tail _ (.tail _ (.tail _ (.head _))))) 63 (by decide) (by decide))
    | (go_at_call 26; refine C2.mono ?_; clear C2; rintro e w3 ⟨t2, rfl, x3, u3⟩; clear u3 x2; have C3 : Calls Tryz.prog 27 #[.pointer (some ⟨S, 0, none⟩), .int .u32 (t2 : Int), .int .u32 (c : Int)] w3 _ := and_x x3 (x := t2) (X := (fN F)) (y := c) (Y := H) (.head _) (.tail _ (.tail _ (.tail _ (.head _)))) 63 (by decide) (by decide))
    | (go_at_call 27; refine C3.mono ?_; clear C3; rintro e w4 ⟨t3, rfl, x4, u4⟩; clear u4 x3; have C4 : Calls Tryz.prog 28 #[.pointer (some ⟨S, 0, none⟩), .int .u32 (t1 : Int), .int .u32 (t3 : Int)] w4 _ := or_x x4 (x := t1) (X := (fA F G)) (y := t3) (Y := (fA (fN F) H)) (.tail _ (.tail _ (.head _))) (.head _) 63 (by decide) (by decide))
    | (go_at_call 28; refine C4.mono ?_; clear C4; rintro e w5 ⟨e1, rfl, x5, u5⟩; clear u5 x4; have hsm : e1 = i := x5.same (X := (fO (fA F G) (fA (fN F) H))) (Y := (fI F G H)) (.head _) (.tail _ (.tail _ (.tail _ (.tail _ (.head _))))) (fun y _ => (by decide : ∀ p q r : Bool, ((p && q) || ((!p) && r)) = (if p then q else r)) (F y) (G y) (H y)); subst e1; have C5 : Calls Tryz.prog 30 #[.pointer (some ⟨S, 0, none⟩), .int .u32 (a : Int), .int .u32 0, .int .u32 1] w5 _ := ite_x x5 (x := a) (X := F) (y := 0) (Y := c0) (z := 1) (Z := c1) (.tail _ (.tail _ (.tail _ (.tail _ (.tail _ (.tail _ (.tail _ (.head _)))))))) (.tail _ (.tail _ (.tail _ (.tail _ (.tail _ (.tail _ (.tail _ (.tail _ (.head _))))))))) (.tail _ (.tail _ (.tail _ (.tail _ (.tail _ (.tail _ (.tail _ (.tail _ (.tail _ (.head _)))))))))) 63 (by decide) (by decide))
    | (go_at_call 30; refine C5.mono ?_; clear C5; rintro e w6 ⟨e2, rfl, x6, u6⟩; clear u6 x5; have hsm : e2 = t2 := x6.same (X := (fI F c0 c1)) (Y := (fN F)) (.head _) (.tail _ (.tail _ (.tail _ (.head _)))) (fun y _ => (by decide : ∀ p q r : Bool, (if p then false else true) = (!p)) (F y) (G y) (H y)); subst e2; have C6 : Calls Tryz.prog 26 #[.pointer (some ⟨S, 0, none⟩), .int .u32 (a : Int)] w6 _ := not_x x6 (x := a) (X := F) (.tail _ (.tail _ (.tail _ (.tail _ (.tail _ (.tail _ (.tail _ (.tail _ (.head _))))))))) 63 (by decide) (by decide))
    | (go_at_call 26; refine C6.mono ?_; clear C6; rintro e w7 ⟨e3, rfl, x7, u7⟩; clear u7 x6; have hsm : e3 = t2 := x7.same (X := (fN F)) (Y := (fN F)) (.head _) (.tail _ (.tail _ (.tail _ (.tail _ (.head _))))) (fun y _ => (by decide : ∀ p q r : Bool, (!p) = (!p)) (F y) (G y) (H y)); subst e3; have C7 : Calls Tryz.prog 30 #[.pointer (some ⟨S, 0, none⟩), .int .u32 (a : Int), .int .u32 (b : Int), .int .u32 0] w7 _ := ite_x x7 (x := a) (X := F) (y := b) (Y := G) (z := 0) (Z := c0) (.tail _ (.tail _ (.tail _ (.tail _ (.tail _ (.tail _ (.tail _ (.tail _ (.tail _ (.head _)))))))))) (.tail _ (.tail _ (.tail _ (.tail _ (.tail _ (.tail _ (.tail _ (.tail _ (.head _))))))))) (.tail _ (.tail _ (.tail _ (.tail _ (.tail _ (.tail _ (.tail _ (.tail _ (.tail _ (.tail _ (.head _))))))))))) 63 (by decide) (by decide))
    | (go_at_call 30; refine C7.mono ?_; clear C7; rintro e w8 ⟨e4, rfl, x8, u8⟩; clear u8 x7; have hsm : e4 = t1 := x8.same (X := (fI F G c0)) (Y := (fA F G)) (.head _) (.tail _ (.tail _ (.tail _ (.tail _ (.tail _ (.tail _ (.head _))))))) (fun y _ => (by decide : ∀ p q r : Bool, (if p then q else false) = (p && q)) (F y) (G y) (H y)); subst e4; have C8 : Calls Tryz.prog 27 #[.pointer (some ⟨S, 0, none⟩), .int .u32 (a : Int), .int .u32 (b : Int)] w8 _ := and_x x8 (x := a) (X := F) (y := b) (Y := G) (.tail _ (.tail _ (.tail _ (.tail _ (.tail _ (.tail _ (.tail _ (.tail _ (.tail _ (.tail _ (.head _))))))))))) (.tail _ (.tail _ (.tail _ (.tail _ (.tail _ (.tail _ (.tail _ (.tail _ (.tail _ (.head _)))))))))) 63 (by decide) (by decide))
    | (go_at_call 27; refine C8.mono ?_; clear C8; rintro e w9 ⟨e5, rfl, x9, u9⟩; clear u9 x8; have hsm : e5 = t1 := x9.same (X := (fA F G)) (Y := (fA F G)) (.head _) (.tail _ (.tail _ (.tail _ (.tail _ (.tail _ (.tail _ (.tail _ (.head _)))))))) (fun y _ => (by decide : ∀ p q r : Bool, (p && q) = (p && q)) (F y) (G y) (H y)); subst e5; have C9 : Calls Tryz.prog 30 #[.pointer (some ⟨S, 0, none⟩), .int .u32 (a : Int), .int .u32 1, .int .u32 (b : Int)] w9 _ := ite_x x9 (x := a) (X := F) (y := 1) (Y := c1) (z := b) (Z := G) (.tail _ (.tail _ (.tail _ (.tail _ (.tail _ (.tail _ (.tail _ (.tail _ (.tail _ (.tail _ (.tail _ (.head _)))))))))))) (.tail _ (.tail _ (.tail _ (.tail _ (.tail _ (.tail _ (.tail _ (.tail _ (.tail _ (.tail _ (.tail _ (.tail _ (.tail _ (.head _)))))))))))))) (.tail _ (.tail _ (.tail _ (.tail _ (.tail _ (.tail _ (.tail _ (.tail _ (.tail _ (.tail _ (.head _))))))))))) 63 (by decide) (by decide))
    | (go_at_call 30; refine C9.mono ?_; clear C9; rintro e w10 ⟨t4, rfl, x10, u10⟩; clear u10 x9; have C10 : Calls Tryz.prog 28 #[.pointer (some ⟨S, 0, none⟩), .int .u32 (a : Int), .int .u32 (b : Int)] w10 _ := or_x x10 (x := a) (X := F) (y := b) (Y := G) (.tail _ (.tail _ (.tail _ (.tail _ (.tail _ (.tail _ (.tail _ (.tail _ (.tail _ (.tail _ (.tail _ (.tail _ (.head _))))))))))))) (.tail _ (.tail _ (.tail _ (.tail _ (.tail _ (.tail _ (.tail _ (.tail _ (.tail _ (.tail _ (.tail _ (.head _)))))))))))) 63 (by decide) (by decide))
    | (go_at_call 28; refine C10.mono ?_; clear C10; rintro e w11 ⟨e6, rfl, x11, u11⟩; clear u11 x10; have hsm : e6 = t4 := x11.same (X := (fO F G)) (Y := (fI F c1 G)) (.head _) (.tail _ (.head _)) (fun y _ => (by decide : ∀ p q r : Bool, (p || q) = (if p then true else q)) (F y) (G y) (H y)); subst e6; have C11 : Calls Tryz.prog 26 #[.pointer (some ⟨S, 0, none⟩), .int .u32 (b : Int)] w11 _ := not_x x11 (x := b) (X := G) (.tail _ (.tail _ (.tail _ (.tail _ (.tail _ (.tail _ (.tail _ (.tail _ (.tail _ (.tail _ (.tail _ (.tail _ (.head _))))))))))))) 63 (by decide) (by decide))
    | (go_at_call 26; refine C11.mono ?_; clear C11; rintro e w12 ⟨t5, rfl, x12, u12⟩; clear u12 x11; have C12 : Calls Tryz.prog 30 #[.pointer (some ⟨S, 0, none⟩), .int .u32 (a : Int), .int .u32 (t5 : Int), .int .u32 (b : Int)] w12 _ := ite_x x12 (x := a) (X := F) (y := t5) (Y := (fN G)) (z := b) (Z := G) (.tail _ (.tail _ (.tail _ (.tail _ (.tail _ (.tail _ (.tail _ (.tail _ (.tail _ (.tail _ (.tail _ (.tail _ (.tail _ (.tail _ (.head _))))))))))))))) (.head _) (.tail _ (.tail _ (.tail _ (.tail _ (.tail _ (.tail _ (.tail _ (.tail _ (.tail _ (.tail _ (.tail _ (.tail _ (.tail _ (.head _)))))))))))))) 63 (by decide) (by decide))
    | (go_at_call 30; refine C12.mono ?_; clear C12; rintro e w13 ⟨t6, rfl, x13, u13⟩; clear u13 x12; have C13 : Calls Tryz.prog 29 #[.pointer (some ⟨S, 0, none⟩), .int .u32 (a : Int), .int .u32 (b : Int)] w13 _ := xor_x x13 (x := a) (X := F) (y := b) (Y := G) (.tail _ (.tail _ (.tail _ (.tail _ (.tail _ (.tail _ (.tail _ (.tail _ (.tail _ (.tail _ (.tail _ (.tail _ (.tail _ (.tail _ (.tail _ (.head _)))))))))))))))) (.tail _ (.tail _ (.tail _ (.tail _ (.tail _ (.tail _ (.tail _ (.tail _ (.tail _ (.tail _ (.tail _ (.tail _ (.tail _ (.tail _ (.head _))))))))))))))) 63 (by decide) (by decide))
    | (go_at_call 29; refine C13.mono ?_; clear C13; rintro e w14 ⟨e7, rfl, x14, u14⟩; clear u14 x13; have hsm : e7 = t6 := x14.same (X := (fX F G)) (Y := (fI F (fN G) G)) (.head _) (.tail _ (.head _)) (fun y _ => (by decide : ∀ p q r : Bool, (xor p q) = (if p then (!q) else q)) (F y) (G y) (H y)); subst e7; have C14 : Calls Tryz.prog 30 #[.pointer (some ⟨S, 0, none⟩), .int .u32 (a : Int), .int .u32 (b : Int), .int .u32 (b : Int)] w14 _ := ite_x x14 (x := a) (X := F) (y := b) (Y := G) (z := b) (Z := G) (.tail _ (.tail _ (.tail _ (.tail _ (.tail _ (.tail _ (.tail _ (.tail _ (.tail _ (.tail _ (.tail _ (.tail _ (.tail _ (.tail _ (.tail _ (.tail _ (.head _))))))))))))))))) (.tail _ (.tail _ (.tail _ (.tail _ (.tail _ (.tail _ (.tail _ (.tail _ (.tail _ (.tail _ (.tail _ (.tail _ (.tail _ (.tail _ (.tail _ (.head _)))))))))))))))) (.tail _ (.tail _ (.tail _ (.tail _ (.tail _ (.tail _ (.tail _ (.tail _ (.tail _ (.tail _ (.tail _ (.tail _ (.tail _ (.tail _ (.tail _ (.head _)))))))))))))))) 63 (by decide) (by decide))
    | (go_at_call 30; refine C14.mono ?_; clear C14; rintro e w15 ⟨e8, rfl, x15, u15⟩; clear u15 x14; have hsm : e8 = b := x15.same (X := (fI F G G)) (Y := G) (.head _) (.tail _ (.tail _ (.tail _ (.tail _ (.tail _ (.tail _ (.tail _ (.tail _ (.tail _ (.tail _ (.tail _ (.tail _ (.tail _ (.tail _ (.tail _ (.tail _ (.head _))))))))))))))))) (fun y _ => (by decide : ∀ p q r : Bool, (if p then q else q) = q) (F y) (G y) (H y)); subst e8; have C15 : Calls Tryz.prog 30 #[.pointer (some ⟨S, 0, none⟩), .int .u32 (a : Int), .int .u32 1, .int .u32 0] w15 _ := ite_x x15 (x := a) (X := F) (y := 1) (Y := c1) (z := 0) (Z := c0) (.tail _ (.tail _ (.tail _ (.tail _ (.tail _ (.tail _ (.tail _ (.tail _ (.tail _ (.tail _ (.tail _ (.tail _ (.tail _ (.tail _ (.tail _ (.tail _ (.tail _ (.head _)))))))))))))))))) (.tail _ (.tail _ (.tail _ (.tail _ (.tail _ (.tail _ (.tail _ (.tail _ (.tail _ (.tail _ (.tail _ (.tail _ (.tail _ (.tail _ (.tail _ (.tail _ (.tail _ (.tail _ (.tail _ (.head _)))))))))))))))))))) (.tail _ (.tail _ (.tail _ (.tail _ (.tail _ (.tail _ (.tail _ (.tail _ (.tail _ (.tail _ (.tail _ (.tail _ (.tail _ (.tail _ (.tail _ (.tail _ (.tail _ (.tail _ (.head _))))))))))))))))))) 63 (by decide) (by decide))
    | (go_at_call 30; refine C15.mono ?_; clear C15; rintro e w16 ⟨e9, rfl, x16, u16⟩; clear u16 x15; have hsm : e9 = a := x16.same (X := (fI F c1 c0)) (Y := F) (.head _) (.tail _ (.tail _ (.tail _ (.tail _ (.tail _ (.tail _ (.tail _ (.tail _ (.tail _ (.tail _ (.tail _ (.tail _ (.tail _ (.tail _ (.tail _ (.tail _ (.tail _ (.tail _ (.head _))))))))))))))))))) (fun y _ => (by decide : ∀ p q r : Bool, (if p then true else false) = p) (F y) (G y) (H y)); subst e9))
  go_ret
  exact ⟨rfl, x16.base⟩
end Go.Proofs.YthadeopmnedccaaGreat
