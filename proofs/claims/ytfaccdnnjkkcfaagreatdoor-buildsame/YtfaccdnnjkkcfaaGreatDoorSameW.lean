/-
  BuildSame, walked.
-/
import Derived.Test.YtfaccdnnjkkcfaaGreatDoorBdX
import Derived.Deep.RegionHeld3
namespace Go.Proofs.YtfaccdnnjkkcfaaGreatDoor
open Go Go.RowKit
open Rf (fixAt fixF tab word same IsTab Cols)

theorem two_cells {u : World} {bf bg : Nat} {F G : Nat → Bool} (h : IsTab u bf F) (k : IsTab u bg G) : u.cell? ⟨bf, 0, none⟩ = some (.int .u64 (word F 0 : Int)) ∧ u.cell? ⟨bf, 1, none⟩ = some (.int .u64 (word F 1 : Int)) ∧ u.cell? ⟨bf, 2, none⟩ = some (.int .u64 (word F 2 : Int)) ∧ u.cell? ⟨bf, 3, none⟩ = some (.int .u64 (word F 3 : Int)) ∧ u.cell? ⟨bg, 0, none⟩ = some (.int .u64 (word G 0 : Int)) ∧ u.cell? ⟨bg, 1, none⟩ = some (.int .u64 (word G 1 : Int)) ∧ u.cell? ⟨bg, 2, none⟩ = some (.int .u64 (word G 2 : Int)) ∧ u.cell? ⟨bg, 3, none⟩ = some (.int .u64 (word G 3 : Int)) := by
  obtain ⟨a0, a1, a2, a3⟩ := h.copy
  obtain ⟨c0, c1, c2, c3⟩ := k.copy
  exact ⟨a0, a1, a2, a3, c0, c1, c2, c3⟩
set_option maxRecDepth 100000 in
set_option maxHeartbeats 8000000 in
theorem same_walk (F G : Nat → Bool) (W : World) (hC : Cols W) :
    Calls Tryz.prog 6 #[tab F, tab G] W fun e w' => e = .returned (.bool true) ∧ Below W.heap.size W w' := by
  have hCA : Aside (Cols W) := hC
  conv in #[tab F, tab G] => unfold tab
  go_enter Tryz.func6, Tryz.ntmps6
  go_upto_region 1 with fail
  obtain ⟨TF, TG, B3⟩ := boxes2 W F G
  generalize (W.alloc (.cells #[.int .u64 (word F 0 : Int), .int .u64 (word F 1 : Int), .int .u64 (word F 2 : Int), .int .u64 (word F 3 : Int)] 24)).alloc (.cells #[.int .u64 (word G 0 : Int), .int .u64 (word G 1 : Int), .int .u64 (word G 2 : Int), .int .u64 (word G 3 : Int)] 24) = v3 at TF TG B3 ⊢
  have Kk := bknown_any v3 (hC.kept B3)
  have B3A : Aside (Below W.heap.size W v3) := B3
  clear B3 hC
  generalize W.heap.size + 1 = bg at TG ⊢
  generalize W.heap.size = bf at TF ⊢
  go_upto_region 3 with (first
    | (go_at_call 8; refine Kk.mono ?_; clear Kk; rintro e v4 ⟨rfl, b4⟩))
  have TF4 := kept TF b4
  have TG4 := kept TG b4
  have Kn : Calls Tryz.prog 9 #[.int .i64 8, .int .i64 1000] v4 _ := new_x W v4 8 1000 (by omega) (by omega) (by omega) (by omega) (Rf.below_far B3A.out b4)
  clear TF TG B3A b4
  go_upto_region 6 with (first
    | (go_at_call 9; refine Kn.mono ?_; clear Kn; rintro e w5 ⟨S, rfl, f5, x5, b5⟩))
  have TF5 := kept TF4 b5
  have TG5 := kept TG4 b5
  clear TF4 TG4 b5 f5
  have KM := fun z w => bmust_x z w
  have x5' : Sx W w5.drew S 8 1000 [(0, c0), (1, c1)] 0 := x5.below ((Below.refl _ w5).drew)
  have TF5' : IsTab w5.drew bf F := TF5
  have TG5' : IsTab w5.drew bg G := TG5
  have C5 := two_cells TF5' TG5'
  have K1 := from_x hCA.out x5' (by omega) F
  unfold tab at K1
  go_region_held3 (fun u => u.cell? ⟨bf, 0, none⟩ = some (.int .u64 (word F 0 : Int)) ∧ u.cell? ⟨bf, 1, none⟩ = some (.int .u64 (word F 1 : Int)) ∧ u.cell? ⟨bf, 2, none⟩ = some (.int .u64 (word F 2 : Int)) ∧ u.cell? ⟨bf, 3, none⟩ = some (.int .u64 (word F 3 : Int)) ∧ u.cell? ⟨bg, 0, none⟩ = some (.int .u64 (word G 0 : Int)) ∧ u.cell? ⟨bg, 1, none⟩ = some (.int .u64 (word G 1 : Int)) ∧ u.cell? ⟨bg, 2, none⟩ = some (.int .u64 (word G 2 : Int)) ∧ u.cell? ⟨bg, 3, none⟩ = some (.int .u64 (word G 3 : Int))) (first | assumption) (first
    | (go_at_call_of 12 (word F 0); refine K1.mono ?_; clear K1; rintro e w6 ⟨a, rfl, x6, u6⟩; have TF6 := u6.tab TF5'; have TG6 := u6.tab TG5'; have C6 := two_cells TF6 TG6; have K2 := from_x hCA.out x6 (by omega) G; unfold tab at K2)
    | (go_at_call 12; refine K2.mono ?_; clear K2; rintro e w7 ⟨b, rfl, x7, u7⟩; have TF7 := u7.tab TF6; have TG7 := u7.tab TG6; have C7 := two_cells TF7 TG7)
    | (go_at_call 25; refine (KM _ _).mono ?_; rintro e wm ⟨rfl, em⟩; subst wm))
  go_upto_region 7 with fail
  have x7' : Sx W w7.drew S 8 1000 [(b, G), (a, F), (0, c0), (1, c1)] (0 + 63 + 63) := x7.below ((Below.refl _ w7).drew)
  have TF7' : IsTab w7.drew bf F := TF7
  have TG7' : IsTab w7.drew bg G := TG7
  have D7 := two_cells TF7' TG7'
  obtain ⟨A, hA⟩ : ∃ A, (fun x => F x && G x) = A := ⟨_, rfl⟩
  obtain ⟨X, hX⟩ : ∃ X, (fun x => F x != G x) = X := ⟨_, rfl⟩
  obtain ⟨N, hN⟩ : ∃ N, (fun x => !F x) = N := ⟨_, rfl⟩
  have KA : ∀ u, Calls Tryz.prog 28 #[tab F, tab G] u fun e w' => e = .returned (tab A) ∧ Below u.heap.size u w' := fun u => by rw [← hA]; exact Rf.and_any F G u
  have KX : ∀ u, Calls Tryz.prog 30 #[tab F, tab G] u fun e w' => e = .returned (tab X) ∧ Below u.heap.size u w' := fun u => by rw [← hX]; exact Rf.xor_any F G u
  have KN : ∀ u, Calls Tryz.prog 32 #[tab F] u fun e w' => e = .returned (tab N) ∧ Below u.heap.size u w' := fun u => by rw [← hN]; exact Rf.not_any F u
  have eA : Aside (Eqt A (fA F G)) := fun y _ => by rw [← hA]; rfl
  have eX : Aside (Eqt X (fX F G)) := fun y _ => by rw [← hX]; show (F y != G y) = xor (F y) (G y); cases F y <;> cases G y <;> rfl
  have eN : Aside (Eqt N (fN F)) := fun y _ => by rw [← hN]; rfl
  obtain ⟨z, hz⟩ : ∃ z, same F G = z := ⟨_, rfl⟩
  have heq : ∀ w, (Op.equalIn 10000 24 (tab F) (tab G)).run Tryz.prog w = .ok z w := fun w => by rw [← hz]; exact Rf.equal_tab _ _ w
  have ab : decide (a = b) = z := by
    rw [← hz, Bool.eq_iff_iff, decide_eq_true_iff]
    exact (x7.one (x := a) (y := b) (.tail _ (.head _)) (.head _)).trans (Rf.same_iff F G).symm
  have ab1 : ((a : Int) == (b : Int)) = z := by rw [← ab, Bool.eq_iff_iff, beq_iff_eq, decide_eq_true_iff]; omega
  have ab2 : decide ((a : Int) = (b : Int)) = z := by rw [← ab, Bool.eq_iff_iff, decide_eq_true_iff, decide_eq_true_iff]; omega
  have ab3 : (a == b) = z := by rw [← ab, Bool.eq_iff_iff, beq_iff_eq, decide_eq_true_iff]
  unfold tab at KA KX KN heq
  clear hA hX hN hz x7 TF7 TG7 u7 u6 x6 TF6 TG6 C6 x5' TF5' TG5' C5 TF5 TG5 x5 C7
  have K3 := and_x x7' (x := a) (X := F) (y := b) (Y := G) (.tail _ (.head _)) (.head _) 63 (by decide) (by decide)
  go_region_held3 (fun u => u.cell? ⟨bf, 0, none⟩ = some (.int .u64 (word F 0 : Int)) ∧ u.cell? ⟨bf, 1, none⟩ = some (.int .u64 (word F 1 : Int)) ∧ u.cell? ⟨bf, 2, none⟩ = some (.int .u64 (word F 2 : Int)) ∧ u.cell? ⟨bf, 3, none⟩ = some (.int .u64 (word F 3 : Int)) ∧ u.cell? ⟨bg, 0, none⟩ = some (.int .u64 (word G 0 : Int)) ∧ u.cell? ⟨bg, 1, none⟩ = some (.int .u64 (word G 1 : Int)) ∧ u.cell? ⟨bg, 2, none⟩ = some (.int .u64 (word G 2 : Int)) ∧ u.cell? ⟨bg, 3, none⟩ = some (.int .u64 (word G 3 : Int))) (first | assumption) (first
    | (go_at_call 27; refine K3.mono ?_; clear K3; rintro e w8 ⟨c, rfl, x8, u8⟩; have TF8 := u8.tab TF7'; have TG8 := u8.tab TG7'; have C8 := two_cells TF8 TG8; clear D7)
    | (go_at_call 28; refine (KA _).mono ?_; clear KA; rintro e w9 ⟨rfl, b9⟩; have TF9 := kept TF8 b9; have TG9 := kept TG8 b9; have C9 := two_cells TF9 TG9; have K4 := from_x hCA.out (x8.below b9) (by omega) A; unfold tab at K4; clear C8)
    | (go_at_call_of 12 (word A 0); refine K4.mono ?_; clear K4; rintro e w10 ⟨c2, rfl, x10, u10⟩; have h10 : c2 = c := x10.same (.head _) (.tail _ (.head _)) eA.out; subst c2; have TF10 := u10.tab TF9; have TG10 := u10.tab TG9; have C10 := two_cells TF10 TG10; have K5 := xor_x x10 (x := a) (X := F) (y := b) (Y := G) (.tail _ (.tail _ (.tail _ (.head _)))) (.tail _ (.tail _ (.head _))) 63 (by decide) (by decide); clear C9)
    | (go_at_call 29; refine K5.mono ?_; clear K5; rintro e w11 ⟨d, rfl, x11, u11⟩; have TF11 := u11.tab TF10; have TG11 := u11.tab TG10; have C11 := two_cells TF11 TG11; clear C10)
    | (go_at_call 30; refine (KX _).mono ?_; clear KX; rintro e w12 ⟨rfl, b12⟩; have TF12 := kept TF11 b12; have TG12 := kept TG11 b12; have C12 := two_cells TF12 TG12; have K6 := from_x hCA.out (x11.below b12) (by omega) X; unfold tab at K6; clear C11)
    | (go_at_call_of 12 (word X 0); refine K6.mono ?_; clear K6; rintro e w13 ⟨d2, rfl, x13, u13⟩; have h13 : d2 = d := x13.same (.head _) (.tail _ (.head _)) eX.out; subst d2; have TF13 := u13.tab TF12; have TG13 := u13.tab TG12; have C13 := two_cells TF13 TG13; have K7 := not_x x13 (x := a) (X := F) (.tail _ (.tail _ (.tail _ (.tail _ (.tail _ (.head _)))))) 63 (by decide) (by decide); clear C12)
    | (go_at_call 31; refine K7.mono ?_; clear K7; rintro e w14 ⟨n, rfl, x14, u14⟩; have TF14 := u14.tab TF13; have TG14 := u14.tab TG13; have C14 := two_cells TF14 TG14; clear C13)
    | (go_at_call 32; refine (KN _).mono ?_; clear KN; rintro e w15 ⟨rfl, b15⟩; have TF15 := kept TF14 b15; have TG15 := kept TG14 b15; have C15 := two_cells TF15 TG15; have K8 := from_x hCA.out (x14.below b15) (by omega) N; unfold tab at K8; clear C14)
    | (go_at_call_of 12 (word N 0); refine K8.mono ?_; clear K8; rintro e w16 ⟨n2, rfl, x16, u16⟩; have h16 : n2 = n := x16.same (.head _) (.tail _ (.head _)) eN.out; subst n2; have TF16 := u16.tab TF15; have TG16 := u16.tab TG15; have C16 := two_cells TF16 TG16; clear C15)
    | (go_at_call 25; refine (KM _ _).mono ?_; rintro e wm ⟨rfl, em⟩; subst wm))
  go_wp2_with fail
  go_ret
  exact ⟨by simp, x16.base⟩
end Go.Proofs.YtfaccdnnjkkcfaaGreatDoor
