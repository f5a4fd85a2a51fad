/-
  The statements' own first look at package quant; a store with two functions.
-/
import Derived.Test.YtlhanbjjlifjjaaGreatQtF
import Derived.Deep.RegionLaw
namespace Go.Proofs.YtlhanbjjlifjjaaGreat
open Go Go.RowKit
open Rf (fixAt fixF tab word IsTab)

theorem Sx.rebase {W w w' : World} {S n r b : Nat} {l : Kl} (h : Sx w w' S n r l b) (B : Below W.heap.size W w) : Sx W w' S n r l b := by
  obtain ⟨F, M, s, e1, e2, e3, q, B', f⟩ := h
  exact ⟨F, M, s, e1, e2, e3, q, Rf.below_far B B', fun k hk => Nat.le_trans B.size (f k hk)⟩
theorem Out.tab {w w' : World} (o : Out w w') {b : Nat} {F : Nat → Bool} (h : IsTab w b F) : IsTab w' b F := o b _ _ _ h (by decide)
theorem res_var {v n : Nat} (hv : v < 8) (hn : n < 256) : Eqt (resQ (2 ^ v) n (Rf.M v)) (fun _ => n.testBit v) := fun x hx => by
  show Rf.M v _ = _
  rw [mix_one hv hn hx, M_bit', fix_bit hx hv, if_pos rfl]
theorem ex_var {v : Nat} (hv : v < 8) : Eqt (exQ (2 ^ v) (Rf.M v)) c1 := fun x hx => by
  rw [← ex_one hv (Rf.M v) x hx]
  show (_ || _) = true
  rw [res_var hv (by omega) x hx, res_var hv (by omega) x hx, bit255 hv, Bool.or_true]
theorem all_var {v : Nat} (hv : v < 8) : Eqt (allQ (2 ^ v) (Rf.M v)) c0 := fun x hx => by
  rw [← all_one hv (Rf.M v) x hx]
  show (_ && _) = false
  rw [res_var hv (by omega) x hx, res_var hv (by omega) x hx, Nat.zero_testBit, Bool.false_and]
set_option maxRecDepth 100000 in
set_option maxHeartbeats 1000000 in
theorem known_any (W : World) :
    Calls Tryz.prog 9 #[] W fun e w' => e = .returned (.bool true) ∧ Below W.heap.size W w' := by
  have K1 : Calls Tryz.prog 10 #[.int .i64 3, .int .i64 100] W _ := new_x W W 3 100 (by omega) (by omega) (by omega) (by omega) (Below.refl _ _)
  have KV : Aside (∀ {w' : World} {S : Nat}, (∃ F, St w' S F (Mdl.empty 3 100) ∧ ∀ k, F k → W.heap.size ≤ k) → Sx W w' S 3 100 [(0, c0), (1, c1)] 0 → Calls Tryz.prog 30 #[.pointer (some ⟨S, 0, none⟩), .int .i64 1] w' (LeftX W S 3 100 [(0, c0), (1, c1)] 1 (Rf.M 1) w')) := fun {w' S} hF h => by
    obtain ⟨F, s, f⟩ := hF
    refine (var_op s (i := 1) (by decide)).mono fun e w2 q => left_x s rfl rfl (Nat.le_refl _) (fun p hp => ?_) h.base f 1 (by decide) (by decide) (Eqt.refl _) q
    rcases List.mem_cons.1 hp with rfl | hp
    · exact ⟨.inl (by omega), tbl_zero _⟩
    · rw [List.mem_singleton] at hp
      subst hp
      exact ⟨.inl (by omega), tbl_one _⟩
  have E1 : Eqt (exQ 2 (Rf.M 1)) c1 := ex_var (v := 1) (by omega)
  have E2 : Eqt (allQ 2 (Rf.M 1)) c0 := all_var (v := 1) (by omega)
  have E3 : Eqt (resQ 2 2 (Rf.M 1)) c1 := (res_var (v := 1) (n := 2) (by omega) (by omega)).trans (fun _ _ => rfl)
  have E1A : Aside (Eqt (exQ 2 (Rf.M 1)) c1) := E1
  have E2A : Aside (Eqt (allQ 2 (Rf.M 1)) c0) := E2
  have E3A : Aside (Eqt (resQ 2 2 (Rf.M 1)) c1) := E3
  clear E1 E2 E3
  go_enter Tryz.func9, Tryz.ntmps9
  go_wp2_with (first
    | (go_at_call 10; refine K1.mono ?_; clear K1; rintro e w1 ⟨S, rfl, f1, x1, b1⟩; have K2 := KV.out f1 x1; clear f1)
    | (go_at_call 30; refine K2.mono ?_; clear K2; rintro e w2 ⟨a, rfl, x2, u2⟩; have K3 : Calls Tryz.prog 14 #[.pointer (some ⟨S, 0, none⟩), .int .u32 (a : Int), .int .u8 2] w2 _ := ex_x (m := 2) x2 (x := a) (X := Rf.M 1) (by simp) (by decide) 2 (by decide) (by decide))
    | (go_at_call 14; refine K3.mono ?_; clear K3; rintro e w3 ⟨p, rfl, x3, u3⟩; have hp : p = 1 := x3.same (X := exQ 2 (Rf.M 1)) (Y := c1) (by simp) (by simp) E1A.out; subst p; have K4 : Calls Tryz.prog 15 #[.pointer (some ⟨S, 0, none⟩), .int .u32 (a : Int), .int .u8 2] w3 _ := all_x (m := 2) x3 (x := a) (X := Rf.M 1) (by simp) (by decide) 2 (by decide) (by decide))
    | (go_at_call 15; refine K4.mono ?_; clear K4; rintro e w4 ⟨q, rfl, x4, u4⟩; have hq : q = 0 := x4.same (X := allQ 2 (Rf.M 1)) (Y := c0) (by simp) (by simp) E2A.out; subst q; have K5 : Calls Tryz.prog 16 #[.pointer (some ⟨S, 0, none⟩), .int .u32 (a : Int), .int .u8 2, .int .u8 2] w4 _ := res_x (m := 2) (nv := 2) x4 (x := a) (X := Rf.M 1) (by simp) (by decide) (by decide) 2 (by decide) (by decide))
    | (go_at_call 16; refine K5.mono ?_; clear K5; rintro e w5 ⟨r, rfl, x5, u5⟩; have hr : r = 1 := x5.same (X := resQ 2 2 (Rf.M 1)) (Y := c1) (by simp) (by simp) E3A.out; subst r; have K6 : Calls Tryz.prog 14 #[.pointer (some ⟨S, 0, none⟩), .int .u32 (a : Int), .int .u8 8] w5 _ := ex_varx (m := 8) x5 (x := a) (X := Rf.M 1) (by simp) (by decide))
    | (go_at_call 14; refine K6.mono ?_; clear K6; rintro e w6 ⟨rfl, e6⟩; subst w6; have K7 : Calls Tryz.prog 15 #[.pointer (some ⟨S, 0, none⟩), .int .u32 999, .int .u8 1] w5 _ := all_nodex x5 (x := 999) 1 (by omega) (by omega))
    | (go_at_call 15; refine K7.mono ?_; clear K7; rintro e w7 ⟨rfl, e7⟩; subst w7))
  go_ret
  exact ⟨rfl, x5.base⟩
end Go.Proofs.YtlhanbjjlifjjaaGreat
