/-
  Package rel: Reach.
-/
import Derived.Test.YtdjjelknjojnfaaGreatRlB
import Derived.Deep.LoopGhost
namespace Go.Proofs.YtdjjelknjojnfaaGreat
open Go Go.RowKit
open Rf (fixAt fixF IntsAt nextF prevF)

section
variable {W w w' : World} {S n r b x y : Nat} {l : Kl} {X Y : Nat → Bool} {a e : Nat}
theorem reach_round (h2 : n % 2 = 0) (cX : Cur X) (hy : (y, Y) ∈ l) (hB : Bud n a e X Y) (t : Nat) (ht : a + e + a + a = t) (hb : b + t * 17 + 19 ≤ r) (u : World) (z k : Nat) (hk : k ≤ 16) (su : Sx W u S n r ((z, rchF X Y k) :: l) (b + t * k)) :
    Calls Tryz.prog 48 #[.pointer (some ⟨S, 0, none⟩), .int .u32 (z : Int), .int .u32 (y : Int), .func (.func 49) #[] #[]] u fun e' u' => ∃ m : Nat, e' = .returned (.tuple #[.int .u32 (m : Int), .int .i64 0]) ∧ Sx W u' S n r ((m, rchF X Y (k + 1)) :: (z, rchF X Y k) :: l) (b + t * (k + 1)) ∧ Out u u' := by
  have e1 : t * (k + 1) = t * k + t := Nat.mul_succ t k
  have e2 : t * (k + 1) ≤ t * 17 := Nat.mul_le_mul_left t (by omega)
  have K := ranswer_ok su (x := z) (y := y) (.head _) (.tail _ hy) h2 (rch_cur cX k) (b + t * k + (a + e + a + a)) call_more fun u' k' => more_c k' h2 (.head _) (.tail _ hy) (hB.rch k) (by omega)
  refine K.mono ?_
  rintro e' u' ⟨m, rfl, x', o⟩
  exact ⟨m, rfl, x'.more (by omega), o⟩
set_option maxRecDepth 100000 in
set_option maxHeartbeats 2000000 in
theorem reach_x (h : Sx W w S n r l b) (h2 : n % 2 = 0) (cX : Cur X) (hx : (x, X) ∈ l) (hy : (y, Y) ∈ l) (hB : Bud n a e X Y) (t : Nat) (ht : a + e + a + a = t) (hb : b + t * 17 + 19 ≤ r) :
    Calls Tryz.prog 15 #[.pointer (some ⟨S, 0, none⟩), .int .u32 (x : Int), .int .u32 (y : Int)] w fun e' w' => ∃ z k : Nat, e' = .returned (.tuple #[.int .u32 (z : Int), .int .i64 (k : Int), .int .i64 0]) ∧ Rnd X Y k ∧ k ≤ 16 ∧ Sx W w' S n r ((z, rchF X Y k) :: l) (b + t * 17) ∧ Out w w' := by
  have KA : Aside (∀ (u : World) (z k : Nat), k ≤ 16 → Sx W u S n r ((z, rchF X Y k) :: l) (b + t * k) → Calls Tryz.prog 48 #[.pointer (some ⟨S, 0, none⟩), .int .u32 (z : Int), .int .u32 (y : Int), .func (.func 49) #[] #[]] u fun e' u' => ∃ m : Nat, e' = .returned (.tuple #[.int .u32 (m : Int), .int .i64 0]) ∧ Sx W u' S n r ((m, rchF X Y (k + 1)) :: (z, rchF X Y k) :: l) (b + t * (k + 1)) ∧ Out u u') := fun u z k hk su => reach_round h2 cX hy hB t ht hb u z k hk su
  have endA : Aside (∀ k, (∀ j, j < k → ¬ Eqt (rchF X Y (j + 1)) (rchF X Y j)) → k ≤ 16) := fun k hk => rch_end cX k hk
  have hX0 : Aside (Sx W w S n r ((x, rchF X Y 0) :: l) (b + t * 0)) := h.mono fun p hp => by
    rcases List.mem_cons.1 hp with rfl | hp
    · exact hx
    · exact hp
  have u0 : Aside (Out w w) := Out.refl w
  have mulA : Aside (∀ k, k ≤ 17 → t * k ≤ t * 17) := fun k hk => Nat.mul_le_mul_left t hk
  clear h h2 cX hx hy hB ht hb
  go_enter Tryz.func15, Tryz.ntmps15
  go_upto_region 3 with fail
  go_loopg [9, 1] 17 (fun gn s9 s1 wr => ∃ k z : Nat, k + gn = 17 ∧ s9 = .int .i64 (k : Int) ∧ s1 = .int .u32 (z : Int) ∧ Aside (Sx W wr S n r ((z, rchF X Y k) :: l) (b + t * k)) ∧ Aside (∀ j, j < k → ¬ Eqt (rchF X Y (j + 1)) (rchF X Y j)) ∧ Aside (Out w wr))
  case atStart => exact ⟨0, x, rfl, rfl, rfl, hX0, (fun j hj => absurd hj (by omega)), u0⟩
  case round =>
    clear hX0 u0
    obtain ⟨k, z, hk, rfl, rfl, hX, hN, hU⟩ := hrel
    have hK : Aside (k + gk = 17) := hk
    have k16 := endA.out k hN.out
    have K := KA.out wr z k k16 hX.out
    clear hk
    go_upto_region 6 with (first
      | (go_at_call 48; refine K.mono ?_; clear K; rintro e' w2 ⟨m, rfl, x2, u2⟩))
    have x2A : Aside (Sx W w2 S n r ((m, rchF X Y (k + 1)) :: (z, rchF X Y k) :: l) (b + t * (k + 1))) := x2
    have u2A : Aside (Out w w2) := hU.out.trans u2
    have oneA : Aside (m = z ↔ Eqt (rchF X Y (k + 1)) (rchF X Y k)) := x2.one (.head _) (.tail _ (.head _))
    clear x2 u2 hX hU
    by_cases c : m = z
    · subst c
      have rA : Aside (Rnd X Y k) := ⟨hN.out, oneA.out.1 rfl⟩
      have kA : Aside (k ≤ 16) := k16
      clear oneA hN KA
      go_wp2_with fail
      go_ret3
      exact ⟨m, k, rfl, rA.out, kA.out, (x2A.out.more (by have := mulA.out (k + 1) (by have := kA.out; omega); omega)).mono (fun p hp => .tail _ hp), u2A.out⟩
    · have cn : ¬ (m : Int) = (z : Int) := by omega
      have nA : Aside (∀ j, j < k + 1 → ¬ Eqt (rchF X Y (j + 1)) (rchF X Y j)) := fun j hj q => by
        by_cases q2 : j = k
        · subst q2; exact c (oneA.out.2 q)
        · exact hN.out j (by omega) q
      clear oneA hN c
      go_wp2_with fail
      go_roundg (gk - 1)
      case measure => have := hK.out; omega
      case rel =>
        have := hK.out
        exact ⟨k + 1, m, by omega, by go_num, rfl, x2A.out.mono (fun p hp => by
          rcases List.mem_cons.1 hp with rfl | hp
          · exact .head _
          · exact .tail _ (.tail _ hp)), nA.out, u2A.out⟩
set_option maxRecDepth 100000 in
set_option maxHeartbeats 1000000 in
theorem reach_er (er : Int) (h0 : er ≠ 0) (K : ∀ v, Calls Tryz.prog 48 #[.pointer (some ⟨S, 0, none⟩), .int .u32 (x : Int), .int .u32 (y : Int), v] w fun e w' => e = .returned (.tuple #[.int .u32 0, .int .i64 er]) ∧ Below w.heap.size w w') :
    Calls Tryz.prog 15 #[.pointer (some ⟨S, 0, none⟩), .int .u32 (x : Int), .int .u32 (y : Int)] w fun e w' => e = .returned (.tuple #[.int .u32 0, .int .i64 0, .int .i64 er]) ∧ Below w.heap.size w w' := by
  go_enter Tryz.func15, Tryz.ntmps15
  go_upto_region 3 with fail
  go_loopg [9, 1] 1 (fun gn s9 s1 wr => gn = 1 ∧ s9 = .int .i64 0 ∧ s1 = .int .u32 (x : Int) ∧ wr = w)
  case atStart => exact ⟨rfl, rfl, rfl, rfl⟩
  case round =>
    obtain ⟨_, rfl, rfl, rfl⟩ := hrel
    go_wp2_with (first
      | (go_at_call 48; refine (K _).mono ?_; clear K; rintro e w2 ⟨rfl, b2⟩))
    go_ret3
    exact ⟨rfl, b2⟩
end
end Go.Proofs.YtdjjelknjojnfaaGreat
