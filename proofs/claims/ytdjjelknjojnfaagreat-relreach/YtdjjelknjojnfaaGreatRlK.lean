/-
  The statements' own look (known), must, and a store with two sets of states and two relations (world).
-/
import Derived.Test.YtdjjelknjojnfaaGreatRlC
import Derived.Test.YtdjjelknjojnfaaGreatRlE
import Derived.Test.YtdjjelknjojnfaaGreatBaseG
namespace Go.Proofs.YtdjjelknjojnfaaGreat
open Go Go.RowKit
open Rf (fixAt fixF tab word IsTab halfN nextF prevF evN)

theorem must_any (z : Nat) (w : World) : Calls Tryz.prog 11 #[.int .u32 (z : Int), .int .i64 0] w fun e w' => e = .returned (.int .u32 (z : Int)) ∧ w' = w := by
  go_enter Tryz.func11, Tryz.ntmps11
  go_wp2_with fail
  go_ret
  exact ⟨rfl, rfl⟩
theorem trim_low (F : Nat → Bool) {n : Nat} (hn : n ≤ 8) : Tri n (trimF F n (8 - n)) := fun x y hx hy h => trim_eq F n (8 - n) (by omega) x y hx hy fun i _ q => h i (by omega)
/-- Where it doesn't hang on what is trimmed, it is what it was. -/
theorem trim_own (F : Nat → Bool) (n : Nat) : ∀ j, n + j ≤ 8 → (∀ i, n ≤ i → i < 8 → ∀ x, x < 256 → F (fixAt i false x) = F x) → Eqt (trimF F n j) F
  | 0, _, _ => Eqt.refl _
  | j + 1, hj, h => fun x hx => by
    show trimF F n j (fixAt (n + j) false x) = F x
    rw [trim_own F n j (by omega) h _ (fixAt_bits hx (by omega) _).1, h _ (by omega) (by omega) x hx]
theorem trim_cur {F : Nat → Bool} (c : Cur F) (n : Nat) : ∀ j, n + j ≤ 8 → Cur (trimF F n j)
  | 0, _ => c
  | j + 1, hj => fun x y hx hy q => by
    show trimF F n j (fixAt (n + j) false x) = trimF F n j (fixAt (n + j) false y)
    refine trim_cur c n j (by omega) _ _ (fixAt_bits hx (by omega) _).1 (fixAt_bits hy (by omega) _).1 fun i hi => ?_
    rw [fix_bit hx (by omega), fix_bit hy (by omega), q i hi]
theorem res_cur (F : Nat → Bool) : Cur (resQ 170 0 F) := fun x y hx hy q => by
  show F (mixA 170 0 x) = F (mixA 170 0 y)
  refine congrArg F (num_same (mix_lt (by omega) hx) (mix_lt (by omega) hy) fun j hj => ?_)
  rw [mix_bit, mix_bit]
  rcases even_of hj with ⟨i, hi, rfl⟩ | ⟨i, hi, rfl⟩
  · rw [(b170 hi).1, if_neg Bool.false_ne_true, if_neg Bool.false_ne_true]
    exact q i hi
  · rw [(b170 hi).2, if_pos rfl, if_pos rfl]
/-! ## The first look -/
def kX : Nat → Bool := trimF (fun x => !Rf.M 0 x) 2 6
def kP : Nat → Bool := upC 2 (jnN 0 1) 0
theorem kX_is : Eqt kX (fun x => !Rf.M 0 x) := trim_own _ 2 6 (by omega) fun i h1 h2 x hx => by
  show (!Rf.M 0 (fixAt i false x)) = !Rf.M 0 x
  rw [← Rf.M_bit, ← Rf.M_bit, fix_bit hx h2, if_neg (by omega)]
theorem kP_iff {x : Nat} : kP x = true ↔ x.testBit 0 = false ∧ x.testBit 1 = true := by
  unfold kP
  rw [upC_iff (by omega) (by omega)]
  have b0 : (jnN 0 1).testBit 0 = false := by kernel_rfl
  have b1 : (jnN 0 1).testBit 1 = true := by kernel_rfl
  constructor
  · intro h
    exact ⟨by rw [h 0 (by omega) (by omega), b0], by rw [h 1 (by omega) (by omega), b1]⟩
  · rintro ⟨h0, h1⟩ v _ hv
    have : v = 0 ∨ v = 1 := by omega
    rcases this with rfl | rfl
    · rw [h0, b0]
    · rw [h1, b1]
theorem var_cur {v : Nat} (hv : v = 0) : Cur (Rf.M v) := fun x y _ _ q => by
  subst hv
  rw [← Rf.M_bit, ← Rf.M_bit]
  exact q 0 (by omega)
theorem kX_cur : Cur kX := Cur.congr (fun x y hx hy q => by rw [var_cur rfl x y hx hy q]) kX_is.symm
theorem kP_not : curB kP = false := by
  cases h : curB kP with
  | false => rfl
  | true =>
    have c := cur_iff.1 h 2 0 (by omega) (by omega) fun i hi => by
      have := below16 (n := i) (fun i => Nat.testBit 2 (2 * i) == Nat.testBit 0 (2 * i)) 4 (by kernel_rfl) hi
      simpa using this
    have e2 : kP 2 = true := kP_iff.2 ⟨by decide, by decide⟩
    have e0 : kP 0 = true := by rw [← c]; exact e2
    have := (kP_iff.1 e0).2
    rw [Nat.zero_testBit] at this
    cases this
theorem k_next : Eqt (nextF kX kP) (Rf.M 0) := fun x hx => by
  rw [Bool.eq_iff_iff, nx_iff _ _ hx, ← Rf.M_bit]
  constructor
  · rintro ⟨y, hy, _, h2, h3⟩
    rw [← h3 0 (by omega)]
    exact (kP_iff.1 h2).2
  · intro h
    obtain ⟨j1, j2⟩ := jn_half 0 (halfN x) (by omega) (half_lt x)
    have bt := fun i (hi : i < 4) => half_bit (jnN 0 (halfN x)) (jn_lt _ _) i hi
    have bs := fun i (hi : i < 4) => half_bit (jnN 0 (halfN x) / 2) (by have := jn_lt 0 (halfN x); omega) i hi
    have y0 : (jnN 0 (halfN x)).testBit 0 = false := by
      have := bt 0 (by omega)
      rw [j1, Nat.zero_testBit] at this
      exact this.symm
    have yo : ∀ i, i < 4 → (jnN 0 (halfN x)).testBit (2 * i + 1) = x.testBit (2 * i) := fun i hi => by
      rw [← div_bit, ← bs i hi, j2, half_bit x hx i hi]
    refine ⟨jnN 0 (halfN x), jn_lt _ _, ?_, kP_iff.2 ⟨y0, by have := yo 0 (by omega); rw [show 2 * 0 = 0 from rfl] at this; rw [show (1 : Nat) = 0 + 1 from rfl, this]; exact h⟩, yo⟩
    rw [kX_is _ (jn_lt _ _)]
    show (!Rf.M 0 _) = true
    rw [← Rf.M_bit, y0]
    rfl
theorem k_prev : Eqt (prevF (Rf.M 0) kP) kX := fun x hx => by
  rw [Bool.eq_iff_iff, pv_iff _ _ hx, kX_is x hx]
  show _ ↔ (!Rf.M 0 x) = true
  rw [← Rf.M_bit]
  constructor
  · rintro ⟨y, hy, h1, h2, _⟩
    have := h1 0 (by omega)
    rw [← this, (kP_iff.1 h2).1]
    rfl
  · intro h
    obtain ⟨j1, j2⟩ := jn_half (halfN x) 1 (half_lt x) (by omega)
    have ev : Ev (jnN (halfN x) 1) x := (half_ev (jn_lt _ _) hx).1 j1
    have y1 : (jnN (halfN x) 1).testBit 1 = true := by
      have := half_bit (jnN (halfN x) 1 / 2) (by have := jn_lt (halfN x) 1; omega) 0 (by omega)
      rw [j2, div_bit] at this
      exact this.symm
    have y0 : (jnN (halfN x) 1).testBit 0 = false := by
      have := ev 0 (by omega)
      rw [show 2 * 0 = 0 from rfl] at this
      rw [this]
      cases q : x.testBit 0 with
      | false => rfl
      | true => rw [q] at h; cases h
    refine ⟨jnN (halfN x) 1, jn_lt _ _, ev, kP_iff.2 ⟨y0, y1⟩, ?_⟩
    rw [← Rf.M_bit]
    have := ev_bit (jnN (halfN x) 1) (jn_lt _ _) 0 (by omega)
    rw [show 2 * 0 = 0 from rfl, Nat.zero_add, y1] at this
    exact this
theorem make_t {W w : World} {S n r b : Nat} {l : Kl} (h : Sx W w S n r l b) (G : Nat → Bool) (low : Tri n G) (c : Nat) (hc : 2 ^ (n - 2) ≤ c + 1) (hb : b + c + 19 ≤ r) :
    Calls Tryz.prog 20 #[.pointer (some ⟨S, 0, none⟩), tab G] w fun e w' => ∃ z : Nat, e = .returned (.tuple #[.int .u32 (z : Int), .bool true]) ∧ Sx W w' S n r ((z, G) :: l) (b + c) ∧ Out w w' := by
  obtain ⟨F, M, s, e1, e2, e3, q, B, f⟩ := h
  refine (make_any s (Tri.dep s.ok (by rw [e1]; exact low)) (by rw [e1, e2]; omega)).mono ?_
  rintro e w' ⟨x, M', rfl, ⟨F', s', g⟩, m⟩
  have u := m.up
  rw [e1, Nat.sub_zero] at u
  exact ⟨x, rfl, ⟨F', M', s', m.grew.n.trans e1, m.grew.room.trans e2, by omega, (q.grew s.ok m.grew).cons m.node m.tbl, Wf.far B g B.size f, g.after B.size f⟩, Out.of s g⟩
set_option maxRecDepth 100000 in
set_option maxHeartbeats 2000000 in
theorem rknown_any (W : World) :
    Calls Tryz.prog 9 #[] W fun e w' => e = .returned (.bool true) ∧ Below W.heap.size W w' := by
  have K1 : Calls Tryz.prog 10 #[.int .i64 2, .int .i64 100] W _ := new_x W W 2 100 (by omega) (by omega) (by omega) (by omega) (Below.refl _ _)
  have cX : Aside (Cur kX) := kX_cur
  have cV : Aside (Cur (Rf.M 0)) := var_cur rfl
  have tX : Aside (Tri 2 kX) := trim_low _ (by omega)
  have eN : Aside (Eqt (nextF kX kP) (Rf.M 0)) := k_next
  have eP : Aside (Eqt (prevF (Rf.M 0) kP) kX) := k_prev
  have bX : Aside (curB kX = true) := cur_iff.2 kX_cur
  have bP : Aside (curB kP = false) := kP_not
  have KV : ∀ u, Calls Tryz.prog 35 #[.int .i64 0] u fun e w' => e = .returned (tab (Rf.M 0)) ∧ Below u.heap.size u w' := fun u => Rf.var_any 0 (by omega) u
  have KN : ∀ u, Calls Tryz.prog 34 #[tab (Rf.M 0)] u fun e w' => e = .returned (tab (fun x => !Rf.M 0 x)) ∧ Below u.heap.size u w' := fun u => Rf.not_any (Rf.M 0) u
  have KT : ∀ u, Calls Tryz.prog 18 #[tab (fun x => !Rf.M 0 x), .int .i64 2] u fun e w' => e = .returned (tab kX) ∧ Below u.heap.size u w' := fun u => trim_any (fun x => !Rf.M 0 x) 2 (by omega) u
  have KPr : Aside (∀ (u : World) (S : Nat), Sx W u S 2 100 [(0, c0), (1, c1)] 0 → Calls Tryz.prog 12 #[.pointer (some ⟨S, 0, none⟩), .int .u8 0, .int .u8 1] u (LeftX W S 2 100 [(0, c0), (1, c1)] 0 kP u)) := fun u S su => pair_c su (p := 0) (q := 1) (by omega) (by decide) (by decide) 0 (.inr (by decide)) (by omega)
  unfold tab at KV KN KT
  go_enter Tryz.func9, Tryz.ntmps9
  go_upto_region 9 with (first
    | (go_at_call 10; refine K1.mono ?_; clear K1; rintro e w1 ⟨S, rfl, f1, x1, b1⟩; have K2 := KPr.out w1 S x1; clear f1 x1 b1)
    | (go_at_call_of 12 (Value.int IntKind.u8 1); refine K2.mono ?_; clear K2; rintro e w2 ⟨p, rfl, x2, u2⟩; clear u2)
    | (go_at_call 35; refine (KV _).mono ?_; rintro e w3 ⟨rfl, b3⟩; have x3 := x2.below b3; clear x2 b3)
    | (go_at_call 34; refine (KN _).mono ?_; clear KN; rintro e w4 ⟨rfl, b4⟩; have x4 := x3.below b4; clear x3 b4)
    | (go_at_call 18; refine (KT _).mono ?_; clear KT; rintro e w5 ⟨rfl, b5⟩; have x5 := x4.below b5; have K3 := make_t x5 kX tX.out 0 (by decide) (by decide); clear x4 b5 x5; unfold tab at K3)
    | (go_at_call 20; refine K3.mono ?_; clear K3; rintro e w6 ⟨z, rfl, x6, u6⟩; have K4 := next_x x6 (by decide) cX.out (x := z) (y := p) (.head _) (.tail _ (.head _)) (a := 0) (e := 0) (.inl ⟨by decide, by decide⟩) (by decide); clear u6 x6)
    | (go_at_call 23; refine K4.mono ?_; clear K4; rintro e w7 ⟨n, rfl, x7, u7⟩; have x7' := x7.like eN.out; have K5 := prev_x x7' (by decide) cV.out (x := n) (y := p) (.head _) (.tail _ (.tail _ (.head _))) (a := 0) (e := 0) (.inl ⟨by decide, by decide⟩) (by decide); clear u7 x7 x7')
    | (go_at_call 24; refine K5.mono ?_; clear K5; rintro e w8 ⟨b, rfl, x8, u8⟩; have hb : b = z := x8.same (.head _) (.tail _ (.tail _ (.head _))) eP.out; subst b; have K6 := pair_var x8 (by decide) 0 2 (by omega) (by omega) (.inr (by decide)); clear u8)
    | (go_at_call 12; refine K6.mono ?_; clear K6; rintro e w9 ⟨rfl, e9⟩; subst w9))
  have x8A : Aside (Sx W w8 S 2 100 ((z, prevF (Rf.M 0) kP) :: (n, Rf.M 0) :: (z, kX) :: (p, kP) :: [(0, c0), (1, c1)]) _) := x8
  clear x8
  go_wp2_with (first
    | (go_at_call 35; refine (KV _).mono ?_; rintro e w10 ⟨rfl, b10⟩; have x10 := x8A.out.below b10; have K7 := is_x x10 (x := n) (X := Rf.M 0) (Y := Rf.M 0) (.tail _ (.head _)) (Eqt.refl _); unfold tab at K7; clear b10)
    | (go_at_call 26; refine K7.mono ?_; clear K7; rintro e w11 ⟨rfl, b11⟩; have x11 := x10.below b11; have K8 := fits_x x11 (x := z) (X := kX) (.tail _ (.tail _ (.head _))); rw [bX.out] at K8; clear b11 x10)
    | (go_at_call 21; refine K8.mono ?_; clear K8; rintro e w12 ⟨rfl, b12⟩; have x12 := x11.below b12; have K9 := fits_x x12 (x := p) (X := kP) (.tail _ (.tail _ (.tail _ (.head _)))); rw [bP.out] at K9; clear b12 x11)
    | (go_at_call 21; refine K9.mono ?_; clear K9; rintro e w13 ⟨rfl, b13⟩))
  go_ret
  exact ⟨rfl, Rf.below_far x12.base b13⟩
end Go.Proofs.YtdjjelknjojnfaaGreat
