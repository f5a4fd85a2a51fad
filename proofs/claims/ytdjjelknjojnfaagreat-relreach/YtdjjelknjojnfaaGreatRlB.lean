/-
  Package rel by its face: Fits, Next, Prev, Reach, and what they refuse.
-/
import Derived.Test.YtdjjelknjojnfaaGreatRlA
namespace Go.Proofs.YtdjjelknjojnfaaGreat
open Go Go.RowKit
open Rf (fixAt fixF IntsAt nextF prevF)

theorem call_next (vs : Array Value) (w : World) : (callFunc 62 vs).run Tryz.prog w = .ok (.enter 62 vs) w := by
  have h := Tryz.func62
  go_simp
theorem call_prev (vs : Array Value) (w : World) : (callFunc 63 vs).run Tryz.prog w = .ok (.enter 63 vs) w := by
  have h := Tryz.func63
  go_simp
theorem call_more (vs : Array Value) (w : World) : (callFunc 49 vs).run Tryz.prog w = .ok (.enter 49 vs) w := by
  have h := Tryz.func49
  go_simp
theorem sup_170 (k : Nat) (hk : k < 256) : bits .and .u8 (k : Int) 170 = ((k &&& 170 : Nat) : Int) := by
  rw [show (170 : Int) = ((170 : Nat) : Int) from rfl, u8_and_nat _ _ (by omega) (by omega)]
section
variable {W w w' : World} {S n r b x y f : Nat} {l : Kl} {X Y Z : Nat → Bool} {a e : Nat} {F0 : Nat → Prop} {M : Mdl}
set_option maxHeartbeats 1000000 in
theorem fits_x (h : Sx W w S n r l b) (hx : (x, X) ∈ l) :
    Calls Tryz.prog 21 #[.pointer (some ⟨S, 0, none⟩), .int .u32 (x : Int)] w fun e w' => e = .returned (.bool (curB X)) ∧ Below w.heap.size w w' := by
  have K1 := sup_c h hx
  have lt : Rf.supUpto X 8 < 256 := Rf.sup_lt X 8 (Nat.le_refl _)
  unfold curB
  generalize Rf.supUpto X 8 = k at K1 lt ⊢
  have h1 := sup_170 k lt
  generalize k &&& 170 = m at h1 ⊢
  have h3 : ((m : Int) == 0) = decide (m = 0) := by
    by_cases c : m = 0
    · subst c; rfl
    · rw [decide_eq_false c, beq_eq_false_iff_ne]; omega
  have e3 : Aside (((m : Int) == 0) = decide (m = 0)) := h3
  clear h hx lt h3
  go_enter Tryz.func21, Tryz.ntmps21
  go_wp2_with (first
    | (go_at_call 61; refine K1.mono ?_; clear K1; rintro e w2 ⟨rfl, b2⟩))
  go_ret
  rw [← e3.out]
  exact ⟨rfl, b2⟩
set_option maxHeartbeats 1000000 in
theorem fits_bad (s : St w S F0 M) (hx : x < 4294967296) (no : ¬ M.isNode x) :
    Calls Tryz.prog 21 #[.pointer (some ⟨S, 0, none⟩), .int .u32 (x : Int)] w fun e w' => e = .returned (.bool false) ∧ w' = w := by
  have K1 := support_bad s hx no
  clear no s
  go_enter Tryz.func21, Tryz.ntmps21
  go_wp2_with (first
    | (go_at_call 61; refine K1.mono ?_; clear K1; rintro e w2 ⟨rfl, e2⟩; subst w2))
  go_ret
  exact ⟨rfl, rfl⟩
set_option maxHeartbeats 1000000 in
theorem odd_x (h : Sx W w S n r l b) (q : Bool) (hq : decide (n % 2 = 1) = q) :
    Calls Tryz.prog 41 #[.pointer (some ⟨S, 0, none⟩)] w fun e w' => e = .returned (.bool q) ∧ w' = w := by
  have K1 := vars_x h
  have hm : Int.tmod (n : Int) 2 = ((n % 2 : Nat) : Int) := by rw [Int.tmod_eq_emod_of_nonneg (by omega)]; omega
  have hm2 : (n : Int) % 2 = ((n % 2 : Nat) : Int) := by omega
  subst hq
  have lt : n % 2 < 2 := Nat.mod_lt _ (by omega)
  generalize n % 2 = m at hm hm2 lt ⊢
  have : m = 0 ∨ m = 1 := by omega
  clear h lt
  rcases this with rfl | rfl
  · have hm : Int.tmod (n : Int) 2 = 0 := hm
    have hm2 : (n : Int) % 2 = 0 := hm2
    go_enter Tryz.func41, Tryz.ntmps41
    go_wp2_with (first
      | (go_at_call 42; refine K1.mono ?_; clear K1; rintro e w2 ⟨rfl, e2⟩; subst w2))
    go_ret
    exact ⟨rfl, rfl⟩
  · have hm : Int.tmod (n : Int) 2 = 1 := hm
    have hm2 : (n : Int) % 2 = 1 := hm2
    go_enter Tryz.func41, Tryz.ntmps41
    go_wp2_with (first
      | (go_at_call 42; refine K1.mono ?_; clear K1; rintro e w2 ⟨rfl, e2⟩; subst w2))
    go_ret
    exact ⟨rfl, rfl⟩
/-! ## What may be taken, and what not -/
set_option maxRecDepth 100000 in
set_option maxHeartbeats 1000000 in
theorem ranswer_node (v : Value) (s : St w S F0 M) (hx : x < 4294967296) (hy : y < 4294967296) (no : ¬ M.isNode x ∨ ¬ M.isNode y) :
    Calls Tryz.prog 48 #[.pointer (some ⟨S, 0, none⟩), .int .u32 (x : Int), .int .u32 (y : Int), v] w fun e w' => e = .returned (.tuple #[.int .u32 0, .int .i64 101]) ∧ w' = w := by
  have Kx := s_is s x hx
  have Ky := s_is s y hy
  by_cases c : M.isNode x
  · rw [Mdl.nodeB_true c] at Kx
    rw [Mdl.nodeB_false (no.resolve_left fun q => q c)] at Ky
    clear no c s
    go_enter Tryz.func48, Tryz.ntmps48
    go_wp2_with (first
      | (go_at_call 31; refine Kx.mono ?_; clear Kx; rintro e w1 ⟨rfl, e1⟩; subst w1)
      | (go_at_call 31; refine Ky.mono ?_; clear Ky; rintro e w1 ⟨rfl, e1⟩; subst w1))
    go_ret2
    exact ⟨rfl, rfl⟩
  · rw [Mdl.nodeB_false c] at Kx
    clear no c Ky s
    go_enter Tryz.func48, Tryz.ntmps48
    go_wp2_with (first
      | (go_at_call 31; refine Kx.mono ?_; clear Kx; rintro e w1 ⟨rfl, e1⟩; subst w1))
    go_ret2
    exact ⟨rfl, rfl⟩
set_option maxRecDepth 100000 in
set_option maxHeartbeats 1000000 in
theorem ranswer_odd (v : Value) (h : Sx W w S n r l b) (hx : (x, X) ∈ l) (hy : (y, Y) ∈ l) (h2 : n % 2 = 1) :
    Calls Tryz.prog 48 #[.pointer (some ⟨S, 0, none⟩), .int .u32 (x : Int), .int .u32 (y : Int), v] w fun e w' => e = .returned (.tuple #[.int .u32 0, .int .i64 160]) ∧ w' = w := by
  have Kx := is_x1 h hx
  have Ky := is_x1 h hy
  have Ko := odd_x h true (decide_eq_true h2)
  clear h hx hy h2
  go_enter Tryz.func48, Tryz.ntmps48
  go_wp2_with (first
    | (go_at_call 31; refine Kx.mono ?_; clear Kx; rintro e w1 ⟨rfl, e1⟩; subst w1)
    | (go_at_call 31; refine Ky.mono ?_; clear Ky; rintro e w1 ⟨rfl, e1⟩; subst w1)
    | (go_at_call 41; refine Ko.mono ?_; clear Ko; rintro e w1 ⟨rfl, e1⟩; subst w1))
  go_ret2
  exact ⟨rfl, rfl⟩
set_option maxRecDepth 100000 in
set_option maxHeartbeats 1000000 in
theorem ranswer_unfit (v : Value) (h : Sx W w S n r l b) (hx : (x, X) ∈ l) (hy : (y, Y) ∈ l) (h2 : n % 2 = 0) (no : curB X = false) :
    Calls Tryz.prog 48 #[.pointer (some ⟨S, 0, none⟩), .int .u32 (x : Int), .int .u32 (y : Int), v] w fun e w' => e = .returned (.tuple #[.int .u32 0, .int .i64 160]) ∧ Below w.heap.size w w' := by
  have Kx := is_x1 h hx
  have Ky := is_x1 h hy
  have Ko := odd_x h false (decide_eq_false (by omega))
  have Kf := fits_x h hx
  rw [no] at Kf
  clear h hx hy h2 no
  go_enter Tryz.func48, Tryz.ntmps48
  go_wp2_with (first
    | (go_at_call 31; refine Kx.mono ?_; clear Kx; rintro e w1 ⟨rfl, e1⟩; subst w1)
    | (go_at_call 31; refine Ky.mono ?_; clear Ky; rintro e w1 ⟨rfl, e1⟩; subst w1)
    | (go_at_call 41; refine Ko.mono ?_; clear Ko; rintro e w1 ⟨rfl, e1⟩; subst w1)
    | (go_at_call 21; refine Kf.mono ?_; clear Kf; rintro e w1 ⟨rfl, b1⟩))
  go_ret2
  exact ⟨rfl, b1⟩
set_option maxRecDepth 100000 in
set_option maxHeartbeats 1000000 in
theorem ranswer_ok (h : Sx W w S n r l b) (hx : (x, X) ∈ l) (hy : (y, Y) ∈ l) (h2 : n % 2 = 0) (cX : Cur X) (c : Nat) (hf : ∀ (vs : Array Value) (w : World), (callFunc f vs).run Tryz.prog w = .ok (.enter f vs) w) (K : ∀ u, Sx W u S n r l b → Calls Tryz.prog f #[rlV S y, .int .u32 (x : Int)] u (LeftX W S n r l c Z u)) :
    Calls Tryz.prog 48 #[.pointer (some ⟨S, 0, none⟩), .int .u32 (x : Int), .int .u32 (y : Int), .func (.func f) #[] #[]] w (LeftX W S n r l c Z w) := by
  have Kx := is_x1 h hx
  have Ky := is_x1 h hy
  have Ko := odd_x h false (decide_eq_false (by omega))
  have Kf := fits_x h hx
  rw [cur_iff.2 cX] at Kf
  have KA : Aside (∀ u, Sx W u S n r l b → Calls Tryz.prog f #[rlV S y, .int .u32 (x : Int)] u (LeftX W S n r l c Z u)) := K
  have hA : Aside (Sx W w S n r l b) := h
  clear h hx hy h2 cX K
  go_enter Tryz.func48, Tryz.ntmps48
  go_upto_region 5 with (first
    | (go_at_call 31; refine Kx.mono ?_; clear Kx; rintro e w1 ⟨rfl, e1⟩; subst w1)
    | (go_at_call 31; refine Ky.mono ?_; clear Ky; rintro e w1 ⟨rfl, e1⟩; subst w1)
    | (go_at_call 41; refine Ko.mono ?_; clear Ko; rintro e w1 ⟨rfl, e1⟩; subst w1)
    | (go_at_call 21; refine Kf.mono ?_; clear Kf; rintro e w1 ⟨rfl, b1⟩))
  have K1 := KA.out w1 (hA.out.below b1)
  have uA : Aside (Out w w1) := Out.below b1
  unfold rlV at K1
  clear KA hA b1
  go_wp2_with (first
    | (guard_target =~ Calls Tryz.prog f _ _ _; refine K1.mono ?_; clear K1; rintro e w2 ⟨z, rfl, x2, u2⟩))
  go_ret2
  exact ⟨z, rfl, x2, uA.out.trans u2⟩
/-! ## Next, Prev -/
set_option maxHeartbeats 1000000 in
theorem next_x (h : Sx W w S n r l b) (h2 : n % 2 = 0) (cX : Cur X) (hx : (x, X) ∈ l) (hy : (y, Y) ∈ l) (hB : Bud n a e X Y) (hb : b + (a + e + a) + 19 ≤ r) :
    Calls Tryz.prog 23 #[.pointer (some ⟨S, 0, none⟩), .int .u32 (x : Int), .int .u32 (y : Int)] w (LeftX W S n r l (b + (a + e + a)) (nextF X Y) w) := by
  have K := ranswer_ok h hx hy h2 cX (b + (a + e + a)) call_next fun u k => next_c k h2 hx hy hB hb
  clear h h2 cX hx hy hB hb
  go_enter Tryz.func23, Tryz.ntmps23
  go_wp2_with (first
    | (go_at_call 48; refine K.mono ?_; clear K; rintro e w2 ⟨z, rfl, x2, u2⟩))
  go_ret2
  exact ⟨z, rfl, x2, u2⟩
set_option maxHeartbeats 1000000 in
theorem prev_x (h : Sx W w S n r l b) (h2 : n % 2 = 0) (cX : Cur X) (hx : (x, X) ∈ l) (hy : (y, Y) ∈ l) (hB : Bud n a e X Y) (hb : b + (a + e + a) + 19 ≤ r) :
    Calls Tryz.prog 24 #[.pointer (some ⟨S, 0, none⟩), .int .u32 (x : Int), .int .u32 (y : Int)] w (LeftX W S n r l (b + (a + e + a)) (prevF X Y) w) := by
  have K := ranswer_ok h hx hy h2 cX (b + (a + e + a)) call_prev fun u k => prev_c k h2 cX hx hy hB hb
  clear h h2 cX hx hy hB hb
  go_enter Tryz.func24, Tryz.ntmps24
  go_wp2_with (first
    | (go_at_call 48; refine K.mono ?_; clear K; rintro e w2 ⟨z, rfl, x2, u2⟩))
  go_ret2
  exact ⟨z, rfl, x2, u2⟩
/-- What answers with an error alone. -/
def Er2 (er : Int) (e : Ending) : Prop := e = .returned (.tuple #[.int .u32 0, .int .i64 er])
set_option maxHeartbeats 1000000 in
theorem next_er (er : Int) (K : ∀ v, Calls Tryz.prog 48 #[.pointer (some ⟨S, 0, none⟩), .int .u32 (x : Int), .int .u32 (y : Int), v] w fun e w' => e = .returned (.tuple #[.int .u32 0, .int .i64 er]) ∧ Below w.heap.size w w') :
    Calls Tryz.prog 23 #[.pointer (some ⟨S, 0, none⟩), .int .u32 (x : Int), .int .u32 (y : Int)] w fun e w' => e = .returned (.tuple #[.int .u32 0, .int .i64 er]) ∧ Below w.heap.size w w' := by
  go_enter Tryz.func23, Tryz.ntmps23
  go_wp2_with (first
    | (go_at_call 48; refine (K _).mono ?_; clear K; rintro e w2 ⟨rfl, b2⟩))
  go_ret2
  exact ⟨rfl, b2⟩
set_option maxHeartbeats 1000000 in
theorem prev_er (er : Int) (K : ∀ v, Calls Tryz.prog 48 #[.pointer (some ⟨S, 0, none⟩), .int .u32 (x : Int), .int .u32 (y : Int), v] w fun e w' => e = .returned (.tuple #[.int .u32 0, .int .i64 er]) ∧ Below w.heap.size w w') :
    Calls Tryz.prog 24 #[.pointer (some ⟨S, 0, none⟩), .int .u32 (x : Int), .int .u32 (y : Int)] w fun e w' => e = .returned (.tuple #[.int .u32 0, .int .i64 er]) ∧ Below w.heap.size w w' := by
  go_enter Tryz.func24, Tryz.ntmps24
  go_wp2_with (first
    | (go_at_call 48; refine (K _).mono ?_; clear K; rintro e w2 ⟨rfl, b2⟩))
  go_ret2
  exact ⟨rfl, b2⟩
end
end Go.Proofs.YtdjjelknjojnfaaGreat
