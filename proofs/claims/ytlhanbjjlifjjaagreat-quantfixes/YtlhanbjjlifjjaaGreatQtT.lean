/-
  A store with two functions (the statements' help two); the statements' must.
-/
import Derived.Test.YtlhanbjjlifjjaaGreatQtK
namespace Go.Proofs.YtlhanbjjlifjjaaGreat
open Go Go.RowKit
open Rf (fixAt fixF tab word IsTab)

theorem must_x (z : Nat) (w : World) : Calls Tryz.prog 29 #[.int .u32 (z : Int), .int .i64 0] w fun e w' => e = .returned (.int .u32 (z : Int)) ∧ w' = w := by
  go_enter Tryz.func29, Tryz.ntmps29
  go_wp2_with fail
  go_ret
  exact ⟨rfl, rfl⟩
theorem results_tmp4 {fn : Func} {t u v x : Tmp} (h : fn.results = #[.tmp t, .tmp u, .tmp v, .tmp x]) (tmps : Array Value) (P : Program) (w : World) :
    (results fn tmps).run P w = .ok (.tuple #[tmps.getD t undef, tmps.getD u undef, tmps.getD v undef, tmps.getD x undef]) w := by
  simp [results, h]
theorem boxes2 (w : World) (F G : Nat → Bool) : IsTab ((w.alloc (.cells #[.int .u64 (word F 0 : Int), .int .u64 (word F 1 : Int), .int .u64 (word F 2 : Int), .int .u64 (word F 3 : Int)] 24)).alloc (.cells #[.int .u64 (word G 0 : Int), .int .u64 (word G 1 : Int), .int .u64 (word G 2 : Int), .int .u64 (word G 3 : Int)] 24)) w.heap.size F ∧ IsTab ((w.alloc (.cells #[.int .u64 (word F 0 : Int), .int .u64 (word F 1 : Int), .int .u64 (word F 2 : Int), .int .u64 (word F 3 : Int)] 24)).alloc (.cells #[.int .u64 (word G 0 : Int), .int .u64 (word G 1 : Int), .int .u64 (word G 2 : Int), .int .u64 (word G 3 : Int)] 24)) (w.heap.size + 1) G ∧ Below w.heap.size w ((w.alloc (.cells #[.int .u64 (word F 0 : Int), .int .u64 (word F 1 : Int), .int .u64 (word F 2 : Int), .int .u64 (word F 3 : Int)] 24)).alloc (.cells #[.int .u64 (word G 0 : Int), .int .u64 (word G 1 : Int), .int .u64 (word G 2 : Int), .int .u64 (word G 3 : Int)] 24)) :=
  ⟨(IsTab.new w F).alloc _, IsTab.newAt (by simp) G, ((Below.refl _ w).alloc (Nat.le_refl _) _).alloc (by simp) _⟩
set_option maxRecDepth 100000 in
set_option maxHeartbeats 2000000 in
theorem two_any (w : World) (F G : Nat → Bool) :
    Calls Tryz.prog 28 #[tab F, tab G] w fun e w' => ∃ S a b : Nat, e = .returned (.tuple #[.pointer (some ⟨S, 0, none⟩), .int .u32 (a : Int), .int .u32 (b : Int), .bool true]) ∧ Sx w w' S 8 16000 [(b, G), (a, F), (0, c0), (1, c1)] 126 ∧ Below w.heap.size w w' := by
  conv in #[tab F, tab G] => unfold tab
  go_enter Tryz.func28, Tryz.ntmps28
  go_upto_region 1 with fail
  obtain ⟨TF, TG, B3⟩ := boxes2 w F G
  generalize (w.alloc (.cells #[.int .u64 (word F 0 : Int), .int .u64 (word F 1 : Int), .int .u64 (word F 2 : Int), .int .u64 (word F 3 : Int)] 24)).alloc (.cells #[.int .u64 (word G 0 : Int), .int .u64 (word G 1 : Int), .int .u64 (word G 2 : Int), .int .u64 (word G 3 : Int)] 24) = w3 at TF TG B3 ⊢
  have Kn : Calls Tryz.prog 10 #[.int .i64 8, .int .i64 16000] w3 _ := new_x w w3 8 16000 (by omega) (by omega) (by omega) (by omega) B3
  generalize w.heap.size + 1 = bg at TG ⊢
  generalize w.heap.size = bf at TF ⊢
  clear B3
  go_upto_region 4 with (first
    | (go_at_call 10; refine Kn.mono ?_; clear Kn; rintro e w5 ⟨S, rfl, f5, x5, b5⟩))
  have TF5 := kept TF b5
  have TG5 := kept TG b5
  have K1 := make_x x5 (by omega) F
  clear TF TG b5 f5
  unfold tab at K1
  obtain ⟨y0, y1, y2, y3⟩ := TF5.copy
  go_upto_region 5 with (first
    | (go_at_call 13; refine K1.mono ?_; clear K1; rintro e w6 ⟨a, rfl, x6, u6⟩))
  have TG6 := u6.tab TG5
  have K2 := make_x x6 (by omega) G
  clear y0 y1 y2 y3 TF5 TG5 x5 u6
  unfold tab at K2
  obtain ⟨y0, y1, y2, y3⟩ := TG6.copy
  go_wp2_with (first
    | (go_at_call 13; refine K2.mono ?_; clear K2; rintro e w7 ⟨b, rfl, x7, u7⟩))
  exact bodyPost_ret (results_tmp4 rfl _ _ _) rfl ⟨S, a, b, rfl, x7, x7.base⟩
theorem var_x {W w : World} {S n r b v : Nat} {l : Kl} (h : Sx W w S n r l b) (hv : v < n) (c : Nat) (hc : 2 ^ (n - 2) ≤ c + 1) (hb : b + c + 19 ≤ r) :
    Calls Tryz.prog 30 #[.pointer (some ⟨S, 0, none⟩), .int .i64 (v : Int)] w (LeftX W S n r l (b + c) (Rf.M v) w) := by
  obtain ⟨F, M, s, e1, e2, e3, q, B, f⟩ := h
  obtain ⟨i, hi, hvi⟩ := surj_of_inj s.ok.vlt s.ok.vinj (u := v) (by rw [e1]; exact hv)
  have := var_op s hi
  rw [hvi] at this
  exact this.mono fun e w' h => left_x s e1 e2 e3 q B f c hc hb (Eqt.refl _) h
theorem beq_cast (x y : Nat) : ((x : Int) == (y : Int)) = decide (x = y) := by
  by_cases h : x = y
  · simp [h]
  · have : ¬ (x : Int) = (y : Int) := by omega
    simp [h, this]
section
variable {W w : World} {S N r b x a n : Nat} {l : Kl} {X F : Nat → Bool}
theorem const_told (h : Sx W w S N r l b) (hx : (x, X) ∈ l) (e : Eqt X (fun _ => F n)) (h0 : (0, c0) ∈ l) (h1 : (1, c1) ∈ l) : ((x : Int) ≤ 1) ∧ ((x : Int) == 1) = F n := by
  cases c : F n with
  | true =>
    have := h.same hx h1 (e.trans fun _ _ => c)
    subst this
    exact ⟨by omega, rfl⟩
  | false =>
    have := h.same hx h0 (e.trans fun _ _ => c)
    subst this
    exact ⟨by omega, rfl⟩
theorem ex_told (h : Sx W w S N r l b) (hx : (x, exQ 255 F) ∈ l) (ha : (a, F) ∈ l) (h0 : (0, c0) ∈ l) (h1 : (1, c1) ∈ l) : ((x : Int) ≤ 1) ∧ ((x : Int) == 1) = ((a : Int) != 0) := by
  have k : x = 1 ↔ ¬ a = 0 := by rw [h.one hx h1, ex_one_iff, h.one ha h0]
  refine ⟨?_, ?_⟩
  · rcases ex_all F with c | c
    · have := h.same hx h0 c; omega
    · have := h.same hx h1 c; omega
  · show _ = !((a : Int) == 0)
    rw [show (1 : Int) = ((1 : Nat) : Int) from rfl, show (0 : Int) = ((0 : Nat) : Int) from rfl, beq_cast, beq_cast]
    by_cases c : a = 0
    · rw [decide_eq_false fun e => k.1 e c, decide_eq_true c]; rfl
    · rw [decide_eq_true (k.2 c), decide_eq_false c]; rfl
theorem all_told (h : Sx W w S N r l b) (hx : (x, allQ 255 F) ∈ l) (ha : (a, F) ∈ l) (h1 : (1, c1) ∈ l) : ((x : Int) == 1) = ((a : Int) == 1) := by
  have k : x = 1 ↔ a = 1 := by rw [h.one hx h1, all_one_iff, h.one ha h1]
  rw [show (1 : Int) = ((1 : Nat) : Int) from rfl, beq_cast, beq_cast]
  exact decide_eq_decide.2 k
end
end Go.Proofs.YtlhanbjjlifjjaaGreat
