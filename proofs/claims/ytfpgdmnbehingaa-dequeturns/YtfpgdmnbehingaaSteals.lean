/-
  What a turn of a thief's does; a turn of the owner's, whatever it does.
-/
import Derived.Test.YtfpgdmnbehingaaOwns
namespace Go.Proofs.Ytfpgdmnbehingaa
open Go Go.RowKit

section
variable {W w w' : World} {G R T n j k : Nat} {ptr : Nat → Option Nat} {Ss : Nat → Ac}
theorem owns_any (h : Turn W w G R T n j ptr Ss) (hj : j ≤ 100000) (x : Int) (hx : 0 ≤ x ∧ x ≤ 255) :
    Calls Try.prog 17 #[.pointer (some ⟨G, 0, none⟩), .int .u8 x] w fun e w' => e = .returned (.tuple #[]) ∧ ∃ p S', Turn W w' G R T n (j + 1) (setP ptr 0 p) (setS Ss 0 S') ∧ (p = none ∨ ptr 0 = none ∨ S'.mu + 1 ≤ (Ss 0).mu) := by
  cases e : ptr 0 with
  | some A => have := owns_on h hj x e; rw [e] at this; exact this
  | none =>
    by_cases d : x % 2 = 0
    · have := owns_push h hj x hx d e; rw [e] at this; exact this
    · have := owns_pop h hj x hx d e; rw [e] at this; exact this
set_option maxHeartbeats 8000000 in
set_option maxRecDepth 100000 in
theorem steals_on (h : Turn W w G R T n j ptr Ss) (hj : j ≤ 100000) (hk : k < 3) {A : Nat} (hpA : ptr (k + 1) = some A) :
    Calls Try.prog 18 #[.pointer (some ⟨G, 0, none⟩), .int .i64 (k : Int)] w fun e w' => e = .returned (.tuple #[]) ∧ ∃ p S', Turn W w' G R T n (j + 1) (setP ptr (k + 1) p) (setS Ss (k + 1) S') ∧ (p = none ∨ ptr (k + 1) = none ∨ S'.mu + 1 ≤ (Ss (k + 1)).mu) := by
  have hk3 : (k : Int) < 3 := by omega
  have hkw : IntKind.i64.wrap ((k : Int) + 1) = (k : Int) + 1 := by rw [IntKind.wrap_i64]; omega
  obtain ⟨c, o, push, stp, adK, capK, L, K, adP, capP, P, ho0, ho1, hP, hL, H, Gm⟩ := h.ex
  have ho : 0 ≤ o ∧ o ≤ (j : Int) := ⟨ho0, ho1⟩
  have hnil := h.nil
  have h0 : ¬ (Ss (k + 1)).st = 0 := fun e => by have := (hnil (k + 1) (by omega)).2 e; rw [hpA] at this; cases this
  obtain ⟨ptr1, hq1⟩ : ∃ ptr1, ptr1 = ptr := ⟨_, rfl⟩
  obtain ⟨Ss1, hq2⟩ : ∃ Ss1, Ss1 = Ss := ⟨_, rfl⟩
  have hp : ptr1 (k + 1) = some A := by rw [hq1]; exact hpA
  have hpt : Aside (ptr1 = setP ptr (k + 1) (some A)) := by simp only [Aside]; rw [hq1]; exact setP_self ptr hpA
  have hp1 : Aside (∀ p, setP ptr1 (k + 1) p = setP ptr (k + 1) p) := fun p => by rw [hq1]
  have hs1 : Aside (∀ S, setS Ss1 (k + 1) S = setS Ss (k + 1) S) := fun p => by rw [hq2]
  have hm : ∀ S, S = (Ss1 (k + 1)).nxt 0 n c → (ptr (k + 1) = none ∨ S.mu + 1 ≤ (Ss (k + 1)).mu) := fun S e => .inr (by rw [e, hq2]; exact (Gm.fit (k + 1) (by omega)).mu_step h0)
  rw [← hq1, ← hq2] at H
  rw [← hq2] at Gm h0
  clear hq1 hq2 h hpA
  go_enter Try.func18, Try.ntmps18
  have z2 : w.cell? ⟨G, 4 + k, none⟩ = some (.pointer (some ⟨A, 0, none⟩)) := (by have := H.hd.cT hk; rw [hp] at this; exact this)
  have Ks : Calls Try.prog 30 #[.pointer (some ⟨G, 0, none⟩), .pointer (some ⟨A, 0, none⟩), .int .i64 ((k : Int) + 1)] w _ := wstep_any H (q := k + 1) (by omega) hp (Gm.fit (k + 1) (by omega)) h0 (Gm.few (k + 1) (by omega)) ⟨ho.1, by omega⟩
  have hown := Gm.thief hk h0
  have hmA := hm _ rfl
  clear hm
  generalize (Ss1 (k + 1)).after 0 n c = c' at Ks hown
  generalize (Ss1 (k + 1)).nxt 0 n c = S' at Ks hown hmA
  have hoA : Aside (0 ≤ o + 1 ∧ o + 1 ≤ ((j + 1 : Nat) : Int)) := (by simp only [Aside]; omega)
  clear h0 Gm
  rcases hown with ⟨hd, G2⟩ | ⟨hd, hg, G2⟩ | ⟨hd, hg, G2⟩
  · rw [decide_eq_false hd] at Ks
    have hdA : Aside (¬ S'.st = 0) := hd
    clear hd
    go_wp2_with (first
      | (go_at_call 30; refine Ks.mono ?_; clear Ks; rintro e w5 ⟨rfl, H5⟩))
    refine bodyPost_ret (results_none rfl _ _ _) rfl ?_
    exact ⟨rfl, some A, S', Turn.of hnil ⟨fun e => (by cases e), fun e => absurd e hdA.out⟩ hoA.out (by omega) (by omega) H5 G2 hpt.out (hs1.out _), .inr hmA⟩
  · rw [decide_eq_true hd] at Ks
    have hth := told_has hd hg
    have hth1 := hth.1
    have hth2 := hth.2
    obtain ⟨v, hv⟩ : ∃ v, S'.value = v := ⟨_, rfl⟩
    rw [hv] at hth2 G2
    have hdA : Aside (S'.st = 0) := hd
    clear hd hg hv hth
    go_wp2_with (first
      | (go_at_call 30; refine Ks.mono ?_; clear Ks; rintro e w5 ⟨rfl, H5⟩; have k5 := (H5.acts (k + 1) (by omega) A hp).1; rw [setS_same] at k5; have Kg := got_any k5; rw [hth1, hth2] at Kg; have y2 : w5.cell? ⟨G, 4 + k, none⟩ = some (.pointer (some ⟨A, 0, none⟩)) := (by have := H5.hd.cT hk; rw [hp] at this; exact this); have y11 := H5.hd.c11)
      | (go_at_call 20; refine Kg.mono ?_; clear Kg; rintro e w5 ⟨rfl, rfl⟩; have B6 : Below w5.heap.size w5 (w5.alloc (.cells #[.int .u64 v] 32)) := (Below.refl _ _).alloc (Nat.le_refl _) _; have H6 := H5.new B6)
      | (at_builtin; refine append_at H6.took w5.heap.size v (heap_new w5 _) (by omega) H6.size rfl _ _ rfl rfl rfl ?_; intro g7 cap7 w7 o7 b7 hg7; have H8 := H6.take o7 b7 hg7 rfl; have x12 := (H6.rowed H6.took b7).2.1.c11; have xf := (H6.rowed H6.took b7).2.1.free 11; have v2 := H8.hd.cT hk; have vf := H8.hd.free (4 + k); have H10 := H8.gone (Only.set G _ _ _) (H8.hd.setT hk none)))
    go_end0
    exact ⟨rfl, none, S', Turn.of hnil ⟨fun _ => hdA.out, fun _ => rfl⟩ hoA.out (by omega) (by omega) H10 G2 (hp1.out _) (hs1.out _), .inl rfl⟩
  · rw [decide_eq_true hd] at Ks
    have hth := told_not hg
    have hth1 := hth.1
    have hth2 := hth.2
    have hdA : Aside (S'.st = 0) := hd
    clear hd hg hth
    go_wp2_with (first
      | (go_at_call 30; refine Ks.mono ?_; clear Ks; rintro e w5 ⟨rfl, H5⟩; have k5 := (H5.acts (k + 1) (by omega) A hp).1; rw [setS_same] at k5; have Kg := got_any k5; rw [hth1, hth2] at Kg; have y2 : w5.cell? ⟨G, 4 + k, none⟩ = some (.pointer (some ⟨A, 0, none⟩)) := (by have := H5.hd.cT hk; rw [hp] at this; exact this); have vf := H5.hd.free (4 + k); have H10 := H5.gone (Only.set G _ _ _) (H5.hd.setT hk none))
      | (go_at_call 20; refine Kg.mono ?_; clear Kg; rintro e w5 ⟨rfl, rfl⟩))
    go_end0
    exact ⟨rfl, none, S', Turn.of hnil ⟨fun _ => hdA.out, fun _ => rfl⟩ hoA.out (by omega) (by omega) H10 G2 (hp1.out _) (hs1.out _), .inl rfl⟩
set_option maxHeartbeats 8000000 in
set_option maxRecDepth 100000 in
theorem steals_off (h : Turn W w G R T n j ptr Ss) (hj : j ≤ 100000) (hk : k < 3) (hpA : ptr (k + 1) = none) :
    Calls Try.prog 18 #[.pointer (some ⟨G, 0, none⟩), .int .i64 (k : Int)] w fun e w' => e = .returned (.tuple #[]) ∧ ∃ p S', Turn W w' G R T n (j + 1) (setP ptr (k + 1) p) (setS Ss (k + 1) S') ∧ (p = none ∨ ptr (k + 1) = none ∨ S'.mu + 1 ≤ (Ss (k + 1)).mu) := by
  have hk3 : (k : Int) < 3 := by omega
  have hkw : IntKind.i64.wrap ((k : Int) + 1) = (k : Int) + 1 := by rw [IntKind.wrap_i64]; omega
  obtain ⟨c, o, push, stp, adK, capK, L, K, adP, capP, P, ho0, ho1, hP, hL, H0, Gm0⟩ := h.ex
  have ho : 0 ≤ o ∧ o ≤ (j : Int) := ⟨ho0, ho1⟩
  have hnil := h.nil
  have i0 : (Ss (k + 1)).st = 0 := (hnil (k + 1) (by omega)).1 hpA
  have z2 : w.cell? ⟨G, 4 + k, none⟩ = some (.pointer none) := (by have := H0.hd.cT hk; rw [hpA] at this; exact this)
  have H1c := H0.drew
  have z1 := H0.hd.c1
  have K15 := steal_any T w.drew
  obtain ⟨A, hA⟩ : ∃ A, A = w.drew.heap.size := ⟨_, rfl⟩
  have hnew := H1c.old_act (A := A) (by omega)
  have hWA : W.heap.size ≤ A := by rw [hA]; exact H1c.size
  rw [← hA] at K15
  have hAA : Aside (A = w.drew.heap.size) := hA
  clear hA
  go_enter Try.func18, Try.ntmps18
  go_upto_region 1 with fail
  go_region_held3 (fun u => u.cell? ⟨G, 1, none⟩ = some (.pointer (some ⟨T, 0, none⟩))) (first | assumption | exact z1 | exact H2.hd.c1 | exact H.hd.c1) (first
    | (go_at_call 15; refine K15.mono ?_; clear K15; rintro e w1 ⟨rfl, k1, b1, s1⟩; have H2 := H1c.new (w' := w1) (by rw [← hAA.out]; exact b1); have u2 := H2.hd.cT hk; have uf := H2.hd.free (4 + k); clear s1; have H : WorldI W (w1.setCell ⟨G, 4 + k, none⟩ (.pointer (some ⟨A, 0, none⟩))) G R T n c o (setP ptr (k + 1) (some A)) (setS Ss (k + 1) Ac.ofSteal) push stp adK capK L K adP capP P := H2.begun (q := k + 1) (by omega) k1 hWA hnew (Only.set G _ _ _) (H2.hd.setT hk (some A))))
  have Gm := Gm0.enter (S := Ac.ofSteal) hk i0 Fit.ofSteal rfl
  obtain ⟨ptr1, hq1⟩ : ∃ ptr1, ptr1 = setP ptr (k + 1) (some A) := ⟨_, rfl⟩
  obtain ⟨Ss1, hq2⟩ : ∃ Ss1, Ss1 = setS Ss (k + 1) Ac.ofSteal := ⟨_, rfl⟩
  have hp : ptr1 (k + 1) = some A := by rw [hq1, setP_same]
  have h0 : ¬ (Ss1 (k + 1)).st = 0 := by rw [hq2, setS_same]; exact fun e => by cases e
  have hpt : Aside (ptr1 = setP ptr (k + 1) (some A)) := hq1
  have hp1 : Aside (∀ p, setP ptr1 (k + 1) p = setP ptr (k + 1) p) := fun p => by rw [hq1, setP_twice]
  have hs1 : Aside (∀ S, setS Ss1 (k + 1) S = setS Ss (k + 1) S) := fun p => by rw [hq2, setS_twice]
  have hm : ∀ S, S = (Ss1 (k + 1)).nxt 0 n c → (ptr (k + 1) = none ∨ S.mu + 1 ≤ (Ss (k + 1)).mu) := fun S e => .inl hpA
  rw [← hq1, ← hq2] at H
  rw [← hq2] at Gm
  generalize (w1.setCell ⟨G, 4 + k, none⟩ (.pointer (some ⟨A, 0, none⟩))) = w4 at H ⊢
  clear hq1 hq2 h H2 H0 H1c Gm0 k1 b1 u2 uf z1 z2 hAA hnew i0 hWA
  have z2 : w4.cell? ⟨G, 4 + k, none⟩ = some (.pointer (some ⟨A, 0, none⟩)) := (by have := H.hd.cT hk; rw [hp] at this; exact this)
  have Ks : Calls Try.prog 30 #[.pointer (some ⟨G, 0, none⟩), .pointer (some ⟨A, 0, none⟩), .int .i64 ((k : Int) + 1)] w4 _ := wstep_any H (q := k + 1) (by omega) hp (Gm.fit (k + 1) (by omega)) h0 (Gm.few (k + 1) (by omega)) ⟨ho.1, by omega⟩
  have hown := Gm.thief hk h0
  have hmA := hm _ rfl
  clear hm
  generalize (Ss1 (k + 1)).after 0 n c = c' at Ks hown
  generalize (Ss1 (k + 1)).nxt 0 n c = S' at Ks hown hmA
  have hoA : Aside (0 ≤ o + 1 ∧ o + 1 ≤ ((j + 1 : Nat) : Int)) := (by simp only [Aside]; omega)
  clear h0 Gm
  rcases hown with ⟨hd, G2⟩ | ⟨hd, hg, G2⟩ | ⟨hd, hg, G2⟩
  · rw [decide_eq_false hd] at Ks
    have hdA : Aside (¬ S'.st = 0) := hd
    clear hd
    go_wp2_with (first
      | (go_at_call 30; refine Ks.mono ?_; clear Ks; rintro e w5 ⟨rfl, H5⟩))
    refine bodyPost_ret (results_none rfl _ _ _) rfl ?_
    exact ⟨rfl, some A, S', Turn.of hnil ⟨fun e => (by cases e), fun e => absurd e hdA.out⟩ hoA.out (by omega) (by omega) H5 G2 hpt.out (hs1.out _), .inr hmA⟩
  · rw [decide_eq_true hd] at Ks
    have hth := told_has hd hg
    have hth1 := hth.1
    have hth2 := hth.2
    obtain ⟨v, hv⟩ : ∃ v, S'.value = v := ⟨_, rfl⟩
    rw [hv] at hth2 G2
    have hdA : Aside (S'.st = 0) := hd
    clear hd hg hv hth
    go_wp2_with (first
      | (go_at_call 30; refine Ks.mono ?_; clear Ks; rintro e w5 ⟨rfl, H5⟩; have k5 := (H5.acts (k + 1) (by omega) A hp).1; rw [setS_same] at k5; have Kg := got_any k5; rw [hth1, hth2] at Kg; have y2 : w5.cell? ⟨G, 4 + k, none⟩ = some (.pointer (some ⟨A, 0, none⟩)) := (by have := H5.hd.cT hk; rw [hp] at this; exact this); have y11 := H5.hd.c11)
      | (go_at_call 20; refine Kg.mono ?_; clear Kg; rintro e w5 ⟨rfl, rfl⟩; have B6 : Below w5.heap.size w5 (w5.alloc (.cells #[.int .u64 v] 32)) := (Below.refl _ _).alloc (Nat.le_refl _) _; have H6 := H5.new B6)
      | (at_builtin; refine append_at H6.took w5.heap.size v (heap_new w5 _) (by omega) H6.size rfl _ _ rfl rfl rfl ?_; intro g7 cap7 w7 o7 b7 hg7; have H8 := H6.take o7 b7 hg7 rfl; have x12 := (H6.rowed H6.took b7).2.1.c11; have xf := (H6.rowed H6.took b7).2.1.free 11; have v2 := H8.hd.cT hk; have vf := H8.hd.free (4 + k); have H10 := H8.gone (Only.set G _ _ _) (H8.hd.setT hk none)))
    go_end0
    exact ⟨rfl, none, S', Turn.of hnil ⟨fun _ => hdA.out, fun _ => rfl⟩ hoA.out (by omega) (by omega) H10 G2 (hp1.out _) (hs1.out _), .inl rfl⟩
  · rw [decide_eq_true hd] at Ks
    have hth := told_not hg
    have hth1 := hth.1
    have hth2 := hth.2
    have hdA : Aside (S'.st = 0) := hd
    clear hd hg hth
    go_wp2_with (first
      | (go_at_call 30; refine Ks.mono ?_; clear Ks; rintro e w5 ⟨rfl, H5⟩; have k5 := (H5.acts (k + 1) (by omega) A hp).1; rw [setS_same] at k5; have Kg := got_any k5; rw [hth1, hth2] at Kg; have y2 : w5.cell? ⟨G, 4 + k, none⟩ = some (.pointer (some ⟨A, 0, none⟩)) := (by have := H5.hd.cT hk; rw [hp] at this; exact this); have vf := H5.hd.free (4 + k); have H10 := H5.gone (Only.set G _ _ _) (H5.hd.setT hk none))
      | (go_at_call 20; refine Kg.mono ?_; clear Kg; rintro e w5 ⟨rfl, rfl⟩))
    go_end0
    exact ⟨rfl, none, S', Turn.of hnil ⟨fun _ => hdA.out, fun _ => rfl⟩ hoA.out (by omega) (by omega) H10 G2 (hp1.out _) (hs1.out _), .inl rfl⟩
theorem steals_any (h : Turn W w G R T n j ptr Ss) (hj : j ≤ 100000) (hk : k < 3) :
    Calls Try.prog 18 #[.pointer (some ⟨G, 0, none⟩), .int .i64 (k : Int)] w fun e w' => e = .returned (.tuple #[]) ∧ ∃ p S', Turn W w' G R T n (j + 1) (setP ptr (k + 1) p) (setS Ss (k + 1) S') ∧ (p = none ∨ ptr (k + 1) = none ∨ S'.mu + 1 ≤ (Ss (k + 1)).mu) := by
  cases e : ptr (k + 1) with
  | some A => have := steals_on h hj hk e; rw [e] at this; exact this
  | none => have := steals_off h hj hk e; rw [e] at this; exact this
end
end Go.Proofs.Ytfpgdmnbehingaa
