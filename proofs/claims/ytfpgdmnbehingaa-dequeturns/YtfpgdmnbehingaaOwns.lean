/-
  What a turn of the owner's does.
-/
import Derived.Test.YtfpgdmnbehingaaGameS
namespace Go.Proofs.Ytfpgdmnbehingaa
open Go Go.RowKit

/-- Behind j turns: who is under way, and how far. -/
structure Turn (W w : World) (G R T n j : Nat) (ptr : Nat → Option Nat) (Ss : Nat → Ac) : Prop where
  ex : ∃ (c : Nat → Int) (o push : Int) (stp : Nat → Nat) (adK : Option Addr) (capK L : Nat) (K : Nat → Int) (adP : Option Addr) (capP P : Nat), 0 ≤ o ∧ o ≤ (j : Int) ∧ P ≤ j ∧ L ≤ j ∧ WorldI W w G R T n c o ptr Ss push stp adK capK L K adP capP P ∧ GameI n c Ss stp push P L K
  nil : ∀ q, q < 4 → (ptr q = none ↔ (Ss q).st = 0)
theorem Turn.of {W w : World} {G R T n j k : Nat} {ptr ptr2 : Nat → Option Nat} {Ss Ss2 : Nat → Ac} {p : Option Nat} {S : Ac} {c : Nat → Int} {o push : Int} {stp : Nat → Nat} {adK : Option Addr} {capK L : Nat} {K : Nat → Int} {adP : Option Addr} {capP P : Nat}
    (hn : ∀ q, q < 4 → (ptr q = none ↔ (Ss q).st = 0)) (hk : p = none ↔ S.st = 0) (ho : 0 ≤ o ∧ o ≤ (j : Int)) (hP : P ≤ j) (hL : L ≤ j) (H : WorldI W w G R T n c o ptr2 Ss2 push stp adK capK L K adP capP P) (Gm : GameI n c Ss2 stp push P L K) (e1 : ptr2 = setP ptr k p) (e2 : Ss2 = setS Ss k S) : Turn W w G R T n j (setP ptr k p) (setS Ss k S) := by
  subst e1 e2
  refine ⟨⟨c, o, push, stp, adK, capK, L, K, adP, capP, P, ho.1, ho.2, hP, hL, H, Gm⟩, fun q hq => ?_⟩
  by_cases d : q = k
  · subst d; rw [setP_same, setS_same]; exact hk
  · rw [setP_other _ _ d, setS_other _ _ d]; exact hn q hq
theorem setP_self (f : Nat → Option Nat) {k : Nat} {x : Option Nat} (h : f k = x) : f = setP f k x := by
  funext i
  by_cases d : i = k
  · rw [d, setP_same]; exact h
  · rw [setP_other _ _ d]
theorem told_has {S : Ac} (h : S.st = 0) (g : S.got = true) : S.has = true ∧ S.told = S.value := by
  have e : S.has = true := by unfold Ac.has; rw [h, g]; rfl
  exact ⟨e, by unfold Ac.told; rw [if_pos e]⟩
theorem told_not {S : Ac} (g : S.got = false) : S.has = false ∧ S.told = 0 := by
  have e : S.has = false := by unfold Ac.has; rw [g]; simp
  exact ⟨e, by unfold Ac.told; rw [if_neg (by rw [e]; simp)]⟩

section
variable {W w w' : World} {G R T n j : Nat} {ptr : Nat → Option Nat} {Ss : Nat → Ac}
theorem WorldI.old_act {o : Int} {c : Nat → Int} {push : Int} {stp : Nat → Nat} {adK adP : Option Addr} {capK L capP P : Nat} {K : Nat → Int} (h : WorldI W w G R T n c o ptr Ss push stp adK capK L K adP capP P) {A : Nat} (hA : w.heap.size ≤ A) : ∀ r, r < 4 → ptr r ≠ some A := fun r hr e => by
  have := (h.acts r hr A e).1.lt
  omega
set_option maxHeartbeats 8000000 in
set_option maxRecDepth 100000 in
theorem owns_on (h : Turn W w G R T n j ptr Ss) (hj : j ≤ 100000) (x : Int) {A : Nat} (hpA : ptr 0 = some A) :
    Calls Try.prog 17 #[.pointer (some ⟨G, 0, none⟩), .int .u8 x] w fun e w' => e = .returned (.tuple #[]) ∧ ∃ p S', Turn W w' G R T n (j + 1) (setP ptr 0 p) (setS Ss 0 S') ∧ (p = none ∨ ptr 0 = none ∨ S'.mu + 1 ≤ (Ss 0).mu) := by
  obtain ⟨c, o, push, stp, adK, capK, L, K, adP, capP, P, ho0, ho1, hP, hL, H, Gm⟩ := h.ex
  have ho : 0 ≤ o ∧ o ≤ (j : Int) := ⟨ho0, ho1⟩
  have hnil := h.nil
  have h0 : ¬ (Ss 0).st = 0 := fun e => by have := (hnil 0 (by omega)).2 e; rw [hpA] at this; cases this
  obtain ⟨ptr1, hq1⟩ : ∃ ptr1, ptr1 = ptr := ⟨_, rfl⟩
  obtain ⟨Ss1, hq2⟩ : ∃ Ss1, Ss1 = Ss := ⟨_, rfl⟩
  have hp : ptr1 0 = some A := by rw [hq1]; exact hpA
  have hpt : Aside (ptr1 = setP ptr 0 (some A)) := by simp only [Aside]; rw [hq1]; exact setP_self ptr hpA
  have hp1 : Aside (∀ p, setP ptr1 0 p = setP ptr 0 p) := fun p => by rw [hq1]
  have hs1 : Aside (∀ S, setS Ss1 0 S = setS Ss 0 S) := fun p => by rw [hq2]
  have hm : ∀ S, S = (Ss1 0).nxt 0 n c → (ptr 0 = none ∨ S.mu + 1 ≤ (Ss 0).mu) := fun S e => .inr (by rw [e, hq2]; exact (Gm.fit 0 (by omega)).mu_step h0)
  rw [← hq1, ← hq2] at H
  rw [← hq2] at Gm h0
  clear hq1 hq2 h hpA
  go_enter Try.func17, Try.ntmps17
  have z2 : w.cell? ⟨G, 2, none⟩ = some (.pointer (some ⟨A, 0, none⟩)) := (by have := H.hd.c2; rw [hp] at this; exact this)
  have Ks : Calls Try.prog 30 #[.pointer (some ⟨G, 0, none⟩), .pointer (some ⟨A, 0, none⟩), .int .i64 0] w _ := wstep_any H (q := 0) (by omega) hp (Gm.fit 0 (by omega)) h0 (Gm.few 0 (by omega)) ⟨ho.1, by omega⟩
  have hown := Gm.own h0 (by omega)
  have hmA := hm _ rfl
  clear hm
  generalize (Ss1 0).after 0 n c = c' at Ks hown
  generalize (Ss1 0).nxt 0 n c = S' at Ks hown hmA
  have hoA : Aside (0 ≤ o + 1 ∧ o + 1 ≤ ((j + 1 : Nat) : Int)) := (by simp only [Aside]; omega)
  clear h0 Gm
  rcases hown with ⟨hd, G2⟩ | ⟨hd, hg, hpu, hv, G2⟩ | ⟨hd, hg, hpu, G2⟩ | ⟨hd, hg, G2⟩
  · rw [decide_eq_false hd] at Ks
    have hdA : Aside (¬ S'.st = 0) := hd
    clear hd
    go_wp2_with (first
      | (go_at_call 30; refine Ks.mono ?_; clear Ks; rintro e w5 ⟨rfl, H5⟩))
    refine bodyPost_ret (results_none rfl _ _ _) rfl ?_
    exact ⟨rfl, some A, S', Turn.of hnil ⟨fun e => (by cases e), fun e => absurd e hdA.out⟩ hoA.out (by omega) (by omega) H5 G2 hpt.out (hs1.out _), .inr hmA⟩
  · rw [decide_eq_true hd] at Ks
    have hth := told_has hd hg
    have hth1 := hth.1
    have hth2 := hth.2
    rw [hv] at hth2
    have hdA : Aside (S'.st = 0) := hd
    have hpd : decide (push > 0) = true := decide_eq_true hpu
    have hpd2 : decide (0 < push) = true := decide_eq_true hpu
    clear hd hg hv hth
    go_wp2_with (first
      | (go_at_call 30; refine Ks.mono ?_; clear Ks; rintro e w5 ⟨rfl, H5⟩; have k5 := (H5.acts 0 (by omega) A hp).1; rw [setS_same] at k5; have Kg := got_any k5; rw [hth1, hth2] at Kg; have y2 : w5.cell? ⟨G, 2, none⟩ = some (.pointer (some ⟨A, 0, none⟩)) := (by have := H5.hd.c2; rw [hp] at this; exact this); have y3 := H5.hd.c3; have y12 := H5.hd.c12)
      | (go_at_call 20; refine Kg.mono ?_; clear Kg; rintro e w5 ⟨rfl, rfl⟩; have B6 : Below w5.heap.size w5 (w5.alloc (.cells #[.int .u64 push] 32)) := (Below.refl _ _).alloc (Nat.le_refl _) _; have H6 := H5.new B6; obtain ⟨Y, hY⟩ := H6.put)
      | (at_builtin; refine append_at hY w5.heap.size push (heap_new w5 _) (by omega) H6.size rfl _ _ rfl rfl rfl ?_; intro g7 cap7 w7 o7 b7 hg7; have H8 := H6.puts o7 b7 hg7 rfl; have x12 := (H6.rowed hY b7).2.1.c12; have xf := (H6.rowed hY b7).2.1.free 12; have x13 := H8.hd.c13; have x3 := H8.hd.c3; have xf13 := H8.hd.free 13; have H9 := H8.head (Only.set G _ _ _) H8.hd.set13 H8.acts H8.inj; have v2 := H9.hd.c2; have vf := H9.hd.free 2; have H10 := H9.gone (Only.set G _ _ _) (H9.hd.set2 none)))
    go_end0
    exact ⟨rfl, none, S', Turn.of hnil ⟨fun _ => hdA.out, fun _ => rfl⟩ hoA.out (by omega) (by omega) H10 G2 (hp1.out _) (hs1.out _), .inl rfl⟩
  · rw [decide_eq_true hd] at Ks
    have hth := told_has hd hg
    have hth1 := hth.1
    have hth2 := hth.2
    obtain ⟨v, hv⟩ : ∃ v, S'.value = v := ⟨_, rfl⟩
    rw [hv] at hth2 G2
    have hdA : Aside (S'.st = 0) := hd
    subst hpu
    clear hd hg hv hth
    go_wp2_with (first
      | (go_at_call 30; refine Ks.mono ?_; clear Ks; rintro e w5 ⟨rfl, H5⟩; have k5 := (H5.acts 0 (by omega) A hp).1; rw [setS_same] at k5; have Kg := got_any k5; rw [hth1, hth2] at Kg; have y2 : w5.cell? ⟨G, 2, none⟩ = some (.pointer (some ⟨A, 0, none⟩)) := (by have := H5.hd.c2; rw [hp] at this; exact this); have y3 := H5.hd.c3; have y11 := H5.hd.c11)
      | (go_at_call 20; refine Kg.mono ?_; clear Kg; rintro e w5 ⟨rfl, rfl⟩; have B6 : Below w5.heap.size w5 (w5.alloc (.cells #[.int .u64 v] 32)) := (Below.refl _ _).alloc (Nat.le_refl _) _; have H6 := H5.new B6)
      | (at_builtin; refine append_at H6.took w5.heap.size v (heap_new w5 _) (by omega) H6.size rfl _ _ rfl rfl rfl ?_; intro g7 cap7 w7 o7 b7 hg7; have H8 := H6.take o7 b7 hg7 rfl; have x12 := (H6.rowed H6.took b7).2.1.c11; have xf := (H6.rowed H6.took b7).2.1.free 11; have v2 := H8.hd.c2; have vf := H8.hd.free 2; have H10 := H8.gone (Only.set G _ _ _) (H8.hd.set2 none)))
    go_end0
    exact ⟨rfl, none, S', Turn.of hnil ⟨fun _ => hdA.out, fun _ => rfl⟩ hoA.out (by omega) (by omega) H10 G2 (hp1.out _) (hs1.out _), .inl rfl⟩
  · rw [decide_eq_true hd] at Ks
    have hth := told_not hg
    have hth1 := hth.1
    have hth2 := hth.2
    have hdA : Aside (S'.st = 0) := hd
    clear hd hg hth
    go_wp2_with (first
      | (go_at_call 30; refine Ks.mono ?_; clear Ks; rintro e w5 ⟨rfl, H5⟩; have k5 := (H5.acts 0 (by omega) A hp).1; rw [setS_same] at k5; have Kg := got_any k5; rw [hth1, hth2] at Kg; have y2 : w5.cell? ⟨G, 2, none⟩ = some (.pointer (some ⟨A, 0, none⟩)) := (by have := H5.hd.c2; rw [hp] at this; exact this); have y3 := H5.hd.c3; have vf := H5.hd.free 2; have H10 := H5.gone (Only.set G _ _ _) (H5.hd.set2 none))
      | (go_at_call 20; refine Kg.mono ?_; clear Kg; rintro e w5 ⟨rfl, rfl⟩))
    go_end0
    exact ⟨rfl, none, S', Turn.of hnil ⟨fun _ => hdA.out, fun _ => rfl⟩ hoA.out (by omega) (by omega) H10 G2 (hp1.out _) (hs1.out _), .inl rfl⟩
set_option maxHeartbeats 8000000 in
set_option maxRecDepth 100000 in
theorem owns_pop (h : Turn W w G R T n j ptr Ss) (hj : j ≤ 100000) (x : Int) (hx : 0 ≤ x ∧ x ≤ 255) (hx1 : ¬ x % 2 = 0) (hpA : ptr 0 = none) :
    Calls Try.prog 17 #[.pointer (some ⟨G, 0, none⟩), .int .u8 x] w fun e w' => e = .returned (.tuple #[]) ∧ ∃ p S', Turn W w' G R T n (j + 1) (setP ptr 0 p) (setS Ss 0 S') ∧ (p = none ∨ ptr 0 = none ∨ S'.mu + 1 ≤ (Ss 0).mu) := by
  obtain ⟨c, o, push0, stp, adK, capK, L, K, adP, capP, P, ho0, ho1, hP, hL, H0, Gm0⟩ := h.ex
  have ho : 0 ≤ o ∧ o ≤ (j : Int) := ⟨ho0, ho1⟩
  have hnil := h.nil
  have i0 : (Ss 0).st = 0 := (hnil 0 (by omega)).1 hpA
  obtain ⟨y, hy⟩ : ∃ y, x % 2 = y := ⟨_, rfl⟩
  have hyt : Int.tmod x 2 = y := by rw [Int.tmod_eq_emod_of_nonneg hx.1]; exact hy
  have hy0 : (y == 0) = false := by rw [hy] at hx1; simpa using hx1
  have hy1 : ¬ y = 0 := by rw [← hy]; exact hx1
  have z2 : w.cell? ⟨G, 2, none⟩ = some (.pointer none) := (by have := H0.hd.c2; rw [hpA] at this; exact this)
  have z3 := H0.hd.c3
  have zf3 := H0.hd.free 3
  have H1 : WorldI W (w.setCell ⟨G, 3, none⟩ (.int .u64 0)) G R T n c o ptr Ss 0 stp adK capK L K adP capP P := H0.head (Only.set G _ w _) (H0.hd.set3 0) H0.acts H0.inj
  have z1 := H1.hd.c1
  have K14 := pop_any T (w.setCell ⟨G, 3, none⟩ (.int .u64 0))
  obtain ⟨A, hA⟩ : ∃ A, A = (w.setCell ⟨G, 3, none⟩ (.int .u64 0)).heap.size := ⟨_, rfl⟩
  have hnew := H1.old_act (A := A) (by omega)
  have hWA : W.heap.size ≤ A := by rw [hA]; exact H1.size
  rw [← hA] at K14
  have hAA : Aside (A = (w.setCell ⟨G, 3, none⟩ (.int .u64 0)).heap.size) := hA
  clear hA hx1 hx
  go_enter Try.func17, Try.ntmps17
  go_upto_region 6 with (first
    | (go_at_call 14; refine K14.mono ?_; clear K14; rintro e w1 ⟨rfl, k1, b1, s1⟩; have H2 := H1.new (w' := w1) (by rw [← hAA.out]; exact b1); have u2 := H2.hd.c2; have uf := H2.hd.free 2; clear s1))
  obtain ⟨push, hpush⟩ : ∃ p : Int, p = 0 := ⟨_, rfl⟩
  have H : WorldI W (w1.setCell ⟨G, 2, none⟩ (.pointer (some ⟨A, 0, none⟩))) G R T n c o (setP ptr 0 (some A)) (setS Ss 0 Ac.ofPop) push stp adK capK L K adP capP P := by rw [hpush]; exact H2.begun (q := 0) (by omega) k1 hWA hnew (Only.set G _ _ _) (H2.hd.set2 (some A))
  have Gm := Gm0.begin (O := Ac.ofPop) (push' := push) i0 Fit.ofPop rfl (.inr ⟨rfl, hpush⟩)
  clear hpush
  obtain ⟨ptr1, hq1⟩ : ∃ ptr1, ptr1 = setP ptr 0 (some A) := ⟨_, rfl⟩
  obtain ⟨Ss1, hq2⟩ : ∃ Ss1, Ss1 = setS Ss 0 Ac.ofPop := ⟨_, rfl⟩
  have hp : ptr1 0 = some A := by rw [hq1, setP_same]
  have h0 : ¬ (Ss1 0).st = 0 := by rw [hq2, setS_same]; exact fun e => by cases e
  have hpt : Aside (ptr1 = setP ptr 0 (some A)) := hq1
  have hp1 : Aside (∀ p, setP ptr1 0 p = setP ptr 0 p) := fun p => by rw [hq1, setP_twice]
  have hs1 : Aside (∀ S, setS Ss1 0 S = setS Ss 0 S) := fun p => by rw [hq2, setS_twice]
  have hm : ∀ S, S = (Ss1 0).nxt 0 n c → (ptr 0 = none ∨ S.mu + 1 ≤ (Ss 0).mu) := fun S e => .inl hpA
  rw [← hq1, ← hq2] at H
  rw [← hq2] at Gm
  generalize (w1.setCell ⟨G, 2, none⟩ (.pointer (some ⟨A, 0, none⟩))) = w4 at H ⊢
  clear hq1 hq2 h H2 H1 H0 Gm0 k1 b1 u2 uf z1 z2 z3 zf3 hAA hnew hyt hy hy0 hy1 i0 hWA
  have z2 : w4.cell? ⟨G, 2, none⟩ = some (.pointer (some ⟨A, 0, none⟩)) := (by have := H.hd.c2; rw [hp] at this; exact this)
  have Ks : Calls Try.prog 30 #[.pointer (some ⟨G, 0, none⟩), .pointer (some ⟨A, 0, none⟩), .int .i64 0] w4 _ := wstep_any H (q := 0) (by omega) hp (Gm.fit 0 (by omega)) h0 (Gm.few 0 (by omega)) ⟨ho.1, by omega⟩
  have hown := Gm.own h0 (by omega)
  have hmA := hm _ rfl
  clear hm
  generalize (Ss1 0).after 0 n c = c' at Ks hown
  generalize (Ss1 0).nxt 0 n c = S' at Ks hown hmA
  have hoA : Aside (0 ≤ o + 1 ∧ o + 1 ≤ ((j + 1 : Nat) : Int)) := (by simp only [Aside]; omega)
  clear h0 Gm
  rcases hown with ⟨hd, G2⟩ | ⟨hd, hg, hpu, hv, G2⟩ | ⟨hd, hg, hpu, G2⟩ | ⟨hd, hg, G2⟩
  · rw [decide_eq_false hd] at Ks
    have hdA : Aside (¬ S'.st = 0) := hd
    clear hd
    go_wp2_with (first
      | (go_at_call 30; refine Ks.mono ?_; clear Ks; rintro e w5 ⟨rfl, H5⟩))
    refine bodyPost_ret (results_none rfl _ _ _) rfl ?_
    exact ⟨rfl, some A, S', Turn.of hnil ⟨fun e => (by cases e), fun e => absurd e hdA.out⟩ hoA.out (by omega) (by omega) H5 G2 hpt.out (hs1.out _), .inr hmA⟩
  · rw [decide_eq_true hd] at Ks
    have hth := told_has hd hg
    have hth1 := hth.1
    have hth2 := hth.2
    rw [hv] at hth2
    have hdA : Aside (S'.st = 0) := hd
    have hpd : decide (push > 0) = true := decide_eq_true hpu
    have hpd2 : decide (0 < push) = true := decide_eq_true hpu
    clear hd hg hv hth
    go_wp2_with (first
      | (go_at_call 30; refine Ks.mono ?_; clear Ks; rintro e w5 ⟨rfl, H5⟩; have k5 := (H5.acts 0 (by omega) A hp).1; rw [setS_same] at k5; have Kg := got_any k5; rw [hth1, hth2] at Kg; have y2 : w5.cell? ⟨G, 2, none⟩ = some (.pointer (some ⟨A, 0, none⟩)) := (by have := H5.hd.c2; rw [hp] at this; exact this); have y3 := H5.hd.c3; have y12 := H5.hd.c12)
      | (go_at_call 20; refine Kg.mono ?_; clear Kg; rintro e w5 ⟨rfl, rfl⟩; have B6 : Below w5.heap.size w5 (w5.alloc (.cells #[.int .u64 push] 32)) := (Below.refl _ _).alloc (Nat.le_refl _) _; have H6 := H5.new B6; obtain ⟨Y, hY⟩ := H6.put)
      | (at_builtin; refine append_at hY w5.heap.size push (heap_new w5 _) (by omega) H6.size rfl _ _ rfl rfl rfl ?_; intro g7 cap7 w7 o7 b7 hg7; have H8 := H6.puts o7 b7 hg7 rfl; have x12 := (H6.rowed hY b7).2.1.c12; have xf := (H6.rowed hY b7).2.1.free 12; have x13 := H8.hd.c13; have x3 := H8.hd.c3; have xf13 := H8.hd.free 13; have H9 := H8.head (Only.set G _ _ _) H8.hd.set13 H8.acts H8.inj; have v2 := H9.hd.c2; have vf := H9.hd.free 2; have H10 := H9.gone (Only.set G _ _ _) (H9.hd.set2 none)))
    go_end0
    exact ⟨rfl, none, S', Turn.of hnil ⟨fun _ => hdA.out, fun _ => rfl⟩ hoA.out (by omega) (by omega) H10 G2 (hp1.out _) (hs1.out _), .inl rfl⟩
  · rw [decide_eq_true hd] at Ks
    have hth := told_has hd hg
    have hth1 := hth.1
    have hth2 := hth.2
    obtain ⟨v, hv⟩ : ∃ v, S'.value = v := ⟨_, rfl⟩
    rw [hv] at hth2 G2
    have hdA : Aside (S'.st = 0) := hd
    subst hpu
    clear hd hg hv hth
    go_wp2_with (first
      | (go_at_call 30; refine Ks.mono ?_; clear Ks; rintro e w5 ⟨rfl, H5⟩; have k5 := (H5.acts 0 (by omega) A hp).1; rw [setS_same] at k5; have Kg := got_any k5; rw [hth1, hth2] at Kg; have y2 : w5.cell? ⟨G, 2, none⟩ = some (.pointer (some ⟨A, 0, none⟩)) := (by have := H5.hd.c2; rw [hp] at this; exact this); have y3 := H5.hd.c3; have y11 := H5.hd.c11)
      | (go_at_call 20; refine Kg.mono ?_; clear Kg; rintro e w5 ⟨rfl, rfl⟩; have B6 : Below w5.heap.size w5 (w5.alloc (.cells #[.int .u64 v] 32)) := (Below.refl _ _).alloc (Nat.le_refl _) _; have H6 := H5.new B6)
      | (at_builtin; refine append_at H6.took w5.heap.size v (heap_new w5 _) (by omega) H6.size rfl _ _ rfl rfl rfl ?_; intro g7 cap7 w7 o7 b7 hg7; have H8 := H6.take o7 b7 hg7 rfl; have x12 := (H6.rowed H6.took b7).2.1.c11; have xf := (H6.rowed H6.took b7).2.1.free 11; have v2 := H8.hd.c2; have vf := H8.hd.free 2; have H10 := H8.gone (Only.set G _ _ _) (H8.hd.set2 none)))
    go_end0
    exact ⟨rfl, none, S', Turn.of hnil ⟨fun _ => hdA.out, fun _ => rfl⟩ hoA.out (by omega) (by omega) H10 G2 (hp1.out _) (hs1.out _), .inl rfl⟩
  · rw [decide_eq_true hd] at Ks
    have hth := told_not hg
    have hth1 := hth.1
    have hth2 := hth.2
    have hdA : Aside (S'.st = 0) := hd
    clear hd hg hth
    go_wp2_with (first
      | (go_at_call 30; refine Ks.mono ?_; clear Ks; rintro e w5 ⟨rfl, H5⟩; have k5 := (H5.acts 0 (by omega) A hp).1; rw [setS_same] at k5; have Kg := got_any k5; rw [hth1, hth2] at Kg; have y2 : w5.cell? ⟨G, 2, none⟩ = some (.pointer (some ⟨A, 0, none⟩)) := (by have := H5.hd.c2; rw [hp] at this; exact this); have y3 := H5.hd.c3; have vf := H5.hd.free 2; have H10 := H5.gone (Only.set G _ _ _) (H5.hd.set2 none))
      | (go_at_call 20; refine Kg.mono ?_; clear Kg; rintro e w5 ⟨rfl, rfl⟩))
    go_end0
    exact ⟨rfl, none, S', Turn.of hnil ⟨fun _ => hdA.out, fun _ => rfl⟩ hoA.out (by omega) (by omega) H10 G2 (hp1.out _) (hs1.out _), .inl rfl⟩
set_option maxHeartbeats 8000000 in
set_option maxRecDepth 100000 in
theorem owns_push (h : Turn W w G R T n j ptr Ss) (hj : j ≤ 100000) (x : Int) (hx : 0 ≤ x ∧ x ≤ 255) (hx1 : x % 2 = 0) (hpA : ptr 0 = none) :
    Calls Try.prog 17 #[.pointer (some ⟨G, 0, none⟩), .int .u8 x] w fun e w' => e = .returned (.tuple #[]) ∧ ∃ p S', Turn W w' G R T n (j + 1) (setP ptr 0 p) (setS Ss 0 S') ∧ (p = none ∨ ptr 0 = none ∨ S'.mu + 1 ≤ (Ss 0).mu) := by
  obtain ⟨c, o, push0, stp, adK, capK, L, K, adP, capP, P, ho0, ho1, hP, hL, H0, Gm0⟩ := h.ex
  have ho : 0 ≤ o ∧ o ≤ (j : Int) := ⟨ho0, ho1⟩
  have hnil := h.nil
  have i0 : (Ss 0).st = 0 := (hnil 0 (by omega)).1 hpA
  have hyt : Int.tmod x 2 = 0 := by rw [Int.tmod_eq_emod_of_nonneg hx.1]; exact hx1
  have z2 : w.cell? ⟨G, 2, none⟩ = some (.pointer none) := (by have := H0.hd.c2; rw [hpA] at this; exact this)
  have z3 := H0.hd.c3
  have zf3 := H0.hd.free 3
  have H1 : WorldI W (w.setCell ⟨G, 3, none⟩ (.int .u64 0)) G R T n c o ptr Ss 0 stp adK capK L K adP capP P := H0.head (Only.set G _ w _) (H0.hd.set3 0) H0.acts H0.inj
  have z12 := H1.hd.c12
  have y3 := H1.hd.c3
  have yf3 := H1.hd.free 3
  have p1 : IntKind.u64.wrap (P : Int) = (P : Int) := by rw [IntKind.wrap_u64]; omega
  have p2 : IntKind.u64.wrap ((P : Int) + 1) = (P : Int) + 1 := by rw [IntKind.wrap_u64]; omega
  have p3 : ((P : Int) + 1) % 18446744073709551616 = (P : Int) + 1 := by omega
  have p4 : (P : Int) % 18446744073709551616 = (P : Int) := by omega
  go_enter Try.func17, Try.ntmps17
  go_upto_region 4 with fail
  have H1b : WorldI W ((w.setCell ⟨G, 3, none⟩ (.int .u64 0)).setCell ⟨G, 3, none⟩ (.int .u64 ((P : Int) + 1))) G R T n c o ptr Ss ((P : Int) + 1) stp adK capK L K adP capP P := H1.head (Only.set G _ _ _) (H1.hd.set3 _) H1.acts H1.inj
  generalize ((w.setCell ⟨G, 3, none⟩ (.int .u64 0)).setCell ⟨G, 3, none⟩ (.int .u64 ((P : Int) + 1))) = w2 at H1b ⊢
  clear z12 y3 yf3 z2 z3 zf3 p1 p2 p3 p4
  have H1c := H1b.drew
  have z1 := H1b.hd.c1
  have y3 := H1b.hd.c3
  have K13 := push_any T ((P : Int) + 1) w2.drew
  obtain ⟨A, hA⟩ : ∃ A, A = w2.drew.heap.size := ⟨_, rfl⟩
  have hnew := H1c.old_act (A := A) (by omega)
  have hWA : W.heap.size ≤ A := by rw [hA]; exact H1c.size
  rw [← hA] at K13
  have hAA : Aside (A = w2.drew.heap.size) := hA
  clear hA hx1 hx
  go_region_held3 (fun u => u.cell? ⟨G, 1, none⟩ = some (.pointer (some ⟨T, 0, none⟩)) ∧ u.cell? ⟨G, 3, none⟩ = some (.int .u64 ((P : Int) + 1))) (first | assumption | exact ⟨z1, y3⟩ | exact ⟨H2.hd.c1, H2.hd.c3⟩ | exact ⟨H.hd.c1, H.hd.c3⟩) (first
    | (go_at_call 13; refine K13.mono ?_; clear K13; rintro e w1 ⟨rfl, k1, b1, s1⟩; have H2 := H1c.new (w' := w1) (by rw [← hAA.out]; exact b1); have u2 := H2.hd.c2; have uf := H2.hd.free 2; clear s1; have H : WorldI W (w1.setCell ⟨G, 2, none⟩ (.pointer (some ⟨A, 0, none⟩))) G R T n c o (setP ptr 0 (some A)) (setS Ss 0 (Ac.ofPush ((P : Int) + 1))) ((P : Int) + 1) stp adK capK L K adP capP P := H2.begun (q := 0) (by omega) k1 hWA hnew (Only.set G _ _ _) (H2.hd.set2 (some A))))
  obtain ⟨push, hpush⟩ : ∃ p : Int, p = (P : Int) + 1 := ⟨_, rfl⟩
  have Gm := Gm0.begin (O := Ac.ofPush ((P : Int) + 1)) (push' := push) i0 (Fit.ofPush (by omega) (by omega)) rfl (.inl ⟨rfl, hpush, rfl⟩)
  rw [← hpush] at H Gm
  obtain ⟨ptr1, hq1⟩ : ∃ ptr1, ptr1 = setP ptr 0 (some A) := ⟨_, rfl⟩
  obtain ⟨Ss1, hq2⟩ : ∃ Ss1, Ss1 = setS Ss 0 (Ac.ofPush push) := ⟨_, rfl⟩
  have hp : ptr1 0 = some A := by rw [hq1, setP_same]
  have h0 : ¬ (Ss1 0).st = 0 := by rw [hq2, setS_same]; exact fun e => by cases e
  have hpt : Aside (ptr1 = setP ptr 0 (some A)) := hq1
  have hp1 : Aside (∀ p, setP ptr1 0 p = setP ptr 0 p) := fun p => by rw [hq1, setP_twice]
  have hs1 : Aside (∀ S, setS Ss1 0 S = setS Ss 0 S) := fun p => by rw [hq2, setS_twice]
  have hm : ∀ S, S = (Ss1 0).nxt 0 n c → (ptr 0 = none ∨ S.mu + 1 ≤ (Ss 0).mu) := fun S e => .inl hpA
  rw [← hq1, ← hq2] at H
  rw [← hq2] at Gm
  generalize (w1.setCell ⟨G, 2, none⟩ (.pointer (some ⟨A, 0, none⟩))) = w4 at H ⊢
  clear hq1 hq2 h H2 H1 H0 Gm0 k1 b1 u2 uf z1 y3 hAA hnew hyt H1b H1c hpush i0 hWA
  have z2 : w4.cell? ⟨G, 2, none⟩ = some (.pointer (some ⟨A, 0, none⟩)) := (by have := H.hd.c2; rw [hp] at this; exact this)
  have Ks : Calls Try.prog 30 #[.pointer (some ⟨G, 0, none⟩), .pointer (some ⟨A, 0, none⟩), .int .i64 0] w4 _ := wstep_any H (q := 0) (by omega) hp (Gm.fit 0 (by omega)) h0 (Gm.few 0 (by omega)) ⟨ho.1, by omega⟩
  have hown := Gm.own h0 (by omega)
  have hmA := hm _ rfl
  clear hm
  generalize (Ss1 0).after 0 n c = c' at Ks hown
  generalize (Ss1 0).nxt 0 n c = S' at Ks hown hmA
  have hoA : Aside (0 ≤ o + 1 ∧ o + 1 ≤ ((j + 1 : Nat) : Int)) := (by simp only [Aside]; omega)
  clear h0 Gm
  rcases hown with ⟨hd, G2⟩ | ⟨hd, hg, hpu, hv, G2⟩ | ⟨hd, hg, hpu, G2⟩ | ⟨hd, hg, G2⟩
  · rw [decide_eq_false hd] at Ks
    have hdA : Aside (¬ S'.st = 0) := hd
    clear hd
    go_wp2_with (first
      | (go_at_call 30; refine Ks.mono ?_; clear Ks; rintro e w5 ⟨rfl, H5⟩))
    refine bodyPost_ret (results_none rfl _ _ _) rfl ?_
    exact ⟨rfl, some A, S', Turn.of hnil ⟨fun e => (by cases e), fun e => absurd e hdA.out⟩ hoA.out (by omega) (by omega) H5 G2 hpt.out (hs1.out _), .inr hmA⟩
  · rw [decide_eq_true hd] at Ks
    have hth := told_has hd hg
    have hth1 := hth.1
    have hth2 := hth.2
    rw [hv] at hth2
    have hdA : Aside (S'.st = 0) := hd
    have hpd : decide (push > 0) = true := decide_eq_true hpu
    have hpd2 : decide (0 < push) = true := decide_eq_true hpu
    clear hd hg hv hth
    go_wp2_with (first
      | (go_at_call 30; refine Ks.mono ?_; clear Ks; rintro e w5 ⟨rfl, H5⟩; have k5 := (H5.acts 0 (by omega) A hp).1; rw [setS_same] at k5; have Kg := got_any k5; rw [hth1, hth2] at Kg; have y2 : w5.cell? ⟨G, 2, none⟩ = some (.pointer (some ⟨A, 0, none⟩)) := (by have := H5.hd.c2; rw [hp] at this; exact this); have y3 := H5.hd.c3; have y12 := H5.hd.c12)
      | (go_at_call 20; refine Kg.mono ?_; clear Kg; rintro e w5 ⟨rfl, rfl⟩; have B6 : Below w5.heap.size w5 (w5.alloc (.cells #[.int .u64 push] 32)) := (Below.refl _ _).alloc (Nat.le_refl _) _; have H6 := H5.new B6; obtain ⟨Y, hY⟩ := H6.put)
      | (at_builtin; refine append_at hY w5.heap.size push (heap_new w5 _) (by omega) H6.size rfl _ _ rfl rfl rfl ?_; intro g7 cap7 w7 o7 b7 hg7; have H8 := H6.puts o7 b7 hg7 rfl; have x12 := (H6.rowed hY b7).2.1.c12; have xf := (H6.rowed hY b7).2.1.free 12; have x13 := H8.hd.c13; have x3 := H8.hd.c3; have xf13 := H8.hd.free 13; have H9 := H8.head (Only.set G _ _ _) H8.hd.set13 H8.acts H8.inj; have v2 := H9.hd.c2; have vf := H9.hd.free 2; have H10 := H9.gone (Only.set G _ _ _) (H9.hd.set2 none)))
    go_end0
    exact ⟨rfl, none, S', Turn.of hnil ⟨fun _ => hdA.out, fun _ => rfl⟩ hoA.out (by omega) (by omega) H10 G2 (hp1.out _) (hs1.out _), .inl rfl⟩
  · rw [decide_eq_true hd] at Ks
    have hth := told_has hd hg
    have hth1 := hth.1
    have hth2 := hth.2
    obtain ⟨v, hv⟩ : ∃ v, S'.value = v := ⟨_, rfl⟩
    rw [hv] at hth2 G2
    have hdA : Aside (S'.st = 0) := hd
    subst hpu
    clear hd hg hv hth
    go_wp2_with (first
      | (go_at_call 30; refine Ks.mono ?_; clear Ks; rintro e w5 ⟨rfl, H5⟩; have k5 := (H5.acts 0 (by omega) A hp).1; rw [setS_same] at k5; have Kg := got_any k5; rw [hth1, hth2] at Kg; have y2 : w5.cell? ⟨G, 2, none⟩ = some (.pointer (some ⟨A, 0, none⟩)) := (by have := H5.hd.c2; rw [hp] at this; exact this); have y3 := H5.hd.c3; have y11 := H5.hd.c11)
      | (go_at_call 20; refine Kg.mono ?_; clear Kg; rintro e w5 ⟨rfl, rfl⟩; have B6 : Below w5.heap.size w5 (w5.alloc (.cells #[.int .u64 v] 32)) := (Below.refl _ _).alloc (Nat.le_refl _) _; have H6 := H5.new B6)
      | (at_builtin; refine append_at H6.took w5.heap.size v (heap_new w5 _) (by omega) H6.size rfl _ _ rfl rfl rfl ?_; intro g7 cap7 w7 o7 b7 hg7; have H8 := H6.take o7 b7 hg7 rfl; have x12 := (H6.rowed H6.took b7).2.1.c11; have xf := (H6.rowed H6.took b7).2.1.free 11; have v2 := H8.hd.c2; have vf := H8.hd.free 2; have H10 := H8.gone (Only.set G _ _ _) (H8.hd.set2 none)))
    go_end0
    exact ⟨rfl, none, S', Turn.of hnil ⟨fun _ => hdA.out, fun _ => rfl⟩ hoA.out (by omega) (by omega) H10 G2 (hp1.out _) (hs1.out _), .inl rfl⟩
  · rw [decide_eq_true hd] at Ks
    have hth := told_not hg
    have hth1 := hth.1
    have hth2 := hth.2
    have hdA : Aside (S'.st = 0) := hd
    clear hd hg hth
    go_wp2_with (first
      | (go_at_call 30; refine Ks.mono ?_; clear Ks; rintro e w5 ⟨rfl, H5⟩; have k5 := (H5.acts 0 (by omega) A hp).1; rw [setS_same] at k5; have Kg := got_any k5; rw [hth1, hth2] at Kg; have y2 : w5.cell? ⟨G, 2, none⟩ = some (.pointer (some ⟨A, 0, none⟩)) := (by have := H5.hd.c2; rw [hp] at this; exact this); have y3 := H5.hd.c3; have vf := H5.hd.free 2; have H10 := H5.gone (Only.set G _ _ _) (H5.hd.set2 none))
      | (go_at_call 20; refine Kg.mono ?_; clear Kg; rintro e w5 ⟨rfl, rfl⟩))
    go_end0
    exact ⟨rfl, none, S', Turn.of hnil ⟨fun _ => hdA.out, fun _ => rfl⟩ hoA.out (by omega) (by omega) H10 G2 (hp1.out _) (hs1.out _), .inl rfl⟩
end
end Go.Proofs.Ytfpgdmnbehingaa
