/-
  A node's function, by its walk: the statements' help Func, Is, Make.
-/
import Derived.Test.YtdmfbfbebcneeaaMadeW
import Derived.Deep.RegionHeld3
namespace Go.Proofs.Ytdmfbfbebcneeaa
open Go Go.RowKit
open Rf (fixAt fixF tab word same IsTab TabsAt)

set_option maxHeartbeats 2000000 in
theorem make_any {w : World} {S : Nat} {F0 : Nat → Prop} {M : Mdl} {F : Nat → Bool} (h : St w S F0 M) (dep : Dep M 0 F) (room : M.up + (2 ^ (M.n - 2) - 1) + 19 ≤ M.room) :
    Calls Try.prog 24 #[.pointer (some ⟨S, 0, none⟩), tab F] w fun e w' => ∃ x M', e = .returned (.tuple #[.int .u32 ((x : Nat) : Int), .bool true]) ∧ (∃ F', St w' S F' M' ∧ Wf F0 F' w w') ∧ MadeIs M 0 F x M' := by
  have n8 := h.ok.le8
  conv in #[Value.pointer (some ⟨S, 0, none⟩), tab F] => unfold tab
  go_enter Try.func24, Try.ntmps24
  go_wp2_with fail
  have TF := IsTab.new w F
  have B0 := (Below.refl _ w).alloc (Nat.le_refl _) (.cells #[.int .u64 (word F 0 : Int), .int .u64 (word F 1 : Int), .int .u64 (word F 2 : Int), .int .u64 (word F 3 : Int)] 46)
  generalize w.alloc (.cells #[.int .u64 (word F 0 : Int), .int .u64 (word F 1 : Int), .int .u64 (word F 2 : Int), .int .u64 (word F 3 : Int)] 46) = w4 at TF B0 ⊢
  have B0A : Aside (Below w.heap.size w w4) := B0
  generalize hB : w.heap.size = b at TF ⊢
  clear hB
  have h4 : St w4 S F0 M := h.below B0
  have K1 := s_order h4.drew
  clear B0
  go_region_held3 (fun u => u.cell? ⟨b, 0, none⟩ = some (.int .u64 (word F 0 : Int)) ∧ u.cell? ⟨b, 1, none⟩ = some (.int .u64 (word F 1 : Int)) ∧ u.cell? ⟨b, 2, none⟩ = some (.int .u64 (word F 2 : Int)) ∧ u.cell? ⟨b, 3, none⟩ = some (.int .u64 (word F 3 : Int))) (first | assumption | exact TF.drew.copy) (first
    | (go_at_call 21; refine K1.mono ?_; clear K1; rintro e w1 ⟨P, l, rfl, o1, b1, p1⟩; have T1 := kept TF.drew b1; have C1 := T1.copy; have K2 := Od.all_any o1 n8)
    | (go_at_call 22; refine K2.mono ?_; clear K2; rintro e w2 ⟨rfl, r2, b2⟩; have B2 := Rf.below_far b1 b2; have T2 := kept T1 b2; have C2 := T2.copy; have h2 := h4.drew.below B2; have K3 : Calls Try.prog 43 #[.pointer (some ⟨S, 0, none⟩), tab F, .slice (some ⟨w1.heap.size, 0, none⟩) M.n M.n, .int .i64 0] w2 _ := made_any (M.n - 0) (k := 0) h2 (Nat.le_refl _) (Nat.zero_le _) dep r2 (by simpa using room); unfold tab at K3)
    | (go_at_call 43; refine K3.mono ?_; clear K3; rintro e w3 ⟨x, M3, rfl, ⟨F3, s3, b3⟩, m3⟩; have C3 := IsTab.copy (show IsTab w3 b F from (b3.block b T2.lt (h2.row T2 (by decide))).trans T2)))
  go_wp2_with fail
  go_ret2
  exact ⟨x, M3, rfl, ⟨F3, s3, (Wf.of_below B0A.out F0).trans ((Wf.of_below B2 F0).trans b3).undrew⟩, m3⟩
theorem tab_zero : tab (fun _ => false) = .agg #[.int .u64 0, .int .u64 0, .int .u64 0, .int .u64 0] := by
  unfold tab
  rw [Rf.word_zero, Rf.word_zero, Rf.word_zero, Rf.word_zero]
  rfl
theorem results_tab2 {fn : Func} {p q : Tmp} (h : fn.results = #[.cell p 46, .tmp q]) {tmps : Array Value} {w : World} {b : Nat} {F : Nat → Bool} {v : Value} (hp : tmps.getD p undef = .pointer (some ⟨b, 0, none⟩)) (hq : tmps.getD q undef = v) (hT : IsTab w b F) :
    (results fn tmps).run Try.prog w = .ok (.tuple #[tab F, v]) w := by
  have c0 := hT.cell (show 0 < 4 by decide)
  have c1 := hT.cell (show 1 < 4 by decide)
  have c2 := hT.cell (show 2 < 4 by decide)
  have c3 := hT.cell (show 3 < 4 by decide)
  simp only [Array.getD_eq_getD_getElem?] at hp hq

  simp [results, h, hp, hq, go_sem, c0, c1, c2, c3, tab]
set_option maxRecDepth 100000 in
set_option maxHeartbeats 4000000 in
theorem walk_step {w : World} {S : Nat} {F0 : Nat → Prop} {M : Mdl} {x deep bv capv : Nat} (h : St w S F0 M) (xn : M.isNode x) (hd : deep ≤ M.lev x) (tv : TabsAt w (some ⟨bv, 0, none⟩) M.n (fun i => Rf.M (M.v i)))
    (ih : x ∈ M.hs → ∀ {w' : World} {y : Nat}, St w' S F0 M → M.isNode y → M.lev x < M.lev y → TabsAt w' (some ⟨bv, 0, none⟩) M.n (fun i => Rf.M (M.v i)) → Calls Try.prog 56 #[.pointer (some ⟨S, 0, none⟩), .int .u32 (y : Int), .slice (some ⟨bv, 0, none⟩) M.n capv, .int .i64 ((M.lev x : Int) + 1)] w' fun e w'' => e = .returned (.tuple #[tab (M.tbl y), .bool true]) ∧ Below w'.heap.size w' w'') :
    Calls Try.prog 56 #[.pointer (some ⟨S, 0, none⟩), .int .u32 (x : Int), .slice (some ⟨bv, 0, none⟩) M.n capv, .int .i64 (deep : Int)] w fun e w' => e = .returned (.tuple #[tab (M.tbl x), .bool true]) ∧ Below w.heap.size w w' := by
  have o := h.ok
  by_cases h0 : x = 0
  · subst h0
    have e0 : Aside (tab (M.tbl 0) = .agg #[.int .u64 0, .int .u64 0, .int .u64 0, .int .u64 0]) := (Rf.tab_ext fun y _ => Mdl.val_zero _).trans tab_zero
    clear ih tv
    go_enter Try.func56, Try.ntmps56
    go_wp2_with fail
    rw [e0.out]
    exact bodyPost_ret (v := .tuple #[.agg #[.int .u64 0, .int .u64 0, .int .u64 0, .int .u64 0], .bool true]) (by simp [results, Try.results56, go_sem]) rfl ⟨rfl, (Below.refl _ _).alloc (Nat.le_refl _) _⟩
  · by_cases h1 : x = 1
    · subst h1
      have e1 : Aside (tab (M.tbl 1) = tab (fun x => !(fun _ => false) x)) := Rf.tab_ext fun y _ => Mdl.val_one _
      obtain ⟨R, hR⟩ : ∃ R, tab (M.tbl 1) = R := ⟨_, rfl⟩
      rw [hR] at e1 ⊢
      clear hR
      have KN := Rf.not_any (fun _ => false)
      rw [tab_zero] at KN
      have T0 := IsTab.zero (w := w.alloc (.cells #[.int .u64 0, .int .u64 0, .int .u64 0, .int .u64 0] 46)) (b := w.heap.size) (Go.Deep.blk_alloc_new _ _)
      clear ih tv
      go_enter Try.func56, Try.ntmps56
      go_upto_region 4 with fail
      have B0 := (Below.refl _ w).alloc (Nat.le_refl _) (.cells #[.int .u64 0, .int .u64 0, .int .u64 0, .int .u64 0] 46)
      generalize w.alloc (.cells #[.int .u64 0, .int .u64 0, .int .u64 0, .int .u64 0] 46) = w4 at T0 B0 ⊢
      go_wp2_with (first
        | (go_at_call 69; refine (KN _).mono ?_; unfold tab; rintro e w5 ⟨rfl, b5⟩; have T5 := kept T0 b5; have y0 := T5.cell (k := 0) (by decide); have y1 := T5.cell (k := 1) (by decide); have y2 := T5.cell (k := 2) (by decide); have y3 := T5.cell (k := 3) (by decide); have z0 := T5.free 0; have z1 := T5.free 1; have z2 := T5.free 2; have z3 := T5.free 3))
      have B5 := Rf.below_far B0 b5
      exact bodyPost_ret (results_tab2 rfl rfl rfl (Rf.laid_tab T5 _)) rfl ⟨by rw [e1.out]; rfl, B5.trans ((Rf.laid_turned _ _ _).below B5.size (Nat.le_refl _))⟩
    · have xm : x ∈ M.hs := xn.resolve_left (by omega)
      have hx : x < 4294967296 := by have := (o.range x xm).2; omega
      obtain ⟨l, hl⟩ : ∃ l, M.lev x = l := ⟨_, rfl⟩
      obtain ⟨lo, hlo⟩ : ∃ lo, M.lowN x = lo := ⟨_, rfl⟩
      obtain ⟨hi, hhi⟩ : ∃ hi, M.highN x = hi := ⟨_, rfl⟩
      have ln : l < M.n := by rw [← hl, Mdl.lev_in o xm]; exact o.lv x xm
      have nlo : M.isNode lo := by rw [← hlo, Mdl.lowN_in o xm]; exact (o.lo x xm).1
      have llo : l < M.lev lo := by rw [← hlo, ← hl, Mdl.lowN_in o xm, Mdl.lev_in o xm]; exact (o.lo x xm).2
      have nhi : M.isNode hi := by rw [← hhi, Mdl.highN_in o xm]; exact (o.hi x xm).1
      have lhi : l < M.lev hi := by rw [← hhi, ← hl, Mdl.highN_in o xm, Mdl.lev_in o xm]; exact (o.hi x xm).2
      have hne : lo ≠ hi := by rw [← hlo, ← hhi, Mdl.lowN_in o xm, Mdl.highN_in o xm]; exact o.ne x xm
      have eT : Aside (tab (M.tbl x) = tab (fun y => (Rf.M (M.v l) y && M.tbl hi y) || (!Rf.M (M.v l) y && M.tbl lo y))) := Rf.tab_ext fun y _ => by
        show M.val x y.testBit = _
        rw [Mdl.val_in o xm, ← Mdl.lev_in o xm, ← Mdl.lowN_in o xm, ← Mdl.highN_in o xm, hl, hlo, hhi, Rf.M_bit]
        show (if Rf.M (M.v l) y = true then M.tbl hi y else M.tbl lo y) = _
        cases Rf.M (M.v l) y <;> simp
      have KLev : ∀ {w' : World}, St w' S F0 M → Calls Try.prog 15 #[.pointer (some ⟨S, 0, none⟩), .int .u32 (x : Int)] w' fun e w'' => e = .returned (.int .i64 (l : Int)) ∧ w'' = w' := fun h' => by rw [← hl, ← Mdl.levI_node xn]; exact s_level h' x hx
      have KIs : ∀ {w' : World}, St w' S F0 M → Calls Try.prog 27 #[.pointer (some ⟨S, 0, none⟩), .int .u32 (x : Int)] w' fun e w'' => e = .returned (.bool true) ∧ w'' = w' := fun h' => by rw [show true = decide (M.isNode x) from (decide_eq_true xn).symm]; exact s_is h' x hx
      have KLow : ∀ {w' : World}, St w' S F0 M → Calls Try.prog 16 #[.pointer (some ⟨S, 0, none⟩), .int .u32 (x : Int)] w' fun e w'' => e = .returned (.int .u32 (lo : Int)) ∧ w'' = w' := fun h' => by rw [← hlo]; exact s_low h' x hx
      have KHigh : ∀ {w' : World}, St w' S F0 M → Calls Try.prog 17 #[.pointer (some ⟨S, 0, none⟩), .int .u32 (x : Int)] w' fun e w'' => e = .returned (.int .u32 (hi : Int)) ∧ w'' = w' := fun h' => by rw [← hhi]; exact s_high h' x hx
      have KW := @ih xm
      rw [hl] at KW hd
      clear ih hl hlo hhi
      have n8 := o.le8
      have hw1 : IntKind.i64.wrap ((l : Int) + 1) = (l : Int) + 1 := by rw [IntKind.wrap_i64]; omega
      obtain ⟨R, hR⟩ : ∃ R, tab (M.tbl x) = R := ⟨_, rfl⟩
      rw [hR] at eT ⊢
      clear hR
      have x0 : ¬ (x : Int) = 0 := by omega
      have x1 : ¬ (x : Int) = 1 := by omega
      have t1 : ¬ (l : Int) < (deep : Int) := by omega
      have t2 : ¬ (M.n : Int) ≤ (l : Int) := by omega
      have t3 : ¬ l < deep := by omega
      have t4 : ¬ M.n ≤ l := by omega
      have T0 := IsTab.zero (w := w.alloc (.cells #[.int .u64 0, .int .u64 0, .int .u64 0, .int .u64 0] 46)) (b := w.heap.size) (Go.Deep.blk_alloc_new _ _)
      go_enter Try.func56, Try.ntmps56
      go_upto_region 5 with fail
      have B0 := (Below.refl _ w).alloc (Nat.le_refl _) (.cells #[.int .u64 0, .int .u64 0, .int .u64 0, .int .u64 0] 46)
      generalize w.alloc (.cells #[.int .u64 0, .int .u64 0, .int .u64 0, .int .u64 0] 46) = w4 at T0 B0 ⊢
      have h4 := h.below B0
      have tv4 := tv.kept B0
      have K1 := KLev h4
      have K2 := KIs h4
      have K3 := KLow h4
      have K4 := KW h4 nlo llo tv4
      have bvne : bv ≠ w.heap.size := by
        obtain ⟨b, off, e, hb⟩ := tv.some (by omega)
        obtain ⟨rfl, rfl⟩ : bv = b ∧ 0 = off := by simpa using e
        omega
      have fk : ∀ k, F0 k → k ≠ w.heap.size := fun k hk => by have := h.lt k hk; omega
      clear KLev KIs h tv
      go_upto_region 9 with (first
        | (go_at_call 15; refine K1.mono ?_; clear K1; rintro e w5 ⟨rfl, e5⟩; subst w5)
        | (go_at_call 27; refine K2.mono ?_; clear K2; rintro e w5 ⟨rfl, e5⟩; subst w5)
        | (go_at_call 16; refine K3.mono ?_; clear K3; rintro e w5 ⟨rfl, e5⟩; subst w5)
        | (go_at_call 56; refine K4.mono ?_; clear K4; unfold tab; rintro e w5 ⟨rfl, b5⟩))
      have TL := IsTab.new w5 (M.tbl lo)
      have B6 := Rf.below_far (Rf.below_far B0 b5) ((Below.refl _ w5).alloc (Nat.le_refl _) (.cells #[.int .u64 (word (M.tbl lo) 0 : Int), .int .u64 (word (M.tbl lo) 1 : Int), .int .u64 (word (M.tbl lo) 2 : Int), .int .u64 (word (M.tbl lo) 3 : Int)] 46))
      have T6 := (kept T0 b5).alloc (.cells #[.int .u64 (word (M.tbl lo) 0 : Int), .int .u64 (word (M.tbl lo) 1 : Int), .int .u64 (word (M.tbl lo) 2 : Int), .int .u64 (word (M.tbl lo) 3 : Int)] 46)
      have hb5 : w.heap.size < w5.heap.size := Nat.lt_of_lt_of_le T0.lt b5.size
      have h6 := (h4.below b5).new (.cells #[.int .u64 (word (M.tbl lo) 0 : Int), .int .u64 (word (M.tbl lo) 1 : Int), .int .u64 (word (M.tbl lo) 2 : Int), .int .u64 (word (M.tbl lo) 3 : Int)] 46)
      have tv6 := (tv4.kept b5).kept ((Below.refl _ w5).alloc (Nat.le_refl _) (.cells #[.int .u64 (word (M.tbl lo) 0 : Int), .int .u64 (word (M.tbl lo) 1 : Int), .int .u64 (word (M.tbl lo) 2 : Int), .int .u64 (word (M.tbl lo) 3 : Int)] 46))
      generalize hL : w5.heap.size = bl at TL hb5 ⊢
      generalize w5.alloc (.cells #[.int .u64 (word (M.tbl lo) 0 : Int), .int .u64 (word (M.tbl lo) 1 : Int), .int .u64 (word (M.tbl lo) 2 : Int), .int .u64 (word (M.tbl lo) 3 : Int)] 46) = w6 at TL B6 T6 h6 tv6 ⊢
      clear T0 B0 h4 tv4 b5 hL
      have K5 := KHigh h6
      have K6 := KW h6 nhi lhi tv6
      clear KW
      go_upto_region 10 with (first
        | (go_at_call 17; refine K5.mono ?_; clear K5; rintro e w7 ⟨rfl, e7⟩; subst w7)
        | (go_at_call 56; refine K6.mono ?_; clear K6; unfold tab; rintro e w7 ⟨rfl, b7⟩))
      have TH := IsTab.new w7 (M.tbl hi)
      have B7 := ((Below.refl _ w7).alloc (Nat.le_refl _) (.cells #[.int .u64 (word (M.tbl hi) 0 : Int), .int .u64 (word (M.tbl hi) 1 : Int), .int .u64 (word (M.tbl hi) 2 : Int), .int .u64 (word (M.tbl hi) 3 : Int)] 46))
      have B8 := Rf.below_far (Rf.below_far B6 b7) B7
      have T8 := kept (kept T6 b7) B7
      have L8 := kept (kept TL b7) B7
      have hb7 : w.heap.size < w7.heap.size := Nat.lt_of_lt_of_le T6.lt b7.size
      have h8 := (h6.below b7).below B7
      have tv8 := (tv6.kept b7).kept B7
      generalize hH : w7.heap.size = bh at TH hb7 ⊢
      generalize w7.alloc (.cells #[.int .u64 (word (M.tbl hi) 0 : Int), .int .u64 (word (M.tbl hi) 1 : Int), .int .u64 (word (M.tbl hi) 2 : Int), .int .u64 (word (M.tbl hi) 3 : Int)] 46) = w8 at TH B8 T8 L8 h8 tv8 ⊢
      clear T6 TL B6 h6 tv6 b7 hH B7
      obtain ⟨q0, q1, q2, q3⟩ := tv8.get ln
      have lw0 : ∀ u, Rf.Sit w8 w.heap.size u → u.cell? ⟨bl, 0, none⟩ = some (.int .u64 (word (M.tbl lo) 0 : Int)) := fun u s => s.cell L8 (by omega) (by decide)
      have lw1 : ∀ u, Rf.Sit w8 w.heap.size u → u.cell? ⟨bl, 1, none⟩ = some (.int .u64 (word (M.tbl lo) 1 : Int)) := fun u s => s.cell L8 (by omega) (by decide)
      have lw2 : ∀ u, Rf.Sit w8 w.heap.size u → u.cell? ⟨bl, 2, none⟩ = some (.int .u64 (word (M.tbl lo) 2 : Int)) := fun u s => s.cell L8 (by omega) (by decide)
      have lw3 : ∀ u, Rf.Sit w8 w.heap.size u → u.cell? ⟨bl, 3, none⟩ = some (.int .u64 (word (M.tbl lo) 3 : Int)) := fun u s => s.cell L8 (by omega) (by decide)
      have hw0 : ∀ u, Rf.Sit w8 w.heap.size u → u.cell? ⟨bh, 0, none⟩ = some (.int .u64 (word (M.tbl hi) 0 : Int)) := fun u s => s.cell TH (by omega) (by decide)
      have hw1 : ∀ u, Rf.Sit w8 w.heap.size u → u.cell? ⟨bh, 1, none⟩ = some (.int .u64 (word (M.tbl hi) 1 : Int)) := fun u s => s.cell TH (by omega) (by decide)
      have hw2 : ∀ u, Rf.Sit w8 w.heap.size u → u.cell? ⟨bh, 2, none⟩ = some (.int .u64 (word (M.tbl hi) 2 : Int)) := fun u s => s.cell TH (by omega) (by decide)
      have hw3 : ∀ u, Rf.Sit w8 w.heap.size u → u.cell? ⟨bh, 3, none⟩ = some (.int .u64 (word (M.tbl hi) 3 : Int)) := fun u s => s.cell TH (by omega) (by decide)
      have rr0 : ∀ u, Rf.Sit w8 w.heap.size u → u.cell? ⟨w.heap.size, 0, none⟩ = some (Rf.valAt u w.heap.size 0) := fun u s => s.place (by decide)
      have rr1 : ∀ u, Rf.Sit w8 w.heap.size u → u.cell? ⟨w.heap.size, 1, none⟩ = some (Rf.valAt u w.heap.size 1) := fun u s => s.place (by decide)
      have rr2 : ∀ u, Rf.Sit w8 w.heap.size u → u.cell? ⟨w.heap.size, 2, none⟩ = some (Rf.valAt u w.heap.size 2) := fun u s => s.place (by decide)
      have rr3 : ∀ u, Rf.Sit w8 w.heap.size u → u.cell? ⟨w.heap.size, 3, none⟩ = some (Rf.valAt u w.heap.size 3) := fun u s => s.place (by decide)
      have rf : ∀ k u, Rf.Sit w8 w.heap.size u → u.frozen? ⟨w.heap.size, k, none⟩ = false := fun k u s => s.free k
      have bvl : bv < w8.heap.size := by
        obtain ⟨b, off, e, hb⟩ := tv8.some (by omega)
        obtain ⟨rfl, rfl⟩ : bv = b ∧ 0 = off := by simpa using e
        exact hb
      have cv : ∀ u, Rf.Sit w8 w.heap.size u → ∀ k, u.cell? ⟨bv, k, none⟩ = w8.cell? ⟨bv, k, none⟩ := fun u s k => by
        have e := s.turned.block bv bvl bvne
        simp only [World.cell?, e]
      have vw0 : ∀ u, Rf.Sit w8 w.heap.size u → u.cell? ⟨bv, l * 4, none⟩ = some (.int .u64 (word (Rf.M (M.v l)) 0 : Int)) := fun u s => by rw [cv u s]; simpa using q0
      have vw1 : ∀ u, Rf.Sit w8 w.heap.size u → u.cell? ⟨bv, l * 4 + 1, none⟩ = some (.int .u64 (word (Rf.M (M.v l)) 1 : Int)) := fun u s => by rw [cv u s]; simpa using q1
      have vw2 : ∀ u, Rf.Sit w8 w.heap.size u → u.cell? ⟨bv, l * 4 + 2, none⟩ = some (.int .u64 (word (Rf.M (M.v l)) 2 : Int)) := fun u s => by rw [cv u s]; simpa using q2
      have vw3 : ∀ u, Rf.Sit w8 w.heap.size u → u.cell? ⟨bv, l * 4 + 3, none⟩ = some (.int .u64 (word (Rf.M (M.v l)) 3 : Int)) := fun u s => by rw [cv u s]; simpa using q3
      have hS : ∀ u, Rf.Sit w8 w.heap.size u → St u S F0 M := fun u s => h8.kept fun k hk => s.turned.block k (h8.lt k hk) (fk k hk)
      have hne2 : ¬ (lo : Int) = (hi : Int) := by omega
      clear q0 q1 q2 q3 cv
      go_region_held3 (fun u => Rf.Sit w8 w.heap.size u) (first | assumption | exact Rf.Sit.start T8 | exact Rf.Sit.call (by assumption) (by assumption) | exact Rf.Sit.laid (by assumption) _) (first
        | (go_at_call 16; refine (KLow (hS _ (by assumption))).mono ?_; rintro e w9 ⟨rfl, e9⟩; subst w9)
        | (go_at_call 17; refine (KHigh (hS _ (by assumption))).mono ?_; rintro e w9 ⟨rfl, e9⟩; subst w9)
        | (go_at_call 70; refine (Rf.ite_any (Rf.M (M.v l)) (M.tbl hi) (M.tbl lo) _).mono ?_; unfold tab; rintro e w9 ⟨rfl, b9⟩))
      have S9 := Rf.Sit.call b9 (Rf.Sit.start T8)
      obtain ⟨F', hF'⟩ := S9.room
      have en : ((lo : Int) != (hi : Int)) = true := by simp [hne2]
      rw [en]
      go_wp2_with fail
      exact bodyPost_ret (results_tab2 rfl rfl rfl (Rf.laid_tab hF' _)) rfl ⟨by rw [eT.out]; rfl, B8.trans ((S9.laid _).turned.below B8.size (Nat.le_refl _))⟩
/-- A node's function, walked. -/
theorem walk_any (d : Nat) : ∀ {w : World} {S : Nat} {F0 : Nat → Prop} {M : Mdl} {x deep bv capv : Nat}, St w S F0 M → M.isNode x → deep ≤ M.lev x → TabsAt w (some ⟨bv, 0, none⟩) M.n (fun i => Rf.M (M.v i)) → M.n - M.lev x ≤ d →
    Calls Try.prog 56 #[.pointer (some ⟨S, 0, none⟩), .int .u32 (x : Int), .slice (some ⟨bv, 0, none⟩) M.n capv, .int .i64 (deep : Int)] w fun e w' => e = .returned (.tuple #[tab (M.tbl x), .bool true]) ∧ Below w.heap.size w w' := by
  induction d with
  | zero =>
    intro w S F0 M x deep bv capv h xn hd tv hf
    refine walk_step h xn hd tv fun xm => ?_
    have := h.ok.lv x xm
    rw [Mdl.lev_in h.ok xm] at hf
    omega
  | succ d ih =>
    intro w S F0 M x deep bv capv h xn hd tv hf
    refine walk_step h xn hd tv fun xm => ?_
    intro w' y h' yn hy tv'
    exact ih (deep := M.lev x + 1) h' yn hy tv' (by have := Mdl.lev_le h.ok yn; omega)
end Go.Proofs.Ytdmfbfbebcneeaa
