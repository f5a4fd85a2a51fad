/-
  What each function of the reference of tables returns.
-/
import Derived.Test.YtdmfbfbebcneeaaProg
import Derived.Test.YtdmfbfbebcneeaaRfTab
import Derived.Handy
import Derived.Deep.OwnRows
import Derived.Deep.RegionWith
import Derived.Deep.LoopGhost
import Derived.BigRegion
namespace Go.Proofs.Ytdmfbfbebcneeaa.Rf
open Go Go.RowKit

/-- A block that holds a table. -/
def IsTab (w : World) (b : Nat) (F : Nat → Bool) : Prop := w.heap[b]? = some (.cells #[.int .u64 (word F 0 : Int), .int .u64 (word F 1 : Int), .int .u64 (word F 2 : Int), .int .u64 (word F 3 : Int)] 46 (0, 0))

theorem IsTab.cell {w : World} {b : Nat} {F : Nat → Bool} (h : IsTab w b F) {k : Nat} (hk : k < 4) : w.cell? ⟨b, k, none⟩ = some (.int .u64 (word F k : Int)) := by
  unfold IsTab at h
  have : k = 0 ∨ k = 1 ∨ k = 2 ∨ k = 3 := by omega
  rcases this with rfl | rfl | rfl | rfl <;> simp [World.cell?, h]
theorem IsTab.free {w : World} {b : Nat} {F : Nat → Bool} (h : IsTab w b F) (k : Nat) : w.frozen? ⟨b, k, none⟩ = false := by
  unfold IsTab at h
  simp [World.frozen?, h]
theorem IsTab.lt {w : World} {b : Nat} {F : Nat → Bool} (h : IsTab w b F) : b < w.heap.size := (Array.getElem?_eq_some_iff.1 h).1
theorem IsTab.below {w w' : World} {b B : Nat} {F : Nat → Bool} (h : IsTab w b F) (k : Below B w w') (hb : b < B) : IsTab w' b F := (k.block b hb).trans h
theorem IsTab.drew {w : World} {b : Nat} {F : Nat → Bool} (h : IsTab w b F) : IsTab w.drew b F := h
theorem IsTab.new (w : World) (F : Nat → Bool) : IsTab (w.alloc (.cells #[.int .u64 (word F 0 : Int), .int .u64 (word F 1 : Int), .int .u64 (word F 2 : Int), .int .u64 (word F 3 : Int)] 46)) w.heap.size F := Go.Deep.blk_alloc_new _ _
theorem IsTab.alloc {w : World} {b : Nat} {F : Nat → Bool} (h : IsTab w b F) (o : Obj) : IsTab (w.alloc o) b F := (Below.heap_alloc _ _ _ h.lt).trans h
theorem IsTab.other {w : World} {b : Nat} {F : Nat → Bool} (h : IsTab w b F) {a : Addr} (ha : b ≠ a.block) (v : Value) : IsTab (w.setCell a v) b F := (Below.heap_setCell _ _ _ _ ha).trans h
theorem IsTab.ext {w : World} {b : Nat} {F G : Nat → Bool} (h : IsTab w b F) (e : ∀ x, x < 256 → F x = G x) : IsTab w b G := by
  unfold IsTab at h ⊢
  rw [h, word_ext e (show 0 < 4 by decide), word_ext e (show 1 < 4 by decide), word_ext e (show 2 < 4 by decide), word_ext e (show 3 < 4 by decide)]

theorem IsTab.set {w : World} {b : Nat} {F : Nat → Bool} (h : IsTab w b F) {k : Nat} (hk : k < 4) (G : Nat → Bool) (hG : ∀ j, j < 4 → j ≠ k → word F j = word G j) : IsTab (w.setCell ⟨b, k, none⟩ (.int .u64 (word G k : Int))) b G := by
  unfold IsTab at h ⊢
  have h4 : k = 0 ∨ k = 1 ∨ k = 2 ∨ k = 3 := by omega
  rcases h4 with rfl | rfl | rfl | rfl
  · simp [World.setCell, Array.getElem?_modify, h, hG 1 (by decide) (by decide), hG 2 (by decide) (by decide), hG 3 (by decide) (by decide)]
  · simp [World.setCell, Array.getElem?_modify, h, hG 0 (by decide) (by decide), hG 2 (by decide) (by decide), hG 3 (by decide) (by decide)]
  · simp [World.setCell, Array.getElem?_modify, h, hG 0 (by decide) (by decide), hG 1 (by decide) (by decide), hG 3 (by decide) (by decide)]
  · simp [World.setCell, Array.getElem?_modify, h, hG 0 (by decide) (by decide), hG 1 (by decide) (by decide), hG 2 (by decide) (by decide)]

/-- All blocks but one stay as they were. -/
structure Turned (b : Nat) (w w' : World) : Prop where
  os : w'.os = w.os
  tape : w'.tape = w.tape
  output : w'.output = w.output
  size : w.heap.size ≤ w'.heap.size
  block : ∀ k, k < w.heap.size → k ≠ b → w'.heap[k]? = w.heap[k]?
theorem Turned.below {b B : Nat} {w w' : World} (h : Turned b w w') (hB : B ≤ w.heap.size) (hb : B ≤ b) : Below B w w' :=
  ⟨h.os, h.tape, h.output, h.size, fun k hk => h.block k (by omega) (by omega)⟩
theorem Turned.refl (b : Nat) (w : World) : Turned b w w := ⟨rfl, rfl, rfl, Nat.le_refl _, fun _ _ _ => rfl⟩
theorem Turned.tab {b c : Nat} {w w' : World} {F : Nat → Bool} (h : Turned b w w') (k : IsTab w c F) (hc : c ≠ b) : IsTab w' c F := (h.block c k.lt hc).trans k

theorem set_any (b : Nat) (F : Nat → Bool) (x : Nat) (hx : x < 256) (v : Bool) (w : World) (h : IsTab w b F) :
    Calls Try.prog 68 #[.pointer (some ⟨b, 0, none⟩), .int .u8 (x : Int), .bool v] w fun e w' => e = .returned (.tuple #[]) ∧ IsTab w' b (fun y => F y || (decide (y = x) && v)) ∧ Turned b w w' := by
  have hc := h.cell (k := x / 64) (by omega)
  have hf := h.free (x / 64)
  have hi : ((x : Int) / 64).toNat = x / 64 := by omega
  have hlt : (x : Int) / 64 < 4 := by omega
  cases v with
  | false =>
    go_enter Try.func68, Try.ntmps68
    go_wp2
    go_end0
    exact ⟨rfl, h.ext fun y _ => by simp, Turned.refl _ _⟩
  | true =>
    go_enter Try.func68, Try.ntmps68
    go_wp2
    go_region
    go_end0
    rw [set_bit F (x / 64) (x % 64) (by omega), show 64 * (x / 64) + x % 64 = x by omega]
    refine ⟨rfl, ?_, ⟨rfl, rfl, rfl, by simp [World.setCell], fun k _ hk => Below.heap_setCell _ _ _ _ hk⟩⟩
    have h5 := h.set (k := x / 64) (by omega) (fun y => F y || decide (y = x)) (fun j hj hne => (word_far F j x (fun e => hne e.symm)).symm)
    exact (h5.ext fun y _ => by simp)
theorem IsTab.zero {w : World} {b : Nat} (h : w.heap[b]? = some (.cells #[.int .u64 0, .int .u64 0, .int .u64 0, .int .u64 0] 46 (0, 0))) : IsTab w b (fun _ => false) := by
  unfold IsTab
  rw [word_zero, word_zero, word_zero, word_zero]
  exact h

theorem results_cell1 {fn : Func} {p : Tmp} {ty : TypeId} (h : fn.results = #[.cell p ty]) (tmps : Array Value) (P : Program) (w : World) :
    (results fn tmps).run P w = ((asAddr (tmps.getD p undef)).run P w).andThen fun a w₁ => ((loadVar ty a).run P w₁) := by
  simp only [results, h]
  simp [Sem.run_bind, Result.andThen]

theorem results_tab {fn : Func} {p : Tmp} (h : fn.results = #[.cell p 46]) {tmps : Array Value} {w : World} {b : Nat} {F : Nat → Bool} (hp : tmps.getD p undef = .pointer (some ⟨b, 0, none⟩)) (hT : IsTab w b F) :
    (results fn tmps).run Try.prog w = .ok (tab F) w := by
  have c0 := hT.cell (show 0 < 4 by decide)
  have c1 := hT.cell (show 1 < 4 by decide)
  have c2 := hT.cell (show 2 < 4 by decide)
  have c3 := hT.cell (show 3 < 4 by decide)
  rw [results_cell1 h, hp]
  unfold tab
  go_simp

/-- A whole table laid into a block. -/
def laid (w : World) (b : Nat) (G : Nat → Bool) : World := (((w.setCell ⟨b, 0, none⟩ (.int .u64 (word G 0 : Int))).setCell ⟨b, 1, none⟩ (.int .u64 (word G 1 : Int))).setCell ⟨b, 2, none⟩ (.int .u64 (word G 2 : Int))).setCell ⟨b, 3, none⟩ (.int .u64 (word G 3 : Int))
theorem laid_tab {w : World} {b : Nat} {F : Nat → Bool} (h : IsTab w b F) (G : Nat → Bool) : IsTab (laid w b G) b G := by
  unfold laid IsTab at *
  simp [World.setCell, Array.getElem?_modify, h]
theorem laid_turned (w : World) (b : Nat) (G : Nat → Bool) : Turned b w (laid w b G) := by
  unfold laid
  refine ⟨rfl, rfl, rfl, by simp [World.setCell], fun k _ hk => ?_⟩
  rw [Below.heap_setCell _ _ _ _ hk, Below.heap_setCell _ _ _ _ hk, Below.heap_setCell _ _ _ _ hk, Below.heap_setCell _ _ _ _ hk]

theorem const_any (v : Bool) (w : World) :
    Calls Try.prog 53 #[.bool v] w fun e w' => e = .returned (tab (fun _ => v)) ∧ Below w.heap.size w w' := by
  go_enter Try.func53, Try.ntmps53
  go_wp2_with fail
  go_loopg [4] 256 (fun g si wr => ∃ k : Nat, k + g = 256 ∧ si = .int .i64 (k : Int) ∧ IsTab wr (w.heap.size + 1) (fun y => decide (y < k) && v) ∧ IsTab wr w.heap.size (fun _ => false) ∧ Below w.heap.size w wr)
  case atStart =>
    refine ⟨0, by omega, rfl, ?_, ?_, ((Below.refl _ w).alloc (Nat.le_refl _) _).alloc (by simp) _⟩
    · refine (IsTab.zero ?_).ext fun y _ => by simp
      rw [show w.heap.size + 1 = (w.alloc (.cells #[.int .u64 0, .int .u64 0, .int .u64 0, .int .u64 0] 46)).heap.size by simp]
      exact Go.Deep.blk_alloc_new _ _
    · exact (IsTab.zero (Go.Deep.blk_alloc_new _ _)).alloc _
  case round =>
    obtain ⟨k, hk, rfl, hT, hZ, hB⟩ := hrel
    have hK : Aside (k + gk = 256) := hk
    clear hk
    by_cases hk9 : k < 256
    · have hk9' : (k : Int) < 256 := by omega
      have hw : IntKind.u8.wrap (k : Int) = (k : Int) := by rw [IntKind.wrap_u8]; omega
      go_wp2_with (first
        | (go_at_call 68; refine (set_any (w.heap.size + 1) _ k hk9 v _ hT).mono ?_; rintro e w6 ⟨rfl, h6, t6⟩))
      go_roundg (gk - 1)
      case measure => have := hK.out; omega
      case rel =>
        have hk := hK.out
        exact ⟨k + 1, by omega, rfl, h6.ext fun y _ => upto_step (fun _ => v) k y, t6.tab hZ (by omega), hB.trans (t6.below hB.size (by omega))⟩
    · obtain rfl : k = 256 := by have := hK.out; omega
      have c0 := hT.cell (show 0 < 4 by decide)
      have c1 := hT.cell (show 1 < 4 by decide)
      have c2 := hT.cell (show 2 < 4 by decide)
      have c3 := hT.cell (show 3 < 4 by decide)
      have z0 := hZ.cell (show 0 < 4 by decide)
      have z1 := hZ.cell (show 1 < 4 by decide)
      have z2 := hZ.cell (show 2 < 4 by decide)
      have z3 := hZ.cell (show 3 < 4 by decide)
      have y0 := hZ.free 0
      have y1 := hZ.free 1
      have y2 := hZ.free 2
      have y3 := hZ.free 3
      go_wp2_with fail
      refine bodyPost_ret (results_tab rfl rfl (laid_tab hZ (fun y => decide (y < 256) && v))) rfl ⟨?_, hB.trans ((laid_turned _ _ _).below hB.size (Nat.le_refl _))⟩
      rw [tab_ext fun y hy => upto_all (fun _ => v) y hy]

theorem IsTab.mixed {w : World} {b k : Nat} {F G : Nat → Bool} (h : IsTab w b (mix k F G)) (hk : k < 4) : IsTab (w.setCell ⟨b, k, none⟩ (.int .u64 (word G k : Int))) b (mix (k + 1) F G) := by
  rw [← mix_next k F G]
  exact h.set hk _ (fun j _ hj => mix_else k j F G hj)

/-- A table laid new at the heap's end, and told so. -/
theorem IsTab.newAt {w : World} {n : Nat} (hn : w.heap.size = n) (F : Nat → Bool) : IsTab (w.alloc (.cells #[.int .u64 (word F 0 : Int), .int .u64 (word F 1 : Int), .int .u64 (word F 2 : Int), .int .u64 (word F 3 : Int)] 46)) n F := by
  subst hn
  exact IsTab.new w F
theorem IsTab.zeroAt {w : World} {n : Nat} (hn : w.heap.size = n) : IsTab (w.alloc (.cells #[.int .u64 0, .int .u64 0, .int .u64 0, .int .u64 0] 46)) n (fun _ => false) := by
  subst hn
  exact IsTab.zero (Go.Deep.blk_alloc_new _ _)

theorem not_any (F : Nat → Bool) (w : World) :
    Calls Try.prog 69 #[tab F] w fun e w' => e = .returned (tab (fun x => !F x)) ∧ Below w.heap.size w w' := by
  have R : Hid (tab (fun x => !F x) = tab (mix 4 F fun x => !F x)) := (tab_ext fun x hx => mix_all F (fun x => !F x) x hx).symm
  rw [R.out]
  clear R
  conv in #[tab F] => unfold tab
  go_enter Try.func69, Try.ntmps69
  go_wp2_with fail
  go_loopg [3] 4 (fun g si wr => ∃ k : Nat, k + g = 4 ∧ si = .int .i64 (k : Int) ∧ IsTab wr w.heap.size (mix k F fun x => !F x) ∧ IsTab wr (w.heap.size + 1) (fun _ => false) ∧ Below w.heap.size w wr)
  case atStart =>
    exact ⟨0, by omega, rfl, ((IsTab.new w F).alloc _).ext fun y _ => mix_none F _ y, IsTab.zeroAt (by simp), ((Below.refl _ w).alloc (Nat.le_refl _) _).alloc (by simp) _⟩
  case round =>
    obtain ⟨k, hk, rfl, hT, hZ, hB⟩ := hrel
    have hK : Aside (k + gk = 4) := hk
    clear hk
    by_cases hk9 : k < 4
    · have hk9' : (k : Int) < 4 := by omega
      have c0 := hT.cell hk9
      rw [mix_now] at c0
      have f0 := hT.free k
      go_wp2_with fail
      rw [not_words F k]
      go_roundg (gk - 1)
      case measure => have := hK.out; omega
      case rel =>
        have hk := hK.out
        exact ⟨k + 1, by omega, rfl, hT.mixed hk9, hZ.other (by simp) _, hB.setCell (Nat.le_refl _) _⟩
    · obtain rfl : k = 4 := by have := hK.out; omega
      have c0 := hT.cell (show 0 < 4 by decide)
      have c1 := hT.cell (show 1 < 4 by decide)
      have c2 := hT.cell (show 2 < 4 by decide)
      have c3 := hT.cell (show 3 < 4 by decide)
      have z0 := hZ.cell (show 0 < 4 by decide)
      have z1 := hZ.cell (show 1 < 4 by decide)
      have z2 := hZ.cell (show 2 < 4 by decide)
      have z3 := hZ.cell (show 3 < 4 by decide)
      have y0 := hZ.free 0
      have y1 := hZ.free 1
      have y2 := hZ.free 2
      have y3 := hZ.free 3
      go_wp2_with fail
      exact bodyPost_ret (results_tab rfl rfl (laid_tab hZ _)) rfl ⟨rfl, hB.trans ((laid_turned _ _ _).below hB.size (Nat.le_succ _))⟩

theorem and_any (F G : Nat → Bool) (w : World) :
    Calls Try.prog 83 #[tab F, tab G] w fun e w' => e = .returned (tab (fun x => F x && G x)) ∧ Below w.heap.size w w' := by
  have R : Hid (tab (fun x => F x && G x) = tab (mix 4 F fun x => F x && G x)) := (tab_ext fun x hx => mix_all F (fun x => F x && G x) x hx).symm
  rw [R.out]
  clear R
  conv in #[tab F, tab G] => unfold tab
  go_enter Try.func83, Try.ntmps83
  go_wp2_with fail
  go_loopg [5] 4 (fun g si wr => ∃ k : Nat, k + g = 4 ∧ si = .int .i64 (k : Int) ∧ IsTab wr w.heap.size (mix k F fun x => F x && G x) ∧ IsTab wr (w.heap.size + 1) G ∧ IsTab wr (w.heap.size + 2) (fun _ => false) ∧ Below w.heap.size w wr)
  case atStart =>
    exact ⟨0, by omega, rfl, (((IsTab.new w F).alloc _).alloc _).ext fun y _ => mix_none F _ y, (IsTab.newAt (by simp) G).alloc _, IsTab.zeroAt (by simp), (((Below.refl _ w).alloc (Nat.le_refl _) _).alloc (by simp) _).alloc (by simp; omega) _⟩
  case round =>
    obtain ⟨k, hk, rfl, hT, hU, hZ, hB⟩ := hrel
    have hK : Aside (k + gk = 4) := hk
    clear hk
    by_cases hk9 : k < 4
    · have hk9' : (k : Int) < 4 := by omega
      have c0 := hT.cell hk9
      rw [mix_now] at c0
      have d0 := hU.cell hk9
      have f0 := hT.free k
      go_wp2_with fail
      go_region
      rw [and_words F G k]
      go_wp2_with fail
      go_roundg (gk - 1)
      case measure => have := hK.out; omega
      case rel =>
        have hk := hK.out
        exact ⟨k + 1, by omega, rfl, (hT.mixed hk9).drew, (hU.other (by simp) _).drew, (hZ.other (by simp) _).drew, (hB.setCell (Nat.le_refl _) _).drew⟩
    · obtain rfl : k = 4 := by have := hK.out; omega
      have c0 := hT.cell (show 0 < 4 by decide)
      have c1 := hT.cell (show 1 < 4 by decide)
      have c2 := hT.cell (show 2 < 4 by decide)
      have c3 := hT.cell (show 3 < 4 by decide)
      have z0 := hZ.cell (show 0 < 4 by decide)
      have z1 := hZ.cell (show 1 < 4 by decide)
      have z2 := hZ.cell (show 2 < 4 by decide)
      have z3 := hZ.cell (show 3 < 4 by decide)
      have y0 := hZ.free 0
      have y1 := hZ.free 1
      have y2 := hZ.free 2
      have y3 := hZ.free 3
      go_wp2_with fail
      exact bodyPost_ret (results_tab rfl rfl (laid_tab hZ _)) rfl ⟨rfl, hB.trans ((laid_turned _ _ _).below hB.size (by omega))⟩

theorem or_any (F G : Nat → Bool) (w : World) :
    Calls Try.prog 82 #[tab F, tab G] w fun e w' => e = .returned (tab (fun x => F x || G x)) ∧ Below w.heap.size w w' := by
  have R : Hid (tab (fun x => F x || G x) = tab (mix 4 F fun x => F x || G x)) := (tab_ext fun x hx => mix_all F (fun x => F x || G x) x hx).symm
  rw [R.out]
  clear R
  conv in #[tab F, tab G] => unfold tab
  go_enter Try.func82, Try.ntmps82
  go_wp2_with fail
  go_loopg [5] 4 (fun g si wr => ∃ k : Nat, k + g = 4 ∧ si = .int .i64 (k : Int) ∧ IsTab wr w.heap.size (mix k F fun x => F x || G x) ∧ IsTab wr (w.heap.size + 1) G ∧ IsTab wr (w.heap.size + 2) (fun _ => false) ∧ Below w.heap.size w wr)
  case atStart =>
    exact ⟨0, by omega, rfl, (((IsTab.new w F).alloc _).alloc _).ext fun y _ => mix_none F _ y, (IsTab.newAt (by simp) G).alloc _, IsTab.zeroAt (by simp), (((Below.refl _ w).alloc (Nat.le_refl _) _).alloc (by simp) _).alloc (by simp; omega) _⟩
  case round =>
    obtain ⟨k, hk, rfl, hT, hU, hZ, hB⟩ := hrel
    have hK : Aside (k + gk = 4) := hk
    clear hk
    by_cases hk9 : k < 4
    · have hk9' : (k : Int) < 4 := by omega
      have c0 := hT.cell hk9
      rw [mix_now] at c0
      have d0 := hU.cell hk9
      have f0 := hT.free k
      go_wp2_with fail
      go_region
      rw [or_words F G k]
      go_wp2_with fail
      go_roundg (gk - 1)
      case measure => have := hK.out; omega
      case rel =>
        have hk := hK.out
        exact ⟨k + 1, by omega, rfl, (hT.mixed hk9).drew, (hU.other (by simp) _).drew, (hZ.other (by simp) _).drew, (hB.setCell (Nat.le_refl _) _).drew⟩
    · obtain rfl : k = 4 := by have := hK.out; omega
      have c0 := hT.cell (show 0 < 4 by decide)
      have c1 := hT.cell (show 1 < 4 by decide)
      have c2 := hT.cell (show 2 < 4 by decide)
      have c3 := hT.cell (show 3 < 4 by decide)
      have z0 := hZ.cell (show 0 < 4 by decide)
      have z1 := hZ.cell (show 1 < 4 by decide)
      have z2 := hZ.cell (show 2 < 4 by decide)
      have z3 := hZ.cell (show 3 < 4 by decide)
      have y0 := hZ.free 0
      have y1 := hZ.free 1
      have y2 := hZ.free 2
      have y3 := hZ.free 3
      go_wp2_with fail
      exact bodyPost_ret (results_tab rfl rfl (laid_tab hZ _)) rfl ⟨rfl, hB.trans ((laid_turned _ _ _).below hB.size (by omega))⟩

end Go.Proofs.Ytdmfbfbebcneeaa.Rf
