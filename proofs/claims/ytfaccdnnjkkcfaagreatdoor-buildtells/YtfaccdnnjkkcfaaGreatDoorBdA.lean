/-
  Package build: blocks of two cells; a walk as a value and in memory; start, beyond.
-/
import Derived.Test.YtfaccdnnjkkcfaaGreatDoorLgc
import Derived.Test.YtfaccdnnjkkcfaaGreatDoorTrc
import Derived.Deep.RegionHeld3
import Derived.Deep.LoopGhost
namespace Go.Proofs.YtfaccdnnjkkcfaaGreatDoor
open Go Go.RowKit
open Rf (fixAt fixF tab word same IsTab Cols)

/-! ## Blocks of two cells -/
def Is2 (T : TypeId) (w : World) (b : Nat) (x y : Value) : Prop := w.heap[b]? = some (.cells #[x, y] T (0, 0))
section
variable {T : TypeId} {w w' : World} {b : Nat} {x y z : Value}
theorem Is2.lt (h : Is2 T w b x y) : b < w.heap.size := (Array.getElem?_eq_some_iff.1 h).1
theorem Is2.c0 (h : Is2 T w b x y) : w.cell? ⟨b, 0, none⟩ = some x := by
  unfold Is2 at h
  simp [World.cell?, h]
theorem Is2.c1 (h : Is2 T w b x y) : w.cell? ⟨b, 1, none⟩ = some y := by
  unfold Is2 at h
  simp [World.cell?, h]
theorem Is2.free (h : Is2 T w b x y) (k : Nat) : w.frozen? ⟨b, k, none⟩ = false := by
  unfold Is2 at h
  simp [World.frozen?, h]
theorem Is2.below (h : Is2 T w b x y) (k : Below w.heap.size w w') : Is2 T w' b x y := (k.block b h.lt).trans h
theorem Is2.drew (h : Is2 T w b x y) : Is2 T w.drew b x y := h
theorem Is2.newAt (T : TypeId) {w : World} {n : Nat} (hn : w.heap.size = n) (x y : Value) : Is2 T (w.alloc (.cells #[x, y] T)) n x y := by
  subst hn
  exact Go.Deep.blk_alloc_new _ _
theorem Is2.new (T : TypeId) (w : World) (x y : Value) : Is2 T (w.alloc (.cells #[x, y] T)) w.heap.size x y := Go.Deep.blk_alloc_new _ _
theorem Is2.alloc (h : Is2 T w b x y) (o : Obj) : Is2 T (w.alloc o) b x y := (Below.heap_alloc _ _ _ h.lt).trans h
theorem Is2.wf {S : Nat} {F F' : Nat → Prop} {M : Mdl} (h : Is2 T w b x y) (s : St w S F M) (k : Wf F F' w w') (ht : T ≠ 90 ∧ T ≠ 127 ∧ T ≠ 188 ∧ T ≠ 22) : Is2 T w' b x y := (k.block b h.lt (s.row h ht)).trans h
theorem Is2.set0 (h : Is2 T w b x y) (z : Value) : Is2 T (w.setCell ⟨b, 0, none⟩ z) b z y := by
  unfold Is2 at *
  simp [World.setCell, Array.getElem?_modify, h]
theorem Is2.set1 (h : Is2 T w b x y) (z : Value) : Is2 T (w.setCell ⟨b, 1, none⟩ z) b x z := by
  unfold Is2 at *
  simp [World.setCell, Array.getElem?_modify, h]
theorem Is2.other {c : Addr} (h : Is2 T w b x y) (hc : b ≠ c.block) (v : Value) : Is2 T (w.setCell c v) b x y := (Below.heap_setCell _ _ _ _ hc).trans h
end

/-! ## Walks -/
/-- A walk: the store, its variables by levels. -/
def wkv (S g n : Nat) : Value := .agg #[.pointer (some ⟨S, 0, none⟩), .slice (some ⟨g, 0, none⟩) n n]
/-- A block that holds a walk. -/
def IsBk (w : World) (b S g n : Nat) : Prop := Is2 94 w b (.pointer (some ⟨S, 0, none⟩)) (.slice (some ⟨g, 0, none⟩) n n)
theorem results_wk {fn : Func} {p : Tmp} (h : fn.results = #[.cell p 94]) {tmps : Array Value} {w : World} {b S g n : Nat} (hp : tmps.getD p undef = .pointer (some ⟨b, 0, none⟩)) (hT : IsBk w b S g n) :
    (results fn tmps).run Tryz.prog w = .ok (wkv S g n) w := by
  have c0 := hT.c0
  have c1 := hT.c1
  simp only [Array.getD_eq_getD_getElem?] at hp
  simp [results, h, hp, go_sem, c0, c1, wkv]

section
variable {w : World} {S : Nat} {F0 : Nat → Prop} {M : Mdl}
/-- Does a mask have a variable that isn't there? -/
theorem beyond_any (h : St w S F0 M) (m : Nat) :
    Calls Tryz.prog 42 #[.pointer (some ⟨S, 0, none⟩), .int .u8 (m : Int)] w fun e w' => e = .returned (.bool (decide (2 ^ M.n ≤ m))) ∧ w' = w := by
  have K := s_vars h
  have n8 := h.ok.le8
  generalize M.n = n at *
  have key : ((m : Int) / 2 ^ n != 0) = decide (2 ^ n ≤ m) := by
    have p : 0 < 2 ^ n := Nat.pow_pos (by omega)
    rw [show ((m : Int) / 2 ^ n) = ((m / 2 ^ n : Nat) : Int) by push_cast; rfl]
    by_cases c : 2 ^ n ≤ m
    · have := Nat.div_pos c p
      rw [decide_eq_true c]
      have h0 : ¬ ((m / 2 ^ n : Nat) : Int) = 0 := fun e => by
        have e' : m / 2 ^ n = 0 := Int.ofNat.inj e
        rw [e'] at this
        exact absurd this (by decide)
      exact bne_iff_ne.2 h0
    · rw [decide_eq_false c, Nat.div_eq_of_lt (by omega)]
      rfl
  go_enter Tryz.func42, Tryz.ntmps42
  go_wp2_with (first
    | (go_at_call 59; refine K.mono ?_; clear K; rintro e w1 ⟨rfl, e1⟩; subst w1))
  go_ret
  exact ⟨rfl, rfl⟩
theorem start_any (h : St w S F0 M) :
    Calls Tryz.prog 44 #[.pointer (some ⟨S, 0, none⟩)] w fun e w' => ∃ g, e = .returned (wkv S g M.n) ∧ w'.rowIs g 3 M.n (fun i => .int .i64 (M.v i : Int)) ∧ Below w.heap.size w w' ∧ w.heap.size ≤ g := by
  have n8 := h.ok.le8
  go_enter Tryz.func44, Tryz.ntmps44
  go_upto_region 1 with fail
  have B0 := (Below.refl _ w).alloc (Nat.le_refl _) (.cells #[.pointer none, .slice none 0 0] 94)
  have Z0 := Is2.new 94 w (.pointer none) (.slice none 0 0)
  generalize w.alloc (.cells #[.pointer none, .slice none 0 0] 94) = w4 at B0 Z0 ⊢
  have h4 := h.below B0
  have K1 := s_order h4
  have BA : Aside (Below w.heap.size w w4) := B0
  generalize hb : w.heap.size = b at Z0 ⊢
  have hbA : Aside (w.heap.size = b) := hb
  clear hb B0
  go_wp2_with (first
    | (go_at_call 10; refine K1.mono ?_; clear K1; rintro e w1 ⟨P, l, rfl, o1, b1, p1⟩; have K2 := Od.all_any o1 n8)
    | (go_at_call 11; refine K2.mono ?_; clear K2; rintro e w2 ⟨rfl, r2, b2⟩; have b12 := Rf.below_far b1 b2; have Z2 := Z0.below b12; have z0 := Z2.c0; have z1 := Z2.c1; have f0 := Z2.free 0; have f1 := Z2.free 1))
  have W2 : IsBk _ b S w1.heap.size M.n := (Z2.set0 (.pointer (some ⟨S, 0, none⟩))).set1 (.slice (some ⟨w1.heap.size, 0, none⟩) M.n M.n)
  have lt0 := Z0.lt
  have hne : w1.heap.size ≠ b := by have := b1.size; omega
  have e0 := hbA.out
  refine bodyPost_ret (results_wk rfl rfl W2) rfl ⟨_, rfl, (r2.setOther hne _).setOther hne _, ?_, by have := b1.size; omega⟩
  exact ((Rf.below_far BA.out b12).setCell (by show w.heap.size ≤ b; omega) _).setCell (by show w.heap.size ≤ b; omega) _
end
end Go.Proofs.YtfaccdnnjkkcfaaGreatDoor
