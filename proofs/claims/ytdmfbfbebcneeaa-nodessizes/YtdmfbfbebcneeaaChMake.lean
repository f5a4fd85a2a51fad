/-
  What New, Cells, Put, Get and Clear do.
-/
import Derived.Test.YtdmfbfbebcneeaaChFace
namespace Go.Proofs.Ytdmfbfbebcneeaa.Ch
open Go Go.RowKit
attribute [local go_sem] run_store_nil run_store_func

section
variable {w w' : World} {P R N T base n A : Nat} {c : Nat → Int} {ops fails : Int} {S : Ac}
theorem cells_any (n : Nat) (w : World) (hn : n ≤ 1000000) :
    Calls Try.prog 34 #[.int .i64 (n : Int)] w fun e w' => e = .returned (.int .i64 (4 * (n : Int))) ∧ w' = w := by
  have h1 : ¬ (2305843009213693951 : Int) < (n : Int) := by omega
  have hmx : (if (0 : Int) > (n : Int) then 0 else (n : Int)) = (n : Int) := if_neg (by omega)
  have h2 : ¬ (n : Int) < 0 := by omega
  go_enter Try.func34, Try.ntmps34
  go_wp2
  go_ret
  exact ⟨rfl, rfl⟩
theorem cache_new (h : IsMem w P R N c ops fails) (base n : Nat) (hn : 1 ≤ n) (hn2 : n ≤ 1024) (hr : base + 4 * n ≤ N) (hN : N ≤ 262144) :
    Calls Try.prog 36 #[.pointer (some ⟨P, 0, none⟩), .int .i64 (base : Int), .int .i64 (n : Int)] w fun e w' => e = .returned (.tuple #[.pointer (some ⟨w.heap.size, 0, none⟩), .int .i64 0]) ∧ w' = w.alloc (.cells #[.pointer (some ⟨P, 0, none⟩), .int .i64 (base : Int), .int .i64 (n : Int)] 85) := by
  have K := len_any P R N c ops fails w h
  have K2 := cells_any n w (by omega)
  have h1 : ¬ (base : Int) < 0 := by omega
  have h2 : ¬ (n : Int) < 1 := by omega
  have h3 : ¬ (1024 : Int) < (n : Int) := by omega
  have h4 : ¬ (N : Int) - (base : Int) < 4 * (n : Int) := by omega
  go_enter Try.func36, Try.ntmps36
  go_wp2_with (first
    | (go_at_call 34; refine K2.mono ?_; clear K2; rintro e w1 ⟨rfl, rfl⟩)
    | (go_at_call 48; refine K.mono ?_; clear K; rintro e w1 ⟨rfl, rfl⟩))
  go_ret2
  exact ⟨rfl, rfl⟩
/-- Where a key's line begins. -/
def line (base n : Nat) (key : Int) : Nat := base + 4 * home key n
theorem Sys.line_lt (h : Sys w P R N T base n c ops fails) (key : Int) : line base n key + 4 ≤ N := by
  have := home_lt key h.pos
  have := h.room
  unfold line
  omega
theorem IsAct.hs {h' : Nat → Int} (k : IsAct w A P S) (e : ∀ i, i < 4 → S.h i = h' i) : IsAct w A P ⟨S.put, S.key, S.val, S.first, S.cell, h', S.was, S.ver, S.st, S.found, S.won⟩ := by
  unfold IsAct at *
  rw [k, e 0 (by omega), e 1 (by omega), e 2 (by omega), e 3 (by omega)]
theorem half_key0 {key : Int} (i : Nat) (hi4 : i < 4) : upd (upd (fun _ => 0) 0 (hi key)) 1 (lo key) i = half key 0 i := by
  obtain rfl | rfl | rfl | rfl : i = 0 ∨ i = 1 ∨ i = 2 ∨ i = 3 := by omega
  all_goals simp [upd, half, hi, lo]
theorem half_key {key val : Int} (i : Nat) (hi4 : i < 4) : upd (upd (half key 0) 2 (hi val)) 3 (lo val) i = half key val i := by
  obtain rfl | rfl | rfl | rfl : i = 0 ∨ i = 1 ∨ i = 2 ∨ i = 3 := by omega
  all_goals simp [upd, half]
set_option maxHeartbeats 2000000 in
theorem act_any (h : Sys w P R N T base n c ops fails) (key : Int) (h0 : 0 ≤ key) (h1 : key ≤ 18446744073709551615) :
    Calls Try.prog 71 #[.pointer (some ⟨T, 23, none⟩), .int .u64 key] w fun e w' => e = .returned (.pointer (some ⟨w.heap.size, 0, none⟩)) ∧ IsAct w' w.heap.size P ⟨false, key, 0, line base n key, 0, half key 0, 0, 0, 0, false, false⟩ ∧ Below w.heap.size w w' ∧ w'.heap.size = w.heap.size + 1 := by
  have t0 := h.t0
  have t1 := h.t1
  have t2 := h.t2
  have hp := h.pos
  have hro := h.room
  have hsm := h.small
  have hN : n ≤ 262144 := by omega
  have hl := home_lt key hp
  have K := home_any key n w.drew h0 h1 h.pos hN
  have hl4 : Aside (((line base n key : Nat) : Int) = (base : Int) + 4 * ((home key n : Nat) : Int)) := by simp only [Aside, line]; omega
  obtain ⟨L, hL⟩ : ∃ L : Nat, L = line base n key := ⟨_, rfl⟩
  rw [← hL] at hl4 ⊢
  clear hL
  generalize home key n = q at K hl hl4
  have K3 := fun w => split_any key w h0 h1
  have hw1 : IntKind.i64.wrap (4 * (q : Int)) = 4 * (q : Int) := by rw [IntKind.wrap_i64]; omega
  have hw2 : IntKind.i64.wrap ((base : Int) + 4 * (q : Int)) = (base : Int) + 4 * (q : Int) := by rw [IntKind.wrap_i64]; omega
  obtain ⟨w1, hw⟩ : ∃ w1, w1 = (w.alloc (.cells #[.pointer (some ⟨P, 0, none⟩), .int .i64 ((base : Int) + 4 * (q : Int)), .int .i64 0, .int .u32 0, .int .u32 0, .int .u32 0, .int .u32 0, .int .u64 0, .int .u32 0, .nilFunc, .bool false] 136)).drew := ⟨_, rfl⟩
  have S1 : w1.cell? ⟨T, 23, none⟩ = some (.pointer (some ⟨P, 0, none⟩)) ∧ w1.cell? ⟨T, 24, none⟩ = some (.int .i64 (base : Int)) ∧ w1.cell? ⟨T, 25, none⟩ = some (.int .i64 (n : Int)) := by
    rw [hw]
    exact ⟨(h.new _).drew.t0, (h.new _).drew.t1, (h.new _).drew.t2⟩
  go_enter Try.func71, Try.ntmps71
  go_wp2_with fail
  go_region_held3 (fun u => u.cell? ⟨T, 23, none⟩ = some (.pointer (some ⟨P, 0, none⟩)) ∧ u.cell? ⟨T, 24, none⟩ = some (.int .i64 (base : Int)) ∧ u.cell? ⟨T, 25, none⟩ = some (.int .i64 (n : Int))) (first | assumption | exact ⟨t0, t1, t2⟩ | (rw [hw] at S1; exact S1)) (first
    | (go_at_call 75; refine K.mono ?_; clear K; rintro e w2 ⟨rfl, rfl⟩))
  rw [← hw]
  have k1 : IsAct w1 w.heap.size P ⟨false, key, 0, L, 0, fun _ => 0, 0, 0, 0, false, false⟩ := by
    rw [hw]
    have e : ((w.alloc (.cells #[.pointer (some ⟨P, 0, none⟩), .int .i64 ((base : Int) + 4 * (q : Int)), .int .i64 0, .int .u32 0, .int .u32 0, .int .u32 0, .int .u32 0, .int .u64 0, .int .u32 0, .nilFunc, .bool false] 136)).drew).heap[w.heap.size]? = some _ := Go.Deep.blk_alloc_new _ _
    unfold IsAct
    rw [e]
    simp only [hl4.out]
    rfl
  have b1 : Below w.heap.size w w1 := by rw [hw]; have b := (Below.refl w.heap.size w).alloc (Nat.le_refl _) (.cells #[.pointer (some ⟨P, 0, none⟩), .int .i64 ((base : Int) + 4 * (q : Int)), .int .i64 0, .int .u32 0, .int .u32 0, .int .u32 0, .int .u32 0, .int .u64 0, .int .u32 0, .nilFunc, .bool false] 136); exact ⟨b.os, b.tape, b.output, b.size, b.block⟩
  have s1 : Aside (w1.heap.size = w.heap.size + 1) := by simp only [Aside]; rw [hw]; simp
  clear hw S1 t0 t1 t2 hw1 hw2 hl4
  obtain ⟨A, hA⟩ : ∃ A, A = w.heap.size := ⟨_, rfl⟩
  have hAA : Aside (A = w.heap.size) := hA
  rw [← hA] at k1
  rw [← hA]
  have d3 := k1.f3
  have g3 := k1.free 3
  have k2 : IsAct (w1.setCell ⟨A, 3, none⟩ (.int .u32 (hi key))) A P _ := k1.seth (i := 0) (by omega) (hi key)
  have d4 := k2.f4
  have g4 := k2.free 4
  have k3 : IsAct ((w1.setCell ⟨A, 3, none⟩ (.int .u32 (hi key))).setCell ⟨A, 4, none⟩ (.int .u32 (lo key))) A P _ := k2.seth (i := 1) (by omega) (lo key)
  clear hA
  go_wp2_with fail
  go_region_with (first
    | (go_at_call 80; refine (K3 _).mono ?_; rintro e w2 ⟨rfl, rfl⟩))
  go_wp2_with fail
  go_ret
  obtain rfl := hAA.out
  have b2 : Below w.heap.size w ((w1.setCell ⟨w.heap.size, 3, none⟩ (.int .u32 (hi key))).setCell ⟨w.heap.size, 4, none⟩ (.int .u32 (lo key))) :=
    b1.trans (((Only.set _ 3 w1 _).trans (Only.set _ 4 _ _)).below b1.size fun i e => by omega)
  exact ⟨rfl, k3.drew.hs half_key0, ⟨b2.os, b2.tape, b2.output, b2.size, b2.block⟩, by have := s1.out; simpa [World.setCell] using this⟩
set_option maxHeartbeats 2000000 in
/-- A new get. -/
theorem aget_any (h : Sys w P R N T base n c ops fails) (key : Int) (h0 : 0 ≤ key) (h1 : key ≤ 18446744073709551615) :
    Calls Try.prog 57 #[.pointer (some ⟨T, 23, none⟩), .int .u64 key] w fun e w' => e = .returned (.pointer (some ⟨w.heap.size, 0, none⟩)) ∧ IsAct w' w.heap.size P (Ac.ofGet (line base n key) key) ∧ Below w.heap.size w w' ∧ w'.heap.size = w.heap.size + 1 := by
  have hmf := mkf
  have K := act_any h key h0 h1
  obtain ⟨A, hA⟩ : ∃ A, A = w.heap.size := ⟨_, rfl⟩
  have hAA : Aside (A = w.heap.size) := hA
  rw [← hA] at K ⊢
  clear hA
  go_enter Try.func57, Try.ntmps57
  go_wp2_with (first
    | (go_at_call 71; refine K.mono ?_; clear K; rintro e w1 ⟨rfl, k1, b1, s1⟩; have s1A : Aside (w1.heap.size = A + 1) := s1; clear s1; have d9 := k1.f9; have g9 := k1.free 9))
  go_ret
  refine ⟨rfl, k1.set9 4, b1.trans ((Only.set A 9 w1 _).below (by have := s1A.out; omega) fun i e => by omega), by have := s1A.out; simpa [World.setCell] using this⟩
set_option maxHeartbeats 2000000 in
/-- A new put. -/
theorem aput_any (h : Sys w P R N T base n c ops fails) (key val : Int) (h0 : 0 ≤ key) (h1 : key ≤ 18446744073709551615) (h2 : 0 ≤ val) (h3 : val ≤ 18446744073709551615) :
    Calls Try.prog 67 #[.pointer (some ⟨T, 23, none⟩), .int .u64 key, .int .u64 val] w fun e w' => e = .returned (.pointer (some ⟨w.heap.size, 0, none⟩)) ∧ IsAct w' w.heap.size P (Ac.ofPut (line base n key) key val) ∧ Below w.heap.size w w' ∧ w'.heap.size = w.heap.size + 1 := by
  have hmf := mkf
  have K := act_any h key h0 h1
  have K3 := fun w => split_any val w h2 h3
  obtain ⟨A, hA⟩ : ∃ A, A = w.heap.size := ⟨_, rfl⟩
  have hAA : Aside (A = w.heap.size) := hA
  rw [← hA] at K ⊢
  clear hA
  go_enter Try.func67, Try.ntmps67
  go_wp2_with (first
    | (go_at_call 71; refine K.mono ?_; clear K; rintro e w1 ⟨rfl, k1, b1, s1⟩; have s1A : Aside (w1.heap.size = A + 1) := s1; clear s1))
  have d5 := k1.f5
  have g5 := k1.free 5
  have k2 : IsAct (w1.setCell ⟨A, 5, none⟩ (.int .u32 (hi val))) A P _ := k1.seth (i := 2) (by omega) (hi val)
  have d6 := k2.f6
  have g6 := k2.free 6
  have k3 : IsAct ((w1.setCell ⟨A, 5, none⟩ (.int .u32 (hi val))).setCell ⟨A, 6, none⟩ (.int .u32 (lo val))) A P _ := k2.seth (i := 3) (by omega) (lo val)
  have d9 := k3.f9
  have g9 := k3.free 9
  go_region_with (first
    | (go_at_call 80; refine (K3 _).mono ?_; rintro e w2 ⟨rfl, rfl⟩))
  go_wp2_with fail
  go_ret
  have b2 : Below A w ((((w1.setCell ⟨A, 5, none⟩ (.int .u32 (hi val))).setCell ⟨A, 6, none⟩ (.int .u32 (lo val)))).setCell ⟨A, 9, none⟩ (nextV A 1)) :=
    b1.trans ((((Only.set _ 5 w1 _).trans (Only.set _ 6 _ _)).trans (Only.set _ 9 _ _)).below (by have := s1A.out; omega) fun i e => by omega)
  exact ⟨rfl, ((k3.set9 1).ghost true key val false).drew.hs half_key, ⟨b2.os, b2.tape, b2.output, b2.size, b2.block⟩, by have := s1A.out; simpa [World.setCell] using this⟩
set_option maxHeartbeats 2000000 in
end
end Go.Proofs.Ytdmfbfbebcneeaa.Ch
