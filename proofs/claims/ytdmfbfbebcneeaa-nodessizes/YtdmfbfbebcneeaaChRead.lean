/-
  What a get's reading of one cell does.
-/
import Derived.Test.YtdmfbfbebcneeaaChSteps
namespace Go.Proofs.Ytdmfbfbebcneeaa.Ch
open Go Go.RowKit
attribute [local go_sem] run_store_nil run_store_func

section
variable {w w' : World} {P R N T base n A : Nat} {c : Nat → Int} {ops fails : Int} {S : Ac}
theorem Sys.drewN (h : Sys w P R N T base n c ops fails) (q : Nat) : Sys (w.drewN q) P R N T base n c ops fails := h.kept fun _ _ => rfl
theorem IsAct.drewN (h : IsAct w A P S) (q : Nat) : IsAct (w.drewN q) A P S := h
theorem Went.undrewN {F : Nat → Prop} {a b : World} {q : Nat} (h : Went F (a.drewN q) b) : Went F a b := ⟨h.os, h.tape, h.output, h.size, h.block⟩
theorem Went.drawn (F : Nat → Prop) (a : World) (q : Nat) : Went F a (a.drewN q) := ⟨rfl, rfl, rfl, Nat.le_refl _, fun _ _ _ => rfl⟩

set_option maxHeartbeats 2000000 in
/-- The cell bears another version. -/
theorem read_old (h : Sys w P R N T base n c ops fails) (k : IsAct w A P S) (f : Fit N S) (i : Nat) (hi3 : i ≤ 3) (hc : S.cell = i) (hx : ¬ hi (c (S.first + i)) = S.ver) :
    Calls Try.prog 85 #[.pointer (some ⟨A, 0, none⟩)] w fun e w' => e = .returned (.tuple #[]) ∧ Sys w' P R N T base n c (wrap64 (ops + 1)) fails ∧ IsAct w' A P ⟨S.put, S.key, S.val, S.first, S.cell, S.h, S.was, S.ver, 0, S.found, S.won⟩ ∧ Went (Foot P R A) w w' := by
  have c0 := k.f0
  have c1 := k.f1
  have c2 := k.f2
  rw [hc] at c2
  have hr := f.room
  have hsm := h.small
  have K2 := load_in P R N c ops fails w.drew (S.first + i) (by omega) h.mem.drew
  have hw : Aside (IntKind.i64.wrap ((S.first : Int) + (i : Int)) = ((S.first + i : Nat) : Int)) := by simp only [Aside]; rw [IntKind.wrap_i64]; omega
  have hw1 : IntKind.i64.wrap ((S.first : Int) + (i : Int)) = (S.first : Int) + (i : Int) := by rw [IntKind.wrap_i64]; omega
  have hu := h.fit (S.first + i)
  generalize c (S.first + i) = x at K2 hu hx
  have K3 := fun w => split_any x w hu.1 hu.2
  have e1 : (hi x != S.ver) = true := by simpa using hx
  clear hx
  generalize hi x = v at K3 e1
  have hA : Aside (∀ {u : World}, IsAct u A P S → u.cell? ⟨A, 2, none⟩ = some (.int .i64 (i : Int))) := fun q => by have := q.f2; rw [hc] at this; exact this
  go_enter Try.func85, Try.ntmps85
  go_wp2_with fail
  go_region_held3 (fun u => u.cell? ⟨A, 0, none⟩ = some (.pointer (some ⟨P, 0, none⟩)) ∧ u.cell? ⟨A, 1, none⟩ = some (.int .i64 (S.first : Int)) ∧ u.cell? ⟨A, 2, none⟩ = some (.int .i64 (i : Int))) (first | assumption | exact ⟨c0, c1, c2⟩ | exact ⟨k1.f0, k1.f1, hA.out k1⟩) (first
    | (go_at_call 84; first | rw [hw.out] | skip; refine K2.mono ?_; clear K2; rintro e w1 ⟨rfl, m1, b1⟩; have k1 : IsAct w1 A P S := k.moved h.mem b1.undrew; have d8 := k1.f8)
    | (go_at_call 80; refine (K3 _).mono ?_; rintro e w1 ⟨rfl, rfl⟩))
  go_wp2_with fail
  go_quiet (fail)
  have h1 := h.moved m1 b1.undrew h.fit
  have h2 := h1.drewN nq
  have k2 := k1.drewN nq
  have d9 := k2.f9
  have g9 := k2.free 9
  go_wp2_with fail
  refine bodyPost_ret (results_none rfl _ _ _) rfl ?_
  exact ⟨rfl, h2.setA k2 _ _, k2.set9 0, (foot_m b1.undrew).trans ((Went.drawn _ _ _).trans (foot_o (Only.set A 9 _ _)))⟩
set_option maxHeartbeats 4000000 in
/-- The cell is the key's, and bears another half. -/
theorem read_other (h : Sys w P R N T base n c ops fails) (k : IsAct w A P S) (f : Fit N S) (hc : S.cell = 1) (hx : hi (c (S.first + 1)) = S.ver) (hy : ¬ lo (c (S.first + 1)) = S.h 1) :
    Calls Try.prog 85 #[.pointer (some ⟨A, 0, none⟩)] w fun e w' => e = .returned (.tuple #[]) ∧ Sys w' P R N T base n c (wrap64 (ops + 1)) fails ∧ IsAct w' A P ⟨S.put, S.key, S.val, S.first, S.cell, S.h, S.was, S.ver, 0, S.found, S.won⟩ ∧ Went (Foot P R A) w w' := by
  have c0 := k.f0
  have c1 := k.f1
  have c2 : w.cell? ⟨A, 2, none⟩ = some (.int .i64 1) := (by have := k.f2; rw [hc] at this; exact this)
  have hr := f.room
  have hsm := h.small
  have K2 := load_in P R N c ops fails w.drew (S.first + 1) (by omega) h.mem.drew
  have hw : Aside (IntKind.i64.wrap ((S.first : Int) + 1) = ((S.first + 1 : Nat) : Int)) := by simp only [Aside]; rw [IntKind.wrap_i64]; omega
  have hw1 : IntKind.i64.wrap ((S.first : Int) + 1) = (S.first : Int) + 1 := by rw [IntKind.wrap_i64]; omega
  have hu := h.fit (S.first + 1)
  have hA : Aside (∀ {u : World}, IsAct u A P S → u.cell? ⟨A, 2, none⟩ = some (.int .i64 1)) := fun q => by have := q.f2; rw [hc] at this; exact this
  have hv : hi (c (S.first + 1)) = S.ver := hx
  generalize c (S.first + 1) = x at K2 hu hv hy
  have K3 := fun w => split_any x w hu.1 hu.2
  rw [hv] at K3
  have e1 : (S.ver != S.ver) = false := by simp
  clear hx hv
  have e2 : (lo x != S.h 1) = true := by simpa using hy
  clear hy
  generalize lo x = l at K3 e2
  go_enter Try.func85, Try.ntmps85
  go_wp2_with fail
  go_region_held3 (fun u => u.cell? ⟨A, 0, none⟩ = some (.pointer (some ⟨P, 0, none⟩)) ∧ u.cell? ⟨A, 1, none⟩ = some (.int .i64 (S.first : Int)) ∧ u.cell? ⟨A, 2, none⟩ = some (.int .i64 1)) (first | assumption | exact ⟨c0, c1, c2⟩ | exact ⟨k1.f0, k1.f1, hA.out k1⟩) (first
    | (go_at_call 84; first | rw [hw.out] | skip; refine K2.mono ?_; clear K2; rintro e w1 ⟨rfl, m1, b1⟩; have k1 : IsAct w1 A P S := k.moved h.mem b1.undrew; have d8 := k1.f8; have d2 := hA.out k1; have d4 := k1.f4)
    | (go_at_call 80; refine (K3 _).mono ?_; rintro e w1 ⟨rfl, rfl⟩))
  go_wp2_with fail
  go_quiet (fail)
  have h1 := h.moved m1 b1.undrew h.fit
  have h2 := h1.drewN nq
  have k2 := k1.drewN nq
  have d9 := k2.f9
  have g9 := k2.free 9
  go_wp2_with fail
  refine bodyPost_ret (results_none rfl _ _ _) rfl ?_
  exact ⟨rfl, h2.setA k2 _ _, k2.set9 0, (foot_m b1.undrew).trans ((Went.drawn _ _ _).trans (foot_o (Only.set A 9 _ _)))⟩
set_option maxHeartbeats 4000000 in
/-- Cell 1 of the line fits. -/
theorem read_go1 (h : Sys w P R N T base n c ops fails) (k : IsAct w A P S) (f : Fit N S) (hc : S.cell = 1) (hx : hi (c (S.first + 1)) = S.ver) (hy : 1 < 2 → lo (c (S.first + 1)) = S.h 1) :
    Calls Try.prog 85 #[.pointer (some ⟨A, 0, none⟩)] w fun e w' => e = .returned (.tuple #[]) ∧ Sys w' P R N T base n c (wrap64 (ops + 1)) fails ∧ IsAct w' A P ⟨S.put, S.key, S.val, S.first, 2, upd S.h 1 (lo (c (S.first + 1))), S.was, S.ver, S.st, S.found, S.won⟩ ∧ Went (Foot P R A) w w' := by
  have c0 := k.f0
  have c1 := k.f1
  have c2 : w.cell? ⟨A, 2, none⟩ = some (.int .i64 1) := (by have := k.f2; rw [hc] at this; exact this)
  have hr := f.room
  have hsm := h.small
  have K2 := load_in P R N c ops fails w.drew (S.first + 1) (by omega) h.mem.drew
  have hw : Aside (IntKind.i64.wrap ((S.first : Int) + 1) = ((S.first + 1 : Nat) : Int)) := by simp only [Aside]; rw [IntKind.wrap_i64]; omega
  have hw1 : IntKind.i64.wrap ((S.first : Int) + 1) = (S.first : Int) + 1 := by rw [IntKind.wrap_i64]; omega
  have hu := h.fit (S.first + 1)
  have hA : Aside (∀ {u : World}, IsAct u A P S → u.cell? ⟨A, 2, none⟩ = some (.int .i64 1)) := fun q => by have := q.f2; rw [hc] at this; exact this
  have hv : hi (c (S.first + 1)) = S.ver := hx
  generalize c (S.first + 1) = x at K2 hu hv hy
  have K3 := fun w => split_any x w hu.1 hu.2
  rw [hv] at K3
  have e1 : (S.ver != S.ver) = false := by simp
  clear hx hv
  have hy1 := hy (by omega)
  have e2 : (lo x != S.h 1) = false := by simpa using hy1
  clear hy hy1
  generalize lo x = l at K3 e2 ⊢
  go_enter Try.func85, Try.ntmps85
  go_wp2_with fail
  go_region_held3 (fun u => u.cell? ⟨A, 0, none⟩ = some (.pointer (some ⟨P, 0, none⟩)) ∧ u.cell? ⟨A, 1, none⟩ = some (.int .i64 (S.first : Int)) ∧ u.cell? ⟨A, 2, none⟩ = some (.int .i64 1)) (first | assumption | exact ⟨c0, c1, c2⟩ | exact ⟨k1.f0, k1.f1, hA.out k1⟩) (first
    | (go_at_call 84; first | rw [hw.out] | skip; refine K2.mono ?_; clear K2; rintro e w1 ⟨rfl, m1, b1⟩; have k1 : IsAct w1 A P S := k.moved h.mem b1.undrew; have d8 := k1.f8; have d2 := hA.out k1; have d4 := k1.f4)
    | (go_at_call 80; refine (K3 _).mono ?_; rintro e w1 ⟨rfl, rfl⟩))
  go_wp2_with fail
  go_quiet (fail)
  have h1 := h.moved m1 b1.undrew h.fit
  have h2 := h1.drewN (nq + 1)
  have k2 := k1.drewN (nq + 1)
  have k3 : IsAct ((w1.drewN (nq + 1)).setCell ⟨A, 4, none⟩ (.int .u32 l)) A P ⟨S.put, S.key, S.val, S.first, S.cell, upd S.h 1 l, S.was, S.ver, S.st, S.found, S.won⟩ := k2.seth (show 1 < 4 by omega) l
  have f2 : (w1.drewN (nq + 1)).cell? ⟨A, 2, none⟩ = some (.int .i64 1) := d2
  have f3 : (w1.drewN (nq + 1)).cell? ⟨A, 4, none⟩ = some (.int .u32 (S.h 1)) := k2.fh (show 1 < 4 by omega)
  have g3 := k2.free 4
  go_wp2_with fail
  go_region
  have v2 : ((w1.drewN (nq + 1)).setCell ⟨A, 4, none⟩ (.int .u32 l)).cell? ⟨A, 2, none⟩ = some (.int .i64 1) := (by have := k3.f2; simp only [hc] at this; exact this)
  have u2 := k3.free 2
  have k4 : IsAct (((w1.drewN (nq + 1)).setCell ⟨A, 4, none⟩ (.int .u32 l)).setCell ⟨A, 2, none⟩ (.int .i64 2)) A P ⟨S.put, S.key, S.val, S.first, 2, upd S.h 1 l, S.was, S.ver, S.st, S.found, S.won⟩ := k3.set2 2
  go_wp2_with fail
  go_end0
  exact ⟨rfl, (h2.setA k2 _ _).setA k3 _ _, k4, (foot_m b1.undrew).trans ((Went.drawn _ _ _).trans (foot_o ((Only.set A 4 _ _).trans (Only.set A 2 _ _))))⟩
set_option maxHeartbeats 4000000 in
/-- Cell 2 of the line fits. -/
theorem read_go2 (h : Sys w P R N T base n c ops fails) (k : IsAct w A P S) (f : Fit N S) (hc : S.cell = 2) (hx : hi (c (S.first + 2)) = S.ver) :
    Calls Try.prog 85 #[.pointer (some ⟨A, 0, none⟩)] w fun e w' => e = .returned (.tuple #[]) ∧ Sys w' P R N T base n c (wrap64 (ops + 1)) fails ∧ IsAct w' A P ⟨S.put, S.key, S.val, S.first, 3, upd S.h 2 (lo (c (S.first + 2))), S.was, S.ver, S.st, S.found, S.won⟩ ∧ Went (Foot P R A) w w' := by
  have c0 := k.f0
  have c1 := k.f1
  have c2 : w.cell? ⟨A, 2, none⟩ = some (.int .i64 2) := (by have := k.f2; rw [hc] at this; exact this)
  have hr := f.room
  have hsm := h.small
  have K2 := load_in P R N c ops fails w.drew (S.first + 2) (by omega) h.mem.drew
  have hw : Aside (IntKind.i64.wrap ((S.first : Int) + 2) = ((S.first + 2 : Nat) : Int)) := by simp only [Aside]; rw [IntKind.wrap_i64]; omega
  have hw1 : IntKind.i64.wrap ((S.first : Int) + 2) = (S.first : Int) + 2 := by rw [IntKind.wrap_i64]; omega
  have hu := h.fit (S.first + 2)
  have hA : Aside (∀ {u : World}, IsAct u A P S → u.cell? ⟨A, 2, none⟩ = some (.int .i64 2)) := fun q => by have := q.f2; rw [hc] at this; exact this
  have hv : hi (c (S.first + 2)) = S.ver := hx
  generalize c (S.first + 2) = x at K2 hu hv
  have K3 := fun w => split_any x w hu.1 hu.2
  rw [hv] at K3
  have e1 : (S.ver != S.ver) = false := by simp
  clear hx hv
  generalize lo x = l at K3 ⊢
  go_enter Try.func85, Try.ntmps85
  go_wp2_with fail
  go_region_held3 (fun u => u.cell? ⟨A, 0, none⟩ = some (.pointer (some ⟨P, 0, none⟩)) ∧ u.cell? ⟨A, 1, none⟩ = some (.int .i64 (S.first : Int)) ∧ u.cell? ⟨A, 2, none⟩ = some (.int .i64 2)) (first | assumption | exact ⟨c0, c1, c2⟩ | exact ⟨k1.f0, k1.f1, hA.out k1⟩) (first
    | (go_at_call 84; first | rw [hw.out] | skip; refine K2.mono ?_; clear K2; rintro e w1 ⟨rfl, m1, b1⟩; have k1 : IsAct w1 A P S := k.moved h.mem b1.undrew; have d8 := k1.f8; have d2 := hA.out k1; have d4 := k1.f4)
    | (go_at_call 80; refine (K3 _).mono ?_; rintro e w1 ⟨rfl, rfl⟩))
  go_wp2_with fail
  go_quiet (fail)
  have h1 := h.moved m1 b1.undrew h.fit
  have h2 := h1.drewN (nq + 1)
  have k2 := k1.drewN (nq + 1)
  have k3 : IsAct ((w1.drewN (nq + 1)).setCell ⟨A, 5, none⟩ (.int .u32 l)) A P ⟨S.put, S.key, S.val, S.first, S.cell, upd S.h 2 l, S.was, S.ver, S.st, S.found, S.won⟩ := k2.seth (show 2 < 4 by omega) l
  have f2 : (w1.drewN (nq + 1)).cell? ⟨A, 2, none⟩ = some (.int .i64 2) := d2
  have f3 : (w1.drewN (nq + 1)).cell? ⟨A, 5, none⟩ = some (.int .u32 (S.h 2)) := k2.fh (show 2 < 4 by omega)
  have g3 := k2.free 5
  go_wp2_with fail
  go_region
  have v2 : ((w1.drewN (nq + 1)).setCell ⟨A, 5, none⟩ (.int .u32 l)).cell? ⟨A, 2, none⟩ = some (.int .i64 2) := (by have := k3.f2; simp only [hc] at this; exact this)
  have u2 := k3.free 2
  have k4 : IsAct (((w1.drewN (nq + 1)).setCell ⟨A, 5, none⟩ (.int .u32 l)).setCell ⟨A, 2, none⟩ (.int .i64 3)) A P ⟨S.put, S.key, S.val, S.first, 3, upd S.h 2 l, S.was, S.ver, S.st, S.found, S.won⟩ := k3.set2 3
  go_wp2_with fail
  go_end0
  exact ⟨rfl, (h2.setA k2 _ _).setA k3 _ _, k4, (foot_m b1.undrew).trans ((Went.drawn _ _ _).trans (foot_o ((Only.set A 5 _ _).trans (Only.set A 2 _ _))))⟩
set_option maxHeartbeats 4000000 in
/-- Cell 3 of the line fits. -/
theorem read_go3 (h : Sys w P R N T base n c ops fails) (k : IsAct w A P S) (f : Fit N S) (hc : S.cell = 3) (hx : hi (c (S.first + 3)) = S.ver) :
    Calls Try.prog 85 #[.pointer (some ⟨A, 0, none⟩)] w fun e w' => e = .returned (.tuple #[]) ∧ Sys w' P R N T base n c (wrap64 (ops + 1)) fails ∧ IsAct w' A P ⟨S.put, S.key, S.val, S.first, 4, upd S.h 3 (lo (c (S.first + 3))), S.was, S.ver, 0, true, S.won⟩ ∧ Went (Foot P R A) w w' := by
  have c0 := k.f0
  have c1 := k.f1
  have c2 : w.cell? ⟨A, 2, none⟩ = some (.int .i64 3) := (by have := k.f2; rw [hc] at this; exact this)
  have hr := f.room
  have hsm := h.small
  have K2 := load_in P R N c ops fails w.drew (S.first + 3) (by omega) h.mem.drew
  have hw : Aside (IntKind.i64.wrap ((S.first : Int) + 3) = ((S.first + 3 : Nat) : Int)) := by simp only [Aside]; rw [IntKind.wrap_i64]; omega
  have hw1 : IntKind.i64.wrap ((S.first : Int) + 3) = (S.first : Int) + 3 := by rw [IntKind.wrap_i64]; omega
  have hu := h.fit (S.first + 3)
  have hA : Aside (∀ {u : World}, IsAct u A P S → u.cell? ⟨A, 2, none⟩ = some (.int .i64 3)) := fun q => by have := q.f2; rw [hc] at this; exact this
  have hv : hi (c (S.first + 3)) = S.ver := hx
  generalize c (S.first + 3) = x at K2 hu hv
  have K3 := fun w => split_any x w hu.1 hu.2
  rw [hv] at K3
  have e1 : (S.ver != S.ver) = false := by simp
  clear hx hv
  generalize lo x = l at K3 ⊢
  go_enter Try.func85, Try.ntmps85
  go_wp2_with fail
  go_region_held3 (fun u => u.cell? ⟨A, 0, none⟩ = some (.pointer (some ⟨P, 0, none⟩)) ∧ u.cell? ⟨A, 1, none⟩ = some (.int .i64 (S.first : Int)) ∧ u.cell? ⟨A, 2, none⟩ = some (.int .i64 3)) (first | assumption | exact ⟨c0, c1, c2⟩ | exact ⟨k1.f0, k1.f1, hA.out k1⟩) (first
    | (go_at_call 84; first | rw [hw.out] | skip; refine K2.mono ?_; clear K2; rintro e w1 ⟨rfl, m1, b1⟩; have k1 : IsAct w1 A P S := k.moved h.mem b1.undrew; have d8 := k1.f8; have d2 := hA.out k1; have d4 := k1.f4)
    | (go_at_call 80; refine (K3 _).mono ?_; rintro e w1 ⟨rfl, rfl⟩))
  go_wp2_with fail
  go_quiet (fail)
  have h1 := h.moved m1 b1.undrew h.fit
  have h2 := h1.drewN (nq + 1)
  have k2 := k1.drewN (nq + 1)
  have k3 : IsAct ((w1.drewN (nq + 1)).setCell ⟨A, 6, none⟩ (.int .u32 l)) A P ⟨S.put, S.key, S.val, S.first, S.cell, upd S.h 3 l, S.was, S.ver, S.st, S.found, S.won⟩ := k2.seth (show 3 < 4 by omega) l
  have f2 : (w1.drewN (nq + 1)).cell? ⟨A, 2, none⟩ = some (.int .i64 3) := d2
  have f3 : (w1.drewN (nq + 1)).cell? ⟨A, 6, none⟩ = some (.int .u32 (S.h 3)) := k2.fh (show 3 < 4 by omega)
  have g3 := k2.free 6
  go_wp2_with fail
  go_region
  have v2 : ((w1.drewN (nq + 1)).setCell ⟨A, 6, none⟩ (.int .u32 l)).cell? ⟨A, 2, none⟩ = some (.int .i64 3) := (by have := k3.f2; simp only [hc] at this; exact this)
  have u2 := k3.free 2
  have k4 : IsAct (((w1.drewN (nq + 1)).setCell ⟨A, 6, none⟩ (.int .u32 l)).setCell ⟨A, 2, none⟩ (.int .i64 4)) A P ⟨S.put, S.key, S.val, S.first, 4, upd S.h 3 l, S.was, S.ver, S.st, S.found, S.won⟩ := k3.set2 4
  have v10 := k4.f10
  have u10 := k4.free 10
  have k5 := k4.set10 true
  have v9 := k5.f9
  have u9 := k5.free 9
  go_wp2_with fail
  go_end0
  exact ⟨rfl, (((h2.setA k2 _ _).setA k3 _ _).setA k4 _ _).setA k5 _ _, k5.set9 0, (foot_m b1.undrew).trans ((Went.drawn _ _ _).trans (foot_o ((((Only.set A 6 _ _).trans (Only.set A 2 _ _)).trans (Only.set A 10 _ _)).trans (Only.set A 9 _ _))))⟩
/-- What reading a cell does. -/
theorem read_any (h : Sys w P R N T base n c ops fails) (k : IsAct w A P S) (f : Fit N S) (h5 : S.st = 5) :
    Calls Try.prog 85 #[.pointer (some ⟨A, 0, none⟩)] w fun e w' => e = .returned (.tuple #[]) ∧ Sys w' P R N T base n c (wrap64 (ops + 1)) fails ∧ IsAct w' A P (S.nxt c) ∧ Went (Foot P R A) w w' := by
  have hcl := f.cell (.inr h5)
  rw [nxt5 h5]
  by_cases h0 : ¬ hi (c (S.first + S.cell)) = S.ver
  · rw [if_pos (.inl h0)]
    exact read_old h k f S.cell hcl.2 rfl h0
  · have h0' : hi (c (S.first + S.cell)) = S.ver := Classical.byContradiction h0
    by_cases h1 : S.cell < 2 ∧ ¬ lo (c (S.first + S.cell)) = S.h S.cell
    · rw [if_pos (.inr h1)]
      have e : S.cell = 1 := by omega
      rw [e] at h0' h1
      exact read_other h k f e h0' h1.2
    · rw [if_neg (by rintro (q | q); exact h0 q; exact h1 q)]
      have hy : S.cell < 2 → lo (c (S.first + S.cell)) = S.h S.cell := fun q => Classical.byContradiction fun z => h1 ⟨q, z⟩
      obtain e | e | e : S.cell = 1 ∨ S.cell = 2 ∨ S.cell = 3 := by omega
      · rw [e] at h0' hy ⊢
        have := read_go1 h k f e h0' hy
        rw [h5] at this
        exact this
      · rw [e] at h0' hy ⊢
        have := read_go2 h k f e h0'
        rw [h5] at this
        exact this
      · rw [e] at h0' hy ⊢
        exact read_go3 h k f e h0'
end
end Go.Proofs.Ytdmfbfbebcneeaa.Ch
