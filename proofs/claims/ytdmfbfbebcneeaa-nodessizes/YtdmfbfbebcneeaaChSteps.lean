/-
  What each step of an act does.
-/
import Derived.Test.YtdmfbfbebcneeaaChAct
namespace Go.Proofs.Ytdmfbfbebcneeaa.Ch
open Go Go.RowKit
attribute [local go_sem] run_store_nil run_store_func

section
variable {w w' : World} {P R N T base n A : Nat} {c : Nat → Int} {ops fails : Int} {S : Ac}
theorem upd_fit {x : Int} (h : U64 c) (hx : 0 ≤ x ∧ x ≤ 18446744073709551615) (j : Nat) : U64 (upd c j x) := fun i => by
  by_cases d : i = j
  · rw [d, upd_same]; exact hx
  · rw [upd_other _ _ d]; exact h i
set_option maxHeartbeats 2000000 in
theorem claim_hit (h : Sys w P R N T base n c ops fails) (k : IsAct w A P S) (f : Fit N S) (hx : c S.first = S.was) :
    Calls Try.prog 89 #[.pointer (some ⟨A, 0, none⟩)] w fun e w' => e = .returned (.tuple #[]) ∧ Sys w' P R N T base n (upd c S.first (jn S.ver (S.h 0))) (wrap64 (ops + 1)) fails ∧ IsAct w' A P ⟨S.put, S.key, S.val, S.first, 1, S.h, S.was, S.ver, 3, S.found, true⟩ ∧ Went (Foot P R A) w w' := by
  have hmf := mkf
  have c0 := k.f0
  have c1 := k.f1
  have c3 := k.f3
  have c7 := k.f7
  have c8 := k.f8
  have hr := f.room
  have K2 := cas_hit P R N c ops fails w.drew S.first (jn S.ver (S.h 0)) (by omega) h.mem.drew
  rw [hx] at K2
  have K1 := join_any S.ver (S.h 0) w.drew f.ver.1 f.ver.2 (f.h 0).1 (f.h 0).2
  have u : U64 (upd c S.first (jn S.ver (S.h 0))) := upd_fit h.fit (jn_lt f.ver.1 f.ver.2 (f.h 0).1 (f.h 0).2) _
  go_enter Try.func89, Try.ntmps89
  go_wp2_with fail
  go_region_held3 (fun u => u.cell? ⟨A, 0, none⟩ = some (.pointer (some ⟨P, 0, none⟩)) ∧ u.cell? ⟨A, 1, none⟩ = some (.int .i64 (S.first : Int)) ∧ u.cell? ⟨A, 3, none⟩ = some (.int .u32 (S.h 0)) ∧ u.cell? ⟨A, 7, none⟩ = some (.int .u64 S.was) ∧ u.cell? ⟨A, 8, none⟩ = some (.int .u32 S.ver)) (first | assumption | exact ⟨c0, c1, c3, c7, c8⟩ | exact ⟨k1.f0, k1.f1, k1.f3, k1.f7, k1.f8⟩) (first
    | (go_at_call 74; refine K1.mono ?_; clear K1; rintro e w1 ⟨rfl, rfl⟩)
    | (go_at_call 96; refine K2.mono ?_; clear K2; rintro e w1 ⟨rfl, m1, b1⟩; have k1 : IsAct w1 A P S := k.moved h.mem b1.undrew))
  have d2 := k1.f2
  have g2 := k1.free 2
  have k2 : IsAct (w1.setCell ⟨A, 2, none⟩ (.int .i64 1)) A P ⟨S.put, S.key, S.val, S.first, 1, S.h, S.was, S.ver, S.st, S.found, S.won⟩ := k1.set2 1
  have d9 := k2.f9
  have g9 := k2.free 9
  go_wp2_with fail
  go_end0
  exact ⟨rfl, ((h.moved m1 b1.undrew u).setA k1 _ _).setA k2 _ _, (k2.set9 3).ghost _ _ _ true, (foot_m b1.undrew).trans (foot_o ((Only.set A 2 w1 _).trans (Only.set A 9 _ _)))⟩
set_option maxHeartbeats 2000000 in
theorem claim_miss (h : Sys w P R N T base n c ops fails) (k : IsAct w A P S) (f : Fit N S) (hx : ¬ c S.first = S.was) :
    Calls Try.prog 89 #[.pointer (some ⟨A, 0, none⟩)] w fun e w' => e = .returned (.tuple #[]) ∧ Sys w' P R N T base n c (wrap64 (ops + 1)) (wrap64 (fails + 1)) ∧ IsAct w' A P ⟨S.put, S.key, S.val, S.first, S.cell, S.h, S.was, S.ver, 0, S.found, S.won⟩ ∧ Went (Foot P R A) w w' := by
  have hmf := mkf
  have c0 := k.f0
  have c1 := k.f1
  have c3 := k.f3
  have c7 := k.f7
  have c8 := k.f8
  have hr := f.room
  have K2 := cas_miss P R N c ops fails w.drew S.first S.was (jn S.ver (S.h 0)) (by omega) hx h.mem.drew
  have K1 := join_any S.ver (S.h 0) w.drew f.ver.1 f.ver.2 (f.h 0).1 (f.h 0).2
  clear hx
  go_enter Try.func89, Try.ntmps89
  go_wp2_with fail
  go_region_held3 (fun u => u.cell? ⟨A, 0, none⟩ = some (.pointer (some ⟨P, 0, none⟩)) ∧ u.cell? ⟨A, 1, none⟩ = some (.int .i64 (S.first : Int)) ∧ u.cell? ⟨A, 3, none⟩ = some (.int .u32 (S.h 0)) ∧ u.cell? ⟨A, 7, none⟩ = some (.int .u64 S.was) ∧ u.cell? ⟨A, 8, none⟩ = some (.int .u32 S.ver)) (first | assumption | exact ⟨c0, c1, c3, c7, c8⟩ | exact ⟨k1.f0, k1.f1, k1.f3, k1.f7, k1.f8⟩) (first
    | (go_at_call 74; refine K1.mono ?_; clear K1; rintro e w1 ⟨rfl, rfl⟩)
    | (go_at_call 96; refine K2.mono ?_; clear K2; rintro e w1 ⟨rfl, m1, b1⟩; have k1 : IsAct w1 A P S := k.moved h.mem b1.undrew))
  have d9 := k1.f9
  have g9 := k1.free 9
  go_wp2_with fail
  refine bodyPost_ret (results_none rfl _ _ _) rfl ?_
  exact ⟨rfl, (h.moved m1 b1.undrew h.fit).setA k1 _ _, k1.set9 0, (foot_m b1.undrew).trans (foot_o (Only.set A 9 w1 _))⟩
set_option maxHeartbeats 2000000 in
theorem look_any (h : Sys w P R N T base n c ops fails) (k : IsAct w A P S) (f : Fit N S) :
    Calls Try.prog 81 #[.pointer (some ⟨A, 0, none⟩)] w fun e w' => e = .returned (.tuple #[]) ∧ Sys w' P R N T base n c (wrap64 (ops + 1)) fails ∧ IsAct w' A P ⟨S.put, S.key, S.val, S.first, S.cell, S.h, c S.first, bh (hi (c S.first)), 2, S.found, S.won⟩ ∧ Went (Foot P R A) w w' := by
  have hmf := mkf
  have c0 := k.f0
  have c1 := k.f1
  have hr := f.room
  have K2 := load_in P R N c ops fails w.drew S.first (by omega) h.mem.drew
  have hu := h.fit S.first
  generalize c S.first = x at K2 hu
  have K3 := fun w => split_any x w hu.1 hu.2
  have hv := hi_lt hu.1 hu.2
  have K4 := fun w => behind_any (hi x) w hv.1 hv.2
  generalize hi x = v at K3 K4 hv
  generalize bh v = v2 at K4
  go_enter Try.func81, Try.ntmps81
  go_wp2_with fail
  go_region_held3 (fun u => u.cell? ⟨A, 0, none⟩ = some (.pointer (some ⟨P, 0, none⟩)) ∧ u.cell? ⟨A, 1, none⟩ = some (.int .i64 (S.first : Int))) (first | assumption | exact ⟨c0, c1⟩ | exact ⟨k1.f0, k1.f1⟩ | exact ⟨k2.f0, k2.f1⟩) (first
    | (go_at_call 84; refine K2.mono ?_; clear K2; rintro e w1 ⟨rfl, m1, b1⟩; have k1 : IsAct w1 A P S := k.moved h.mem b1.undrew; have k2 := k1.set7 x; have d7 := k1.f7; have g7 := k1.free 7))
  have e7 := k2.f7
  have e8 := k2.f8
  have g8 := k2.free 8
  have k3 := k2.set8 v2
  have d9 := k3.f9
  have g9 := k3.free 9
  go_wp2_with (first
    | (go_at_call 80; refine (K3 _).mono ?_; rintro e w2 ⟨rfl, rfl⟩)
    | (go_at_call 88; refine (K4 _).mono ?_; rintro e w2 ⟨rfl, rfl⟩))
  go_end0
  exact ⟨rfl, (((h.moved m1 b1.undrew h.fit).setA k1 _ _).setA k2 _ _).setA k3 _ _, k3.set9 2, (foot_m b1.undrew).trans (foot_o (((Only.set A 7 w1 _).trans (Only.set A 8 _ _)).trans (Only.set A 9 _ _)))⟩
set_option maxHeartbeats 2000000 in
/-- A write. -/
theorem write_any (h : Sys w P R N T base n c ops fails) (k : IsAct w A P S) (f : Fit N S) (i : Nat) (hi3 : i ≤ 3) (hc : S.cell = i) :
    Calls Try.prog 97 #[.pointer (some ⟨A, 0, none⟩)] w fun e w' => e = .returned (.tuple #[]) ∧ Sys w' P R N T base n (upd c (S.first + i) (jn S.ver (S.h i))) (wrap64 (ops + 1)) fails ∧ IsAct w' A P ⟨S.put, S.key, S.val, S.first, i + 1, S.h, S.was, S.ver, if i + 1 = 4 then 0 else S.st, S.found, S.won⟩ ∧ Went (Foot P R A) w w' := by
  have c0 := k.f0
  have c1 := k.f1
  have c2 := k.f2
  rw [hc] at c2
  have ch := k.fh (show i < 4 by omega)
  have c8 := k.f8
  have hr := f.room
  have hsm := h.small
  have K2 := store_in P R N c ops fails w.drew (S.first + i) (jn S.ver (S.h i)) (by omega) h.mem.drew
  have K1 := join_any S.ver (S.h i) w.drew f.ver.1 f.ver.2 (f.h i).1 (f.h i).2
  have u : U64 (upd c (S.first + i) (jn S.ver (S.h i))) := upd_fit h.fit (jn_lt f.ver.1 f.ver.2 (f.h i).1 (f.h i).2) _
  have hw : Aside (IntKind.i64.wrap ((S.first : Int) + (i : Int)) = ((S.first + i : Nat) : Int)) := by simp only [Aside]; rw [IntKind.wrap_i64]; omega
  have hw1 : IntKind.i64.wrap ((S.first : Int) + (i : Int)) = (S.first : Int) + (i : Int) := by rw [IntKind.wrap_i64]; omega
  have hi4 : (i : Int) < 4 := by omega
  have hi0 : (0 : Int) ≤ (i : Int) := by omega
  have hA : Aside (∀ {u : World}, IsAct u A P S → u.cell? ⟨A, 2, none⟩ = some (.int .i64 (i : Int))) := fun q => by have := q.f2; rw [hc] at this; exact this
  obtain ⟨st', hst⟩ : ∃ st', (if i + 1 = 4 then 0 else S.st) = st' := ⟨_, rfl⟩
  rw [hst]
  have hsA : Aside ((if i + 1 = 4 then 0 else S.st) = st') := hst
  clear hst
  generalize hf : S.first = fi at *
  generalize hvv : S.ver = vv at *
  generalize hhi : S.h i = y at *
  go_enter Try.func97, Try.ntmps97
  go_wp2_with fail
  go_region_held3 (fun u => u.cell? ⟨A, 0, none⟩ = some (.pointer (some ⟨P, 0, none⟩)) ∧ u.cell? ⟨A, 1, none⟩ = some (.int .i64 (fi : Int)) ∧ u.cell? ⟨A, 2, none⟩ = some (.int .i64 (i : Int)) ∧ u.cell? ⟨A, 3 + i, none⟩ = some (.int .u32 y) ∧ u.cell? ⟨A, 8, none⟩ = some (.int .u32 vv)) (first | assumption | exact ⟨c0, c1, c2, ch, c8⟩ | exact S1) (first
    | (go_at_call 74; refine K1.mono ?_; clear K1; rintro e w1 ⟨rfl, rfl⟩)
    | (go_at_call 104; first | rw [hw.out] | skip; refine K2.mono ?_; clear K2; rintro e w1 ⟨rfl, m1, b1⟩; have k1 : IsAct w1 A P S := k.moved h.mem b1.undrew; have S1 : w1.cell? ⟨A, 0, none⟩ = some (.pointer (some ⟨P, 0, none⟩)) ∧ w1.cell? ⟨A, 1, none⟩ = some (.int .i64 (fi : Int)) ∧ w1.cell? ⟨A, 2, none⟩ = some (.int .i64 (i : Int)) ∧ w1.cell? ⟨A, 3 + i, none⟩ = some (.int .u32 y) ∧ w1.cell? ⟨A, 8, none⟩ = some (.int .u32 vv) := ⟨k1.f0, by have := k1.f1; rw [hf] at this; exact this, hA.out k1, by have := k1.fh (show i < 4 by omega); rw [hhi] at this; exact this, by have := k1.f8; rw [hvv] at this; exact this⟩))
  have d2 := hA.out k1
  have g2 := k1.free 2
  have k2 : IsAct (w1.setCell ⟨A, 2, none⟩ (.int .i64 ((i : Int) + 1))) A P ⟨S.put, S.key, S.val, S.first, i + 1, S.h, S.was, S.ver, S.st, S.found, S.won⟩ := k1.set2 (i + 1)
  have d9 := k2.f9
  have g9 := k2.free 9
  have h1 := h.moved m1 b1.undrew u
  rw [hf, hvv] at k2
  by_cases hi : i = 3
  · have e4 : ((i : Int) + 1 == 4) = true := by simp; omega
    have e5 : Aside (0 = st') := by simp only [Aside]; rw [← hsA.out, if_pos (by omega)]
    clear S1 hi
    go_wp2_with fail
    go_end0
    exact ⟨rfl, (h1.setA k1 _ _).setA k2 _ _, (k2.set9 0).is (by rw [e5.out]), (foot_m b1.undrew).trans (foot_o ((Only.set A 2 w1 _).trans (Only.set A 9 _ _)))⟩
  · have e4 : ((i : Int) + 1 == 4) = false := by simp; omega
    have e5 : ¬ (i : Int) + 1 = 4 := by omega
    have e6 : Aside (S.st = st') := by simp only [Aside]; rw [← hsA.out, if_neg (by omega)]
    clear S1 hi
    go_wp2_with fail
    go_end0
    exact ⟨rfl, h1.setA k1 _ _, k2.is (by rw [e6.out]), (foot_m b1.undrew).trans (foot_o (Only.set A 2 w1 _))⟩
set_option maxHeartbeats 2000000 in
theorem open_any (h : Sys w P R N T base n c ops fails) (k : IsAct w A P S) (f : Fit N S) :
    Calls Try.prog 72 #[.pointer (some ⟨A, 0, none⟩)] w fun e w' => e = .returned (.tuple #[]) ∧ Sys w' P R N T base n c (wrap64 (ops + 1)) fails ∧ IsAct w' A P (if hi (c S.first) = 0 ∨ ¬ lo (c S.first) = S.h 0 then ⟨S.put, S.key, S.val, S.first, S.cell, S.h, S.was, S.ver, 0, S.found, S.won⟩ else ⟨S.put, S.key, S.val, S.first, 1, S.h, S.was, hi (c S.first), 5, S.found, S.won⟩) ∧ Went (Foot P R A) w w' := by
  have hmf := mkf
  have c0 := k.f0
  have c1 := k.f1
  have hr := f.room
  have K2 := load_in P R N c ops fails w.drew S.first (by omega) h.mem.drew
  have hu := h.fit S.first
  have hl := lo_lt (c S.first)
  generalize c S.first = x at K2 hu hl
  have K3 := fun w => split_any x w hu.1 hu.2
  have hv := hi_lt hu.1 hu.2
  generalize hi x = v at K3 hv
  generalize lo x = l at K3 hl
  have hh := f.h 0
  by_cases h0 : v = 0
  · rw [if_pos (.inl h0)]
    subst h0
    go_enter Try.func72, Try.ntmps72
    go_wp2_with fail
    go_region_held3 (fun u => u.cell? ⟨A, 0, none⟩ = some (.pointer (some ⟨P, 0, none⟩)) ∧ u.cell? ⟨A, 1, none⟩ = some (.int .i64 (S.first : Int))) (first | assumption | exact ⟨c0, c1⟩ | exact ⟨k1.f0, k1.f1⟩) (first
      | (go_at_call 84; refine K2.mono ?_; clear K2; rintro e w1 ⟨rfl, m1, b1⟩; have k1 : IsAct w1 A P S := k.moved h.mem b1.undrew; have d9 := k1.f9; have g9 := k1.free 9)
      | (go_at_call 80; refine (K3 _).mono ?_; rintro e w1 ⟨rfl, rfl⟩))
    go_wp2_with fail
    refine bodyPost_ret (results_none rfl _ _ _) rfl ?_
    exact ⟨rfl, (h.moved m1 b1.undrew h.fit).setA k1 _ _, k1.set9 0, (foot_m b1.undrew).trans (foot_o (Only.set A 9 w1 _))⟩
  · have e0 : (v == 0) = false := by simpa using h0
    by_cases h1 : l = S.h 0
    · rw [if_neg (by rintro (q | q); exact h0 q; exact q h1)]
      have e1 : (l != S.h 0) = false := by simpa using h1
      have h1A : Aside (l = S.h 0) := h1
      clear h1
      go_enter Try.func72, Try.ntmps72
      go_wp2_with fail
      go_region_held3 (fun u => u.cell? ⟨A, 0, none⟩ = some (.pointer (some ⟨P, 0, none⟩)) ∧ u.cell? ⟨A, 1, none⟩ = some (.int .i64 (S.first : Int))) (first | assumption | exact ⟨c0, c1⟩ | exact ⟨k1.f0, k1.f1⟩) (first
        | (go_at_call 84; refine K2.mono ?_; clear K2; rintro e w1 ⟨rfl, m1, b1⟩; have k1 : IsAct w1 A P S := k.moved h.mem b1.undrew; have d3 := k1.f3; have d8 := k1.f8; have g8 := k1.free 8; have k2 := k1.set8 v; have d2 := k2.f2; have g2 := k2.free 2; have k3 : IsAct ((w1.setCell ⟨A, 8, none⟩ (.int .u32 v)).setCell ⟨A, 2, none⟩ (.int .i64 1)) A P ⟨S.put, S.key, S.val, S.first, 1, S.h, S.was, v, S.st, S.found, S.won⟩ := k2.set2 1; have d9 := k3.f9; have g9 := k3.free 9)
        | (go_at_call 80; refine (K3 _).mono ?_; rintro e w1 ⟨rfl, rfl⟩))
      go_wp2_with fail
      go_end0
      exact ⟨rfl, (((h.moved m1 b1.undrew h.fit).setA k1 _ _).setA k2 _ _).setA k3 _ _, k3.set9 5, (foot_m b1.undrew).trans (foot_o (((Only.set A 8 w1 _).trans (Only.set A 2 _ _)).trans (Only.set A 9 _ _)))⟩
    · rw [if_pos (.inr h1)]
      have e1 : (l != S.h 0) = true := by simpa using h1
      clear h1
      go_enter Try.func72, Try.ntmps72
      go_wp2_with fail
      go_region_held3 (fun u => u.cell? ⟨A, 0, none⟩ = some (.pointer (some ⟨P, 0, none⟩)) ∧ u.cell? ⟨A, 1, none⟩ = some (.int .i64 (S.first : Int))) (first | assumption | exact ⟨c0, c1⟩ | exact ⟨k1.f0, k1.f1⟩) (first
        | (go_at_call 84; refine K2.mono ?_; clear K2; rintro e w1 ⟨rfl, m1, b1⟩; have k1 : IsAct w1 A P S := k.moved h.mem b1.undrew; have d3 := k1.f3; have d9 := k1.f9; have g9 := k1.free 9)
        | (go_at_call 80; refine (K3 _).mono ?_; rintro e w1 ⟨rfl, rfl⟩))
      go_wp2_with fail
      refine bodyPost_ret (results_none rfl _ _ _) rfl ?_
      exact ⟨rfl, (h.moved m1 b1.undrew h.fit).setA k1 _ _, k1.set9 0, (foot_m b1.undrew).trans (foot_o (Only.set A 9 w1 _))⟩
end
end Go.Proofs.Ytdmfbfbebcneeaa.Ch
