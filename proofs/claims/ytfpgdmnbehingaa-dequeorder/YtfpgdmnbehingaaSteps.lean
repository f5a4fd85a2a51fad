/-
  What each step of an act does.
-/
import Derived.Test.YtfpgdmnbehingaaCell
namespace Go.Proofs.Ytfpgdmnbehingaa
open Go Go.RowKit
attribute [local go_sem] run_store_nil run_store_func

section
variable {w w' : World} {P R N T b n A : Nat} {c : Nat → Int} {ops fails : Int} {S : Ac}
theorem dload0 (h : Sys w P R N T b n c ops fails) :
    Calls Try.prog 28 #[.pointer (some ⟨T, 0, none⟩), .int .i64 0] w fun e w' => e = .returned (.int .u64 (c b)) ∧ Sys w' P R N T b n c (wrap64 (ops + 1)) fails ∧ Moved P R w w' := dload_any h 0 (by omega)
theorem dload1 (h : Sys w P R N T b n c ops fails) :
    Calls Try.prog 28 #[.pointer (some ⟨T, 0, none⟩), .int .i64 1] w fun e w' => e = .returned (.int .u64 (c (b + 1))) ∧ Sys w' P R N T b n c (wrap64 (ops + 1)) fails ∧ Moved P R w w' := dload_any h 1 (by omega)
set_option maxHeartbeats 2000000 in
theorem askEnd_any (h : Sys w P R N T b n c ops fails) (k : IsAct w A T S) :
    Calls Try.prog 25 #[.pointer (some ⟨A, 0, none⟩)] w fun e w' => e = .returned (.tuple #[]) ∧ Sys w' P R N T b n c (wrap64 (ops + 1)) fails ∧ IsAct w' A T ⟨S.first, c (b + 1), S.value, S.left, 2, S.got⟩ ∧ Went (Foot P R A) w w' := by
  have hmf := mkf
  have c0 := k.f0
  have K := dload1 h
  generalize c (b + 1) = x at K
  go_enter Try.func25, Try.ntmps25
  go_wp2_with (first
    | (go_at_call 28; refine K.mono ?_; clear K; rintro e w1 ⟨rfl, h1, b1⟩; have k1 : IsAct w1 A T S := k.moved h.mem b1; have d := k1.f2; have g := k1.free 2; have k2 := k1.set2 x; have d5 := k2.f5; have g5 := k2.free 5))
  go_end0
  exact ⟨rfl, (h1.setA k1 _ _).setA k2 _ _, k2.set5 2, (foot_m b1).trans (foot_o ((Only.set A 2 w1 _).trans (Only.set A 5 _ _)))⟩
set_option maxHeartbeats 2000000 in
theorem reach_any (h : Sys w P R N T b n c ops fails) (k : IsAct w A T S) :
    Calls Try.prog 27 #[.pointer (some ⟨A, 0, none⟩)] w fun e w' => e = .returned (.tuple #[]) ∧ Sys w' P R N T b n c (wrap64 (ops + 1)) fails ∧ IsAct w' A T ⟨c b, S.last, S.value, S.left, 11, S.got⟩ ∧ Went (Foot P R A) w w' := by
  have hmf := mkf
  have c0 := k.f0
  have K := dload0 h
  generalize c b = x at K
  go_enter Try.func27, Try.ntmps27
  go_wp2_with (first
    | (go_at_call 28; refine K.mono ?_; clear K; rintro e w1 ⟨rfl, h1, b1⟩; have k1 : IsAct w1 A T S := k.moved h.mem b1; have d := k1.f1; have g := k1.free 1; have k2 := k1.set1 x; have d5 := k2.f5; have g5 := k2.free 5))
  go_end0
  exact ⟨rfl, (h1.setA k1 _ _).setA k2 _ _, k2.set5 11, (foot_m b1).trans (foot_o ((Only.set A 1 w1 _).trans (Only.set A 5 _ _)))⟩
set_option maxHeartbeats 2000000 in
theorem lower_any (h : Sys w P R N T b n c ops fails) (k : IsAct w A T S) :
    Calls Try.prog 26 #[.pointer (some ⟨A, 0, none⟩)] w fun e w' => e = .returned (.tuple #[]) ∧ Sys w' P R N T b n (upd c (b + 1) (w64 (c (b + 1) + 18446744073709551615))) (wrap64 (ops + 1)) fails ∧ IsAct w' A T ⟨S.first, w64 (c (b + 1) + 18446744073709551615), S.value, S.left, 6, S.got⟩ ∧ Went (Foot P R A) w w' := by
  have hmf := mkf
  have c0 := k.f0
  have K := dadd_any h 18446744073709551615
  generalize w64 (c (b + 1) + 18446744073709551615) = x at K
  go_enter Try.func26, Try.ntmps26
  go_wp2_with (first
    | (go_at_call 35; refine K.mono ?_; clear K; rintro e w1 ⟨rfl, h1, b1⟩; have k1 : IsAct w1 A T S := k.moved h.mem b1; have d := k1.f2; have g := k1.free 2; have k2 := k1.set2 x; have d5 := k2.f5; have g5 := k2.free 5))
  go_end0
  exact ⟨rfl, (h1.setA k1 _ _).setA k2 _ _, k2.set5 6, (foot_m b1).trans (foot_o ((Only.set A 2 w1 _).trans (Only.set A 5 _ _)))⟩
set_option maxHeartbeats 2000000 in
theorem show_any (h : Sys w P R N T b n c ops fails) (k : IsAct w A T S) :
    Calls Try.prog 52 #[.pointer (some ⟨A, 0, none⟩)] w fun e w' => e = .returned (.tuple #[]) ∧ Sys w' P R N T b n (upd c (b + 1) (w64 (c (b + 1) + 1))) (wrap64 (ops + 1)) fails ∧ IsAct w' A T ⟨S.first, S.last, S.value, S.left, 0, true⟩ ∧ Went (Foot P R A) w w' := by
  have c0 := k.f0
  have K := dadd_any h 1
  generalize w64 (c (b + 1) + 1) = x at K
  go_enter Try.func52, Try.ntmps52
  go_wp2_with (first
    | (go_at_call 35; refine K.mono ?_; clear K; rintro e w1 ⟨rfl, h1, b1⟩; have k1 : IsAct w1 A T S := k.moved h.mem b1; have K5 := finish_any k1 true)
    | (go_at_call 42; refine K5.mono ?_; clear K5; rintro e w2 ⟨rfl, k2, b2⟩))
  go_end0
  exact ⟨rfl, h1.only k1 b2, k2, (foot_m b1).trans (foot_o b2)⟩
set_option maxHeartbeats 2000000 in
theorem raise_any (h : Sys w P R N T b n c ops fails) (k : IsAct w A T S) :
    Calls Try.prog 45 #[.pointer (some ⟨A, 0, none⟩)] w fun e w' => e = .returned (.tuple #[]) ∧ Sys w' P R N T b n (upd c (b + 1) (w64 (c (b + 1) + 1))) (wrap64 (ops + 1)) fails ∧ IsAct w' A T ⟨S.first, S.last, S.value, S.left, 0, S.got⟩ ∧ Went (Foot P R A) w w' := by
  have c0 := k.f0
  have K := dadd_any h 1
  generalize w64 (c (b + 1) + 1) = x at K
  go_enter Try.func45, Try.ntmps45
  go_wp2_with (first
    | (go_at_call 35; refine K.mono ?_; clear K; rintro e w1 ⟨rfl, h1, b1⟩; have k1 : IsAct w1 A T S := k.moved h.mem b1; have d6 := k1.f6; have K5 := finish_any k1 S.got)
    | (go_at_call 42; refine K5.mono ?_; clear K5; rintro e w2 ⟨rfl, k2, b2⟩))
  go_end0
  exact ⟨rfl, h1.only k1 b2, k2, (foot_m b1).trans (foot_o b2)⟩
set_option maxHeartbeats 2000000 in
theorem askRoom_any (h : Sys w P R N T b n c ops fails) (k : IsAct w A T S) :
    Calls Try.prog 34 #[.pointer (some ⟨A, 0, none⟩)] w fun e w' => e = .returned (.tuple #[]) ∧ Sys w' P R N T b n c (wrap64 (ops + 1)) fails ∧ IsAct w' A T (if (n : Int) ≤ ah (c b) S.last then ⟨c b, S.last, S.value, S.left, 0, false⟩ else ⟨c b, S.last, S.value, S.left, 3, S.got⟩) ∧ Went (Foot P R A) w w' := by
  have hmf := mkf
  have c0 := k.f0
  have K := dload0 h
  generalize c b = x at K
  have K2 := fun w => ahead_any x S.last w
  generalize ah x S.last = y at K2
  by_cases hy : (n : Int) ≤ y
  · rw [if_pos hy]
    have hd : decide ((n : Int) ≤ y) = true := decide_eq_true hy
    clear hy
    go_enter Try.func34, Try.ntmps34
    go_wp2_with (first
      | (go_at_call 28; refine K.mono ?_; clear K; rintro e w1 ⟨rfl, h1, b1⟩; have k1 : IsAct w1 A T S := k.moved h.mem b1; have d := k1.f1; have g := k1.free 1; have k2 := k1.set1 x; have h2 := h1.setA k1 1 (.int .u64 x); have d0 := k2.f0; have d1 := k2.f1; have d2 := k2.f2; have s2 := h2.t2))
    go_quiet (first | (go_at_call 29; exact Calls.quiet_of_same (K2 _)))
    have K5 := finish_any (k2.drewN nq) false
    go_wp2_with (first
      | (go_at_call 42; refine K5.mono ?_; clear K5; rintro e w3 ⟨rfl, k3, b3⟩))
    refine bodyPost_ret (results_none rfl _ _ _) rfl ?_
    exact ⟨rfl, (h2.drewN nq).only (k2.drewN nq) b3, k3, (foot_m b1).trans ((foot_o (Only.set A 1 w1 _)).trans ((Went.drawn _ _ _).trans (foot_o b3)))⟩
  · rw [if_neg hy]
    have hd : decide ((n : Int) ≤ y) = false := decide_eq_false hy
    clear hy
    go_enter Try.func34, Try.ntmps34
    go_wp2_with (first
      | (go_at_call 28; refine K.mono ?_; clear K; rintro e w1 ⟨rfl, h1, b1⟩; have k1 : IsAct w1 A T S := k.moved h.mem b1; have d := k1.f1; have g := k1.free 1; have k2 := k1.set1 x; have h2 := h1.setA k1 1 (.int .u64 x); have d0 := k2.f0; have d1 := k2.f1; have d2 := k2.f2; have s2 := h2.t2))
    go_quiet (first | (go_at_call 29; exact Calls.quiet_of_same (K2 _)))
    have k3 := k2.drewN nq
    have d5 := k3.f5
    have g5 := k3.free 5
    go_wp2_with fail
    go_end0
    exact ⟨rfl, (h2.drewN nq).setA k3 _ _, k3.set5 3, (foot_m b1).trans ((foot_o (Only.set A 1 w1 _)).trans ((Went.drawn _ _ _).trans (foot_o (Only.set A 5 _ _))))⟩
set_option maxHeartbeats 2000000 in
theorem look_any (h : Sys w P R N T b n c ops fails) (k : IsAct w A T S) :
    Calls Try.prog 37 #[.pointer (some ⟨A, 0, none⟩)] w fun e w' => e = .returned (.tuple #[]) ∧ Sys w' P R N T b n c (wrap64 (ops + 1)) fails ∧ IsAct w' A T (if ah S.first (c (b + 1)) < 1 then ⟨S.first, c (b + 1), S.value, S.left, 0, false⟩ else ⟨S.first, c (b + 1), S.value, S.left, 12, S.got⟩) ∧ Went (Foot P R A) w w' := by
  have hmf := mkf
  have c0 := k.f0
  have K := dload1 h
  generalize c (b + 1) = x at K
  have K2 := fun w => ahead_any S.first x w
  generalize ah S.first x = y at K2
  by_cases hy : y < 1
  · rw [if_pos hy]
    have hd : decide (y < 1) = true := decide_eq_true hy
    clear hy
    go_enter Try.func37, Try.ntmps37
    go_wp2_with (first
      | (go_at_call 28; refine K.mono ?_; clear K; rintro e w1 ⟨rfl, h1, b1⟩; have k1 : IsAct w1 A T S := k.moved h.mem b1; have d := k1.f2; have g := k1.free 2; have k2 := k1.set2 x; have h2 := h1.setA k1 2 (.int .u64 x); have d1 := k2.f1; have d2 := k2.f2))
    go_quiet (first | (go_at_call 29; exact Calls.quiet_of_same (K2 _)))
    have K5 := finish_any (k2.drewN nq) false
    go_wp2_with (first
      | (go_at_call 42; refine K5.mono ?_; clear K5; rintro e w3 ⟨rfl, k3, b3⟩))
    refine bodyPost_ret (results_none rfl _ _ _) rfl ?_
    exact ⟨rfl, (h2.drewN nq).only (k2.drewN nq) b3, k3, (foot_m b1).trans ((foot_o (Only.set A 2 w1 _)).trans ((Went.drawn _ _ _).trans (foot_o b3)))⟩
  · rw [if_neg hy]
    have hd : decide (y < 1) = false := decide_eq_false hy
    clear hy
    go_enter Try.func37, Try.ntmps37
    go_wp2_with (first
      | (go_at_call 28; refine K.mono ?_; clear K; rintro e w1 ⟨rfl, h1, b1⟩; have k1 : IsAct w1 A T S := k.moved h.mem b1; have d := k1.f2; have g := k1.free 2; have k2 := k1.set2 x; have h2 := h1.setA k1 2 (.int .u64 x); have d1 := k2.f1; have d2 := k2.f2))
    go_quiet (first | (go_at_call 29; exact Calls.quiet_of_same (K2 _)))
    have k3 := k2.drewN nq
    have d5 := k3.f5
    have g5 := k3.free 5
    go_wp2_with fail
    go_end0
    exact ⟨rfl, (h2.drewN nq).setA k3 _ _, k3.set5 12, (foot_m b1).trans ((foot_o (Only.set A 2 w1 _)).trans ((Went.drawn _ _ _).trans (foot_o (Only.set A 5 _ _))))⟩
set_option maxHeartbeats 2000000 in
theorem askFirst_any (h : Sys w P R N T b n c ops fails) (k : IsAct w A T S) :
    Calls Try.prog 36 #[.pointer (some ⟨A, 0, none⟩)] w fun e w' => e = .returned (.tuple #[]) ∧ Sys w' P R N T b n c (wrap64 (ops + 1)) fails ∧ IsAct w' A T (if ah (c b) S.last < 0 then ⟨c b, S.last, S.value, S.left, 9, S.got⟩ else ⟨c b, S.last, S.value, S.left, 7, S.got⟩) ∧ Went (Foot P R A) w w' := by
  have hmf := mkf
  have c0 := k.f0
  have K := dload0 h
  generalize c b = x at K
  have K2 := fun w => ahead_any x S.last w
  generalize ah x S.last = y at K2
  by_cases hy : y < 0
  · rw [if_pos hy]
    have hd : decide (y < 0) = true := decide_eq_true hy
    clear hy
    go_enter Try.func36, Try.ntmps36
    go_wp2_with (first
      | (go_at_call 28; refine K.mono ?_; clear K; rintro e w1 ⟨rfl, h1, b1⟩; have k1 : IsAct w1 A T S := k.moved h.mem b1; have d := k1.f1; have g := k1.free 1; have k2 := k1.set1 x; have h2 := h1.setA k1 1 (.int .u64 x); have d1 := k2.f1; have d2 := k2.f2))
    go_quiet (first | (go_at_call 29; exact Calls.quiet_of_same (K2 _)))
    have k3 := k2.drewN nq
    have d5 := k3.f5
    have g5 := k3.free 5
    go_wp2_with fail
    refine bodyPost_ret (results_none rfl _ _ _) rfl ?_
    exact ⟨rfl, (h2.drewN nq).setA k3 _ _, k3.set5 9, (foot_m b1).trans ((foot_o (Only.set A 1 w1 _)).trans ((Went.drawn _ _ _).trans (foot_o (Only.set A 5 _ _))))⟩
  · rw [if_neg hy]
    have hd : decide (y < 0) = false := decide_eq_false hy
    clear hy
    go_enter Try.func36, Try.ntmps36
    go_wp2_with (first
      | (go_at_call 28; refine K.mono ?_; clear K; rintro e w1 ⟨rfl, h1, b1⟩; have k1 : IsAct w1 A T S := k.moved h.mem b1; have d := k1.f1; have g := k1.free 1; have k2 := k1.set1 x; have h2 := h1.setA k1 1 (.int .u64 x); have d1 := k2.f1; have d2 := k2.f2))
    go_quiet (first | (go_at_call 29; exact Calls.quiet_of_same (K2 _)))
    have k3 := k2.drewN nq
    have d5 := k3.f5
    have g5 := k3.free 5
    go_wp2_with fail
    go_end0
    exact ⟨rfl, (h2.drewN nq).setA k3 _ _, k3.set5 7, (foot_m b1).trans ((foot_o (Only.set A 1 w1 _)).trans ((Went.drawn _ _ _).trans (foot_o (Only.set A 5 _ _))))⟩

set_option maxHeartbeats 2000000 in
theorem fill_any (h : Sys w P R N T b n c ops fails) (k : IsAct w A T S) (f : Fit S) :
    Calls Try.prog 43 #[.pointer (some ⟨A, 0, none⟩)] w fun e w' => e = .returned (.tuple #[]) ∧ Sys w' P R N T b n (upd c (pl b n S.last) S.value) (wrap64 (ops + 1)) fails ∧ IsAct w' A T ⟨S.first, S.last, S.value, S.left, 4, S.got⟩ ∧ Went (Foot P R A) w w' := by
  have hmf := mkf
  have c0 := k.f0
  have c2 := k.f2
  have c3 := k.f3
  have t0 := h.t0
  have K1 := place_any h.drew S.last f.last.1
  have hpl := pl_lt b S.last h.pos
  have hr := h.room
  have K2 := fun q => store_in P R N c ops fails (w.drewN q) (pl b n S.last) S.value (by omega) (h.mem.drewN q)
  have hu : U64 (upd c (pl b n S.last) S.value) := upd_fit h.fit f.value _
  generalize upd c (pl b n S.last) S.value = c' at K2 hu
  generalize pl b n S.last = y at K1 K2
  clear hpl
  go_enter Try.func43, Try.ntmps43
  go_wp2_with fail
  go_region_held3 (fun u => u.cell? ⟨A, 0, none⟩ = some (.pointer (some ⟨T, 0, none⟩)) ∧ u.cell? ⟨T, 0, none⟩ = some (.pointer (some ⟨P, 0, none⟩)) ∧ u.cell? ⟨A, 2, none⟩ = some (.int .u64 S.last) ∧ u.cell? ⟨A, 3, none⟩ = some (.int .u64 S.value)) (first | assumption | exact ⟨c0, t0, c2, c3⟩ | exact ⟨k1.f0, h1.t0, k1.f2, k1.f3⟩) (first
    | (go_at_call 51; refine K1.mono ?_; clear K1; rintro e w1 ⟨rfl, q1, rfl⟩)
    | (go_at_call 22; refine (K2 _).mono ?_; clear K2; rintro e w1 ⟨rfl, m1, b1⟩; have k1 : IsAct w1 A T S := k.moved h.mem b1.undrewN; have h1 := h.moved m1 b1.undrewN hu))
  have d5 := k1.f5
  have g5 := k1.free 5
  go_wp2_with fail
  go_end0
  exact ⟨rfl, h1.setA k1 _ _, k1.set5 4, (foot_m b1.undrewN).trans (foot_o (Only.set A 5 _ _))⟩
set_option maxHeartbeats 2000000 in
theorem fetch_any (h : Sys w P R N T b n c ops fails) (k : IsAct w A T S) (f : Fit S) :
    Calls Try.prog 47 #[.pointer (some ⟨A, 0, none⟩)] w fun e w' => e = .returned (.tuple #[]) ∧ Sys w' P R N T b n c (wrap64 (ops + 1)) fails ∧ IsAct w' A T ⟨S.first, S.last, c (pl b n S.first), S.left, 13, S.got⟩ ∧ Went (Foot P R A) w w' := by
  have hmf := mkf
  have c0 := k.f0
  have c2 := k.f1
  have t0 := h.t0
  have K1 := place_any h.drew S.first f.first.1
  have hpl := pl_lt b S.first h.pos
  have hr := h.room
  have K2 := fun q => load_in P R N c ops fails (w.drewN q) (pl b n S.first) (by omega) (h.mem.drewN q)
  generalize c (pl b n S.first) = x at K2
  generalize pl b n S.first = y at K1 K2
  clear hpl
  go_enter Try.func47, Try.ntmps47
  go_wp2_with fail
  go_region_held3 (fun u => u.cell? ⟨A, 0, none⟩ = some (.pointer (some ⟨T, 0, none⟩)) ∧ u.cell? ⟨T, 0, none⟩ = some (.pointer (some ⟨P, 0, none⟩)) ∧ u.cell? ⟨A, 1, none⟩ = some (.int .u64 S.first)) (first | assumption | exact ⟨c0, t0, c2⟩ | exact ⟨k1.f0, h1.t0, k1.f1⟩ | exact ⟨k2.f0, h2.t0, k2.f1⟩) (first
    | (go_at_call 51; refine K1.mono ?_; clear K1; rintro e w1 ⟨rfl, q1, rfl⟩)
    | (go_at_call 23; refine (K2 _).mono ?_; clear K2; rintro e w1 ⟨rfl, m1, b1⟩; have k1 : IsAct w1 A T S := k.moved h.mem b1.undrewN; have h1 := h.moved m1 b1.undrewN h.fit; have d3 := k1.f3; have g3 := k1.free 3; have k2 := k1.set3 x; have h2 := h1.setA k1 3 (.int .u64 x)))
  have d5 := k2.f5
  have g5 := k2.free 5
  go_wp2_with fail
  go_end0
  exact ⟨rfl, h2.setA k2 _ _, k2.set5 13, (foot_m b1.undrewN).trans (foot_o ((Only.set A 3 w1 _).trans (Only.set A 5 _ _)))⟩
set_option maxHeartbeats 2000000 in
theorem take_any (h : Sys w P R N T b n c ops fails) (k : IsAct w A T S) (f : Fit S) :
    Calls Try.prog 46 #[.pointer (some ⟨A, 0, none⟩)] w fun e w' => e = .returned (.tuple #[]) ∧ Sys w' P R N T b n c (wrap64 (ops + 1)) fails ∧ IsAct w' A T (if S.first = S.last then ⟨S.first, S.last, c (pl b n S.last), S.left, 8, S.got⟩ else ⟨S.first, S.last, c (pl b n S.last), S.left, 0, true⟩) ∧ Went (Foot P R A) w w' := by
  have hmf := mkf
  have c0 := k.f0
  have c2 := k.f2
  have t0 := h.t0
  have K1 := place_any h.drew S.last f.last.1
  have hpl := pl_lt b S.last h.pos
  have hr := h.room
  have K2 := fun q => load_in P R N c ops fails (w.drewN q) (pl b n S.last) (by omega) (h.mem.drewN q)
  generalize c (pl b n S.last) = x at K2
  generalize pl b n S.last = y at K1 K2
  clear hpl
  by_cases hy : S.first = S.last
  · rw [if_pos hy]
    have hd : (S.first == S.last) = true := by simpa using hy
    clear hy
    go_enter Try.func46, Try.ntmps46
    go_wp2_with fail
    go_region_held3 (fun u => u.cell? ⟨A, 0, none⟩ = some (.pointer (some ⟨T, 0, none⟩)) ∧ u.cell? ⟨T, 0, none⟩ = some (.pointer (some ⟨P, 0, none⟩)) ∧ u.cell? ⟨A, 2, none⟩ = some (.int .u64 S.last)) (first | assumption | exact ⟨c0, t0, c2⟩ | exact ⟨k1.f0, h1.t0, k1.f2⟩ | exact ⟨k2.f0, h2.t0, k2.f2⟩) (first
      | (go_at_call 51; refine K1.mono ?_; clear K1; rintro e w1 ⟨rfl, q1, rfl⟩)
      | (go_at_call 23; refine (K2 _).mono ?_; clear K2; rintro e w1 ⟨rfl, m1, b1⟩; have k1 : IsAct w1 A T S := k.moved h.mem b1.undrewN; have h1 := h.moved m1 b1.undrewN h.fit; have d3 := k1.f3; have g3 := k1.free 3; have k2 := k1.set3 x; have h2 := h1.setA k1 3 (.int .u64 x)))
    have e1 := k2.f1
    have e2 := k2.f2
    go_wp2_with fail
    go_quiet (fail)
    have k3 := k2.drewN nq
    have d5 := k3.f5
    have g5 := k3.free 5
    go_wp2_with fail
    refine bodyPost_ret (results_none rfl _ _ _) rfl ?_
    exact ⟨rfl, (h2.drewN nq).setA k3 _ _, k3.set5 8, (foot_m b1.undrewN).trans ((foot_o (Only.set A 3 w1 _)).trans ((Went.drawn _ _ _).trans (foot_o (Only.set A 5 _ _))))⟩
  · rw [if_neg hy]
    have hd : (S.first == S.last) = false := by simpa using hy
    clear hy
    go_enter Try.func46, Try.ntmps46
    go_wp2_with fail
    go_region_held3 (fun u => u.cell? ⟨A, 0, none⟩ = some (.pointer (some ⟨T, 0, none⟩)) ∧ u.cell? ⟨T, 0, none⟩ = some (.pointer (some ⟨P, 0, none⟩)) ∧ u.cell? ⟨A, 2, none⟩ = some (.int .u64 S.last)) (first | assumption | exact ⟨c0, t0, c2⟩ | exact ⟨k1.f0, h1.t0, k1.f2⟩ | exact ⟨k2.f0, h2.t0, k2.f2⟩) (first
      | (go_at_call 51; refine K1.mono ?_; clear K1; rintro e w1 ⟨rfl, q1, rfl⟩)
      | (go_at_call 23; refine (K2 _).mono ?_; clear K2; rintro e w1 ⟨rfl, m1, b1⟩; have k1 : IsAct w1 A T S := k.moved h.mem b1.undrewN; have h1 := h.moved m1 b1.undrewN h.fit; have d3 := k1.f3; have g3 := k1.free 3; have k2 := k1.set3 x; have h2 := h1.setA k1 3 (.int .u64 x)))
    have e1 := k2.f1
    have e2 := k2.f2
    go_wp2_with fail
    go_quiet (fail)
    have K5 := finish_any (k2.drewN nq) true
    go_wp2_with (first
      | (go_at_call 42; refine K5.mono ?_; clear K5; rintro e w3 ⟨rfl, k3, b3⟩))
    go_end0
    exact ⟨rfl, (h2.drewN nq).only (k2.drewN nq) b3, k3, (foot_m b1.undrewN).trans ((foot_o (Only.set A 3 w1 _)).trans ((Went.drawn _ _ _).trans (foot_o b3)))⟩
set_option maxHeartbeats 2000000 in
theorem contend_hit (h : Sys w P R N T b n c ops fails) (k : IsAct w A T S) (hx : c b = S.first) :
    Calls Try.prog 54 #[.pointer (some ⟨A, 0, none⟩)] w fun e w' => e = .returned (.tuple #[]) ∧ Sys w' P R N T b n (upd c b (w64 (S.first + 1))) (wrap64 (ops + 1)) fails ∧ IsAct w' A T ⟨S.first, S.last, S.value, S.left, 9, true⟩ ∧ Went (Foot P R A) w w' := by
  have hmf := mkf
  have c0 := k.f0
  have c1 := k.f1
  have K := adv_hit h.drew S.first hx
  clear hx
  go_enter Try.func54, Try.ntmps54
  go_wp2_with fail
  go_region_held3 (fun u => u.cell? ⟨A, 0, none⟩ = some (.pointer (some ⟨T, 0, none⟩)) ∧ u.cell? ⟨A, 1, none⟩ = some (.int .u64 S.first)) (first | assumption | exact ⟨c0, c1⟩ | exact ⟨k1.f0, k1.f1⟩ | exact ⟨k2.f0, k2.f1⟩) (first
    | (go_at_call 58; refine K.mono ?_; clear K; rintro e w1 ⟨rfl, h1, b1⟩; have k1 : IsAct w1 A T S := k.moved h.mem b1.undrew; have d6 := k1.f6; have g6 := k1.free 6; have k2 := k1.set6 true))
  have d5 := k2.f5
  have g5 := k2.free 5
  go_wp2_with fail
  go_end0
  exact ⟨rfl, (h1.setA k1 _ _).setA k2 _ _, k2.set5 9, (foot_m b1.undrew).trans (foot_o ((Only.set A 6 w1 _).trans (Only.set A 5 _ _)))⟩
set_option maxHeartbeats 2000000 in
theorem contend_miss (h : Sys w P R N T b n c ops fails) (k : IsAct w A T S) (hx : ¬ c b = S.first) :
    Calls Try.prog 54 #[.pointer (some ⟨A, 0, none⟩)] w fun e w' => e = .returned (.tuple #[]) ∧ Sys w' P R N T b n c (wrap64 (ops + 1)) (wrap64 (fails + 1)) ∧ IsAct w' A T ⟨S.first, S.last, S.value, S.left, 9, false⟩ ∧ Went (Foot P R A) w w' := by
  have hmf := mkf
  have c0 := k.f0
  have c1 := k.f1
  have K := adv_miss h.drew S.first hx
  clear hx
  go_enter Try.func54, Try.ntmps54
  go_wp2_with fail
  go_region_held3 (fun u => u.cell? ⟨A, 0, none⟩ = some (.pointer (some ⟨T, 0, none⟩)) ∧ u.cell? ⟨A, 1, none⟩ = some (.int .u64 S.first)) (first | assumption | exact ⟨c0, c1⟩ | exact ⟨k1.f0, k1.f1⟩ | exact ⟨k2.f0, k2.f1⟩) (first
    | (go_at_call 58; refine K.mono ?_; clear K; rintro e w1 ⟨rfl, h1, b1⟩; have k1 : IsAct w1 A T S := k.moved h.mem b1.undrew; have d6 := k1.f6; have g6 := k1.free 6; have k2 := k1.set6 false))
  have d5 := k2.f5
  have g5 := k2.free 5
  go_wp2_with fail
  go_end0
  exact ⟨rfl, (h1.setA k1 _ _).setA k2 _ _, k2.set5 9, (foot_m b1.undrew).trans (foot_o ((Only.set A 6 w1 _).trans (Only.set A 5 _ _)))⟩
set_option maxHeartbeats 2000000 in
theorem claim_hit (h : Sys w P R N T b n c ops fails) (k : IsAct w A T S) (hx : c b = S.first) :
    Calls Try.prog 55 #[.pointer (some ⟨A, 0, none⟩)] w fun e w' => e = .returned (.tuple #[]) ∧ Sys w' P R N T b n (upd c b (w64 (S.first + 1))) (wrap64 (ops + 1)) fails ∧ IsAct w' A T ⟨S.first, S.last, S.value, S.left, 0, true⟩ ∧ Went (Foot P R A) w w' := by
  have hmf := mkf
  have c0 := k.f0
  have c1 := k.f1
  have K := adv_hit h.drew S.first hx
  clear hx
  go_enter Try.func55, Try.ntmps55
  go_wp2_with fail
  go_region_held3 (fun u => u.cell? ⟨A, 0, none⟩ = some (.pointer (some ⟨T, 0, none⟩)) ∧ u.cell? ⟨A, 1, none⟩ = some (.int .u64 S.first)) (first | assumption | exact ⟨c0, c1⟩ | exact ⟨k1.f0, k1.f1⟩) (first
    | (go_at_call 58; refine K.mono ?_; clear K; rintro e w1 ⟨rfl, h1, b1⟩; have k1 : IsAct w1 A T S := k.moved h.mem b1.undrew; have K5 := finish_any k1 true))
  go_wp2_with (first
    | (go_at_call 42; refine K5.mono ?_; clear K5; rintro e w3 ⟨rfl, k3, b3⟩))
  refine bodyPost_ret (results_none rfl _ _ _) rfl ?_
  exact ⟨rfl, h1.only k1 b3, k3, (foot_m b1.undrew).trans (foot_o b3)⟩
set_option maxHeartbeats 2000000 in
theorem claim_miss (h : Sys w P R N T b n c ops fails) (k : IsAct w A T S) (hx : ¬ c b = S.first) (hl : 1 ≤ S.left) (hl4 : S.left ≤ 4) :
    Calls Try.prog 55 #[.pointer (some ⟨A, 0, none⟩)] w fun e w' => e = .returned (.tuple #[]) ∧ Sys w' P R N T b n c (wrap64 (ops + 1)) (wrap64 (fails + 1)) ∧ IsAct w' A T (if S.left = 1 then ⟨S.first, S.last, S.value, S.left - 1, 0, false⟩ else ⟨S.first, S.last, S.value, S.left - 1, 10, S.got⟩) ∧ Went (Foot P R A) w w' := by
  have hmf := mkf
  have c0 := k.f0
  have c1 := k.f1
  have K := adv_miss h.drew S.first hx
  clear hx
  obtain ⟨l, hl2⟩ : ∃ l : Nat, S.left - 1 = l := ⟨_, rfl⟩
  have hla : Aside (∀ {u : World}, IsAct u A T S → u.cell? ⟨A, 4, none⟩ = some (.int .i64 ((l : Int) + 1))) := fun q => by have := q.f4; rw [show (S.left : Int) = (l : Int) + 1 by omega] at this; exact this
  rw [hl2]
  have hlw : (l : Int) + 1 - 1 = (l : Int) := by omega
  have hlw2 : wrap64 (l : Int) = (l : Int) := by unfold wrap64; omega
  have hll : l ≤ 3 := by omega
  by_cases hy : S.left = 1
  · rw [if_pos hy]
    obtain rfl : l = 0 := by omega
    clear hl2 hl hl4 hy
    go_enter Try.func55, Try.ntmps55
    go_wp2_with fail
    go_region_held3 (fun u => u.cell? ⟨A, 0, none⟩ = some (.pointer (some ⟨T, 0, none⟩)) ∧ u.cell? ⟨A, 1, none⟩ = some (.int .u64 S.first)) (first | assumption | exact ⟨c0, c1⟩ | exact ⟨k1.f0, k1.f1⟩) (first
      | (go_at_call 58; refine K.mono ?_; clear K; rintro e w1 ⟨rfl, h1, b1⟩; have k1 : IsAct w1 A T S := k.moved h.mem b1.undrew; have d4 := hla.out k1; have g4 := k1.free 4; have k2 : IsAct (w1.setCell ⟨A, 4, none⟩ (.int .i64 0)) A T _ := k1.set4 0; have h2 := h1.setA k1 4 (.int .i64 0); have e4 : (w1.setCell ⟨A, 4, none⟩ (.int .i64 0)).cell? ⟨A, 4, none⟩ = some (.int .i64 0) := k2.f4; have K5 := finish_any k2 false))
    go_wp2_with (first
      | (go_at_call 42; refine K5.mono ?_; clear K5; rintro e w3 ⟨rfl, k3, b3⟩))
    refine bodyPost_ret (results_none rfl _ _ _) rfl ?_
    exact ⟨rfl, h2.only k2 b3, k3, (foot_m b1.undrew).trans (foot_o ((Only.set A 4 w1 _).trans b3))⟩
  · rw [if_neg hy]
    have hl0 : ((l : Int) == 0) = false := by simp; omega
    have hl1 : ¬ (l : Int) = 0 := by omega
    clear hl2 hl hl4 hy
    go_enter Try.func55, Try.ntmps55
    go_wp2_with fail
    go_region_held3 (fun u => u.cell? ⟨A, 0, none⟩ = some (.pointer (some ⟨T, 0, none⟩)) ∧ u.cell? ⟨A, 1, none⟩ = some (.int .u64 S.first)) (first | assumption | exact ⟨c0, c1⟩ | exact ⟨k1.f0, k1.f1⟩) (first
      | (go_at_call 58; refine K.mono ?_; clear K; rintro e w1 ⟨rfl, h1, b1⟩; have k1 : IsAct w1 A T S := k.moved h.mem b1.undrew; have d4 := hla.out k1; have g4 := k1.free 4; have k2 := k1.set4 l; have h2 := h1.setA k1 4 (.int .i64 (l : Int)); have e4 := k2.f4; have d5 := k2.f5; have g5 := k2.free 5))
    go_wp2_with fail
    go_end0
    exact ⟨rfl, h2.setA k2 _ _, k2.set5 10, (foot_m b1.undrew).trans (foot_o ((Only.set A 4 w1 _).trans (Only.set A 5 _ _)))⟩
end
end Go.Proofs.Ytfpgdmnbehingaa
