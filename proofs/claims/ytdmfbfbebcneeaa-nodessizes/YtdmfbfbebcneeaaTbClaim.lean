/-
  What a finder's claim and its yield do.
-/
import Derived.Test.YtdmfbfbebcneeaaTbFin
namespace Go.Proofs.Ytdmfbfbebcneeaa.Tb
open Go Go.RowKit
attribute [local go_sem] run_store_nil run_store_func

section
variable {w w' : World} {P R N T base n F : Nat} {c : Nat → Int} {ops fails : Int} {S : Fd}
set_option maxHeartbeats 2000000 in
theorem claim_hit (h : Sys w P R N T base n c ops fails) (k : IsFd w F T S) (hs : S.slot < n) (hx : c (base + S.slot) = 0) :
    Calls Try.prog 94 #[.pointer (some ⟨F, 0, none⟩)] w fun e w' => e = .returned (.tuple #[]) ∧ Sys w' P R N T base n (upd c (base + S.slot) S.key) (wrap64 (ops + 1)) fails ∧ IsFd w' F T S.put ∧ Went (Foot P R F) w w' := by
  have c0 := k.f0
  have c1 := k.f1
  have c2 := k.f2
  have K := swap_hit h.drew S.slot hs S.key hx
  go_enter Try.func94, Try.ntmps94
  go_wp2_with fail
  go_region_with (first
    | (go_at_call 100; refine K.mono ?_; clear K; rintro e w1 ⟨rfl, h1, b1⟩; have k1 : IsFd w1 F T S := k.moved h.mem b1.undrew; have c6 := k1.f6; have g1 := k1.free 6; have k2 := k1.set6 true; have Ke := end_any k2))
  all_goals go_wp2_with (first
    | (go_at_call 93; refine Ke.mono ?_; clear Ke; rintro e w2 ⟨rfl, k3, o2⟩))
  all_goals (refine bodyPost_ret (results_none rfl _ _ _) rfl ?_; exact ⟨rfl, (h1.setF k1 _ _).only k2 o2, k3, (foot_m b1.undrew).trans ((foot_o (Only.set F 6 w1 _)).trans (foot_o o2))⟩)
set_option maxHeartbeats 2000000 in
theorem claim_miss (h : Sys w P R N T base n c ops fails) (k : IsFd w F T S) (hs : S.slot < n) (hx : ¬ c (base + S.slot) = 0) :
    Calls Try.prog 94 #[.pointer (some ⟨F, 0, none⟩)] w fun e w' => e = .returned (.tuple #[]) ∧ Sys w' P R N T base n c (wrap64 (ops + 1)) (wrap64 (fails + 1)) ∧ IsFd w' F T (S.to 3) ∧ Went (Foot P R F) w w' := by
  have hmf := mkf
  have c0 := k.f0
  have c1 := k.f1
  have c2 := k.f2
  have K := swap_miss h.drew S.slot hs S.key hx
  clear hx
  go_enter Try.func94, Try.ntmps94
  go_wp2_with fail
  go_region_with (first
    | (go_at_call 100; refine K.mono ?_; clear K; rintro e w1 ⟨rfl, h1, b1⟩; have k1 : IsFd w1 F T S := k.moved h.mem b1.undrew; have c4 := k1.f4; have g1 := k1.free 4))
  all_goals go_wp2_with fail
  all_goals (go_end0; exact ⟨rfl, h1.setF k1 _ _, k1.set4 3, (foot_m b1.undrew).trans (foot_o (Only.set F 4 w1 _))⟩)
set_option maxHeartbeats 2000000 in
theorem yield_hit (h : Sys w P R N T base n c ops fails) (k : IsFd w F T S) (hs : S.slot < n) (hx : c (base + S.slot) = S.key) :
    Calls Try.prog 101 #[.pointer (some ⟨F, 0, none⟩)] w fun e w' => e = .returned (.tuple #[]) ∧ Sys w' P R N T base n c (wrap64 (ops + 1)) fails ∧ IsFd w' F T S.over ∧ Went (Foot P R F) w w' := by
  have c0 := k.f0
  have c1 := k.f1
  have c2 := k.f2
  have K := load_any h.drew S.slot hs
  rw [hx] at K
  have hd : (S.key == S.key) = true := by simp
  go_enter Try.func101, Try.ntmps101
  go_wp2_with fail
  go_region_with (first
    | (go_at_call 76; refine K.mono ?_; clear K; rintro e w1 ⟨rfl, h1, b1⟩; have k1 : IsFd w1 F T S := k.moved h.mem b1.undrew; have c1' := k1.f1; have Ke := end_any k1))
  all_goals go_wp2_with (first
    | (go_at_call 93; refine Ke.mono ?_; clear Ke; rintro e w2 ⟨rfl, k2, o2⟩))
  all_goals (refine bodyPost_ret (results_none rfl _ _ _) rfl ?_; exact ⟨rfl, h1.only k1 o2, k2, (foot_m b1.undrew).trans (foot_o o2)⟩)
set_option maxHeartbeats 2000000 in
theorem yield_pass (h : Sys w P R N T base n c ops fails) (k : IsFd w F T S) (hs : S.slot < n) (hl : 0 < S.left) (hln : S.left ≤ n) (x : Int) (hx : c (base + S.slot) = x) (h1 : ¬ x = S.key) :
    Calls Try.prog 101 #[.pointer (some ⟨F, 0, none⟩)] w fun e w' => e = .returned (.tuple #[]) ∧ Sys w' P R N T base n c (wrap64 (ops + 1)) fails ∧ IsFd w' F T (S.passed n) ∧ Went (Foot P R F) w w' := by
  have c0 := k.f0
  have c1 := k.f1
  have c2 := k.f2
  have K := load_any h.drew S.slot hs
  rw [hx] at K
  have hd : (x == S.key) = false := by simpa using h1
  go_enter Try.func101, Try.ntmps101
  go_wp2_with fail
  go_region_with (first
    | (go_at_call 76; refine K.mono ?_; clear K; rintro e w1 ⟨rfl, h1, b1⟩; have k1 : IsFd w1 F T S := k.moved h.mem b1.undrew; have c1' := k1.f1; have Kp := pass_any h1 k1 hs hl hln))
  all_goals go_wp2_with (first
    | (go_at_call 95; refine Kp.mono ?_; clear Kp; rintro e w2 ⟨rfl, k2, o2⟩))
  all_goals (go_end0; exact ⟨rfl, h1.only k1 o2, k2, (foot_m b1.undrew).trans (foot_o o2)⟩)
end
end Go.Proofs.Ytdmfbfbebcneeaa.Tb
