/-
  The statement TruthCounts, walked.
-/
import Derived.Test.YtmfocngdobcfcaaDoorCountsP
namespace Go.Proofs.YtmfocngdobcfcaaDoor
open Go Go.RowKit

theorem run_eqI (a : Int) (w : World) : (binOp .eql 3 (.int .i64 a) (.int .i64 a)).run Tryd.prog w = .ok (.bool true) w := by
  rw [run_eq64]; simp
theorem run_eqU (a : Int) (w : World) : (binOp .eql 5 (.int .u8 a) (.int .u8 a)).run Tryd.prog w = .ok (.bool true) w := by
  rw [run_eq8]; simp

set_option maxRecDepth 100000 in
set_option maxHeartbeats 6400000 in
theorem counts_any (F : Nat → Bool) (adl adv : Option Addr) (L capl n capv : Nat) (T : Nat → Nat → Bool) (V : Nat → Int) (w : World) (hC : Cols w) (hg : Grp w) (hl : TabsAt w adl L T) (hv : IntsAt w adv n V) (hcap : n ≤ capv) :
    Calls Tryd.prog 4 #[tab F, .slice adl L capl, .slice adv n capv] w fun e w' => e = .returned (.bool true) ∧ Below w.heap.size w w' := by
  conv in #[tab F, _, _] => unfold tab
  have TF := (IsTab.newAt (w := w) (n := w.heap.size) (by simp) F)
  have B0 := ((Below.refl _ w).alloc (Nat.le_refl _) (.cells #[.int .u64 (word F 0 : Int), .int .u64 (word F 1 : Int), .int .u64 (word F 2 : Int), .int .u64 (word F 3 : Int)] 24))
  by_cases h4 : 4 < L
  · have h4' : (4 : Int) < (L : Int) := by omega
    go_enter Tryd.func4, Tryd.ntmps4
    go_wp2_with (first
      | (go_at_call 9; generalize (w.alloc (.cells #[.int .u64 (word F 0 : Int), .int .u64 (word F 1 : Int), .int .u64 (word F 2 : Int), .int .u64 (word F 3 : Int)] 24)) = w4 at TF B0 ⊢; refine (known_any _ (hC.kept B0) (hg.kept B0)).mono ?_; rintro e w5 ⟨rfl, b5⟩; have B5 := below_far B0 b5; have C5 := hC.kept B5; have G5 := hg.kept B5; have TF := TF.kept b5; clear b5 B0))
    go_ret
    exact ⟨rfl, B5⟩
  · have h4' : ¬ (4 : Int) < (L : Int) := by omega
    by_cases h10 : 10 < n
    · have h10' : (10 : Int) < (n : Int) := by omega
      go_enter Tryd.func4, Tryd.ntmps4
      go_wp2_with (first
        | (go_at_call 9; generalize (w.alloc (.cells #[.int .u64 (word F 0 : Int), .int .u64 (word F 1 : Int), .int .u64 (word F 2 : Int), .int .u64 (word F 3 : Int)] 24)) = w4 at TF B0 ⊢; refine (known_any _ (hC.kept B0) (hg.kept B0)).mono ?_; rintro e w5 ⟨rfl, b5⟩; have B5 := below_far B0 b5; have C5 := hC.kept B5; have G5 := hg.kept B5; have TF := TF.kept b5; clear b5 B0))
      go_ret
      exact ⟨rfl, B5⟩
    · have h10' : ¬ (10 : Int) < (n : Int) := by omega
      go_enter Tryd.func4, Tryd.ntmps4
      go_wp2_with (first
        | (go_at_call 9; generalize (w.alloc (.cells #[.int .u64 (word F 0 : Int), .int .u64 (word F 1 : Int), .int .u64 (word F 2 : Int), .int .u64 (word F 3 : Int)] 24)) = w4 at TF B0 ⊢; refine (known_any _ (hC.kept B0) (hg.kept B0)).mono ?_; rintro e w5 ⟨rfl, b5⟩; have B5 := below_far B0 b5; have C5 := hC.kept B5; have G5 := hg.kept B5; have TF := TF.kept b5; obtain ⟨f0, f1, f2, f3⟩ := TF.copy; clear b5 B0)
        | (go_at_call 40; refine (pone_is F _ G5).mono ?_; rintro e w6 ⟨⟨x1, b1, hx1, rfl⟩, b6⟩; have TF := TF.kept b6; obtain ⟨f0, f1, f2, f3⟩ := TF.copy)
        | (go_at_call 41; refine (one_is F _).mono ?_; rintro e w7 ⟨⟨x2, b2, hx2, rfl⟩, b7⟩; obtain ⟨rfl, rfl⟩ := hx1.one hx2; have TF := TF.kept b7))
      have B7 := below_far (below_far B5 b6) b7
      have C7 := hC.kept B7
      have G7 := hg.kept B7
      have L7 := hl.kept (Below.mono B7 (Nat.le_refl _))
      have V7 := hv.kept (Below.mono B7 (Nat.le_refl _))
      refine wp_region_vals (fun u => Below w7.heap.size w7 u) [(31, tab F), (32, .int .i64 (countUpto F 256 : Int)), (33, tab F), (34, .int .i64 (countUpto F 256 : Int)), (35, .bool true), (36, .bool true), (37, tab F), (38, .int .u8 (supUpto F 8 : Int)), (39, tab F), (40, .int .u8 (supUpto F 8 : Int)), (41, .bool true), (42, .bool true), (43, .bool true), (44, .int .u8 (x1 : Int)), (45, .int .u8 (x1 : Int)), (46, .bool true), (47, .bool true), (48, .bool true), (49, .bool b1), (50, .bool b1), (51, .bool true), (52, .bool true), (53, .bool true), (54, .slice adl L capl), (55, .slice adv n capv), (56, .int .i64 (sizeN T L V (min n 8) : Int)), (57, .slice adl L capl), (58, .slice adv n capv), (59, .int .i64 (sizeN T L V (min n 8) : Int)), (60, .bool true), (61, .bool true), (6, .bool true)] [31, 32, 33, 34, 35, 36, 37, 38, 39, 40, 41, 42, 43, 44, 45, 46, 47, 48, 49, 50, 51, 52, 53, 54, 55, 56, 57, 58, 59, 60, 61, 6] 62 (by kernel_rfl) (by kernel_rfl) rfl rfl (by decide) rfl rfl (Below.refl _ _).drew ?_ ?_
      · intro i kk hk
        match i, hk with
        | 0, hk => obtain rfl := Option.some.inj hk; exact vok_plain _ rfl rfl rfl (does_val rfl fun ac u hG hL => x_load rfl ((hG.other 3 (by decide)).trans rfl) (run_load24 (TF.kept hG.here)))
        | 1, hk => obtain rfl := Option.some.inj hk; exact vok_plain _ rfl rfl rfl (does_call #[tab F] rfl (fun ac u hG hL => x_call rfl (by have e0 : ac.eval (.tmp 31) = tab F := (hL ⟨0, .data⟩ (by simp) rfl _ rfl); simp only [List.map_toArray, List.map_cons, List.map_nil, e0]) (fun u => call42 _ u)) (callS fun u s => pcount_any F u (G7.kept s)))
        | 2, hk => obtain rfl := Option.some.inj hk; exact vok_plain _ rfl rfl rfl (does_val rfl fun ac u hG hL => x_load rfl ((hG.other 3 (by decide)).trans rfl) (run_load24 (TF.kept hG.here)))
        | 3, hk => obtain rfl := Option.some.inj hk; exact vok_plain _ rfl rfl rfl (does_call #[tab F] rfl (fun ac u hG hL => x_call rfl (by have e0 : ac.eval (.tmp 33) = tab F := (hL ⟨2, .data⟩ (by simp) rfl _ rfl); simp only [List.map_toArray, List.map_cons, List.map_nil, e0]) (fun u => call43 _ u)) (callS fun u _ => count_any F u))
        | 4, hk => obtain rfl := Option.some.inj hk; exact vok_plain _ rfl rfl rfl (does_val rfl fun ac u hG hL => x_bin rfl (hL ⟨1, .data⟩ (by simp) rfl _ rfl) (hL ⟨3, .data⟩ (by simp) rfl _ rfl) (grd_eq64 _ _ _ _ _) (run_eqI _ u))
        | 5, hk => obtain rfl := Option.some.inj hk; exact vok_plain _ rfl rfl rfl (does_val rfl fun ac u hG hL => x_move rfl (hL ⟨4, .data⟩ (by simp) rfl _ rfl))
        | 6, hk => obtain rfl := Option.some.inj hk; exact vok_sure _ rfl rfl 5 true 36 rfl ⟨⟨5, .guard⟩, by simp, rfl, rfl⟩ rfl (does_val rfl fun ac u hG hL => x_load rfl ((hG.other 3 (by decide)).trans rfl) (run_load24 (TF.kept hG.here)))
        | 7, hk => obtain rfl := Option.some.inj hk; exact vok_sure _ rfl rfl 5 true 36 rfl ⟨⟨5, .chain⟩, by simp, rfl, rfl⟩ rfl (does_call #[tab F] rfl (fun ac u hG hL => x_call rfl (by have e0 : ac.eval (.tmp 37) = tab F := (hL ⟨6, .data⟩ (by simp) rfl _ rfl); simp only [List.map_toArray, List.map_cons, List.map_nil, e0]) (fun u => call44 _ u)) (callS fun u s => psupport_any F u (C7.kept s)))
        | 8, hk => obtain rfl := Option.some.inj hk; exact vok_sure _ rfl rfl 5 true 36 rfl ⟨⟨5, .guard⟩, by simp, rfl, rfl⟩ rfl (does_val rfl fun ac u hG hL => x_load rfl ((hG.other 3 (by decide)).trans rfl) (run_load24 (TF.kept hG.here)))
        | 9, hk => obtain rfl := Option.some.inj hk; exact vok_sure _ rfl rfl 5 true 36 rfl ⟨⟨5, .guard⟩, by simp, rfl, rfl⟩ rfl (does_call #[tab F] rfl (fun ac u hG hL => x_call rfl (by have e0 : ac.eval (.tmp 39) = tab F := (hL ⟨8, .data⟩ (by simp) rfl _ rfl); simp only [List.map_toArray, List.map_cons, List.map_nil, e0]) (fun u => call45 _ u)) (callS fun u _ => support_any F u))
        | 10, hk => obtain rfl := Option.some.inj hk; exact vok_sure _ rfl rfl 5 true 36 rfl ⟨⟨5, .guard⟩, by simp, rfl, rfl⟩ rfl (does_val rfl fun ac u hG hL => x_bin rfl (hL ⟨7, .data⟩ (by simp) rfl _ rfl) (hL ⟨9, .data⟩ (by simp) rfl _ rfl) (grd_eq8 _ _ _ _ _) (run_eqU _ u))
        | 11, hk => obtain rfl := Option.some.inj hk; exact vok_plain _ rfl rfl rfl (does_val rfl fun ac u hG hL => x_pick (b := true) rfl (hL ⟨5, .data⟩ (by simp) rfl _ rfl) (hL ⟨10, .data⟩ (by simp) rfl _ rfl))
        | 12, hk => obtain rfl := Option.some.inj hk; exact vok_plain _ rfl rfl rfl (does_val rfl fun ac u hG hL => x_move rfl (hL ⟨11, .data⟩ (by simp) rfl _ rfl))
        | 13, hk => obtain rfl := Option.some.inj hk; exact vok_sure _ rfl rfl 12 true 43 rfl ⟨⟨12, .guard⟩, by simp, rfl, rfl⟩ rfl (does_val rfl fun ac u hG hL => x_move rfl ((hG.other 7 (by decide)).trans rfl))
        | 14, hk => obtain rfl := Option.some.inj hk; exact vok_sure _ rfl rfl 12 true 43 rfl ⟨⟨12, .guard⟩, by simp, rfl, rfl⟩ rfl (does_val rfl fun ac u hG hL => x_move rfl ((hG.other 9 (by decide)).trans rfl))
        | 15, hk => obtain rfl := Option.some.inj hk; exact vok_sure _ rfl rfl 12 true 43 rfl ⟨⟨12, .guard⟩, by simp, rfl, rfl⟩ rfl (does_val rfl fun ac u hG hL => x_bin rfl (hL ⟨13, .data⟩ (by simp) rfl _ rfl) (hL ⟨14, .data⟩ (by simp) rfl _ rfl) (grd_eq8 _ _ _ _ _) (run_eqU _ u))
        | 16, hk => obtain rfl := Option.some.inj hk; exact vok_plain _ rfl rfl rfl (does_val rfl fun ac u hG hL => x_pick (b := true) rfl (hL ⟨12, .data⟩ (by simp) rfl _ rfl) (hL ⟨15, .data⟩ (by simp) rfl _ rfl))
        | 17, hk => obtain rfl := Option.some.inj hk; exact vok_plain _ rfl rfl rfl (does_val rfl fun ac u hG hL => x_move rfl (hL ⟨16, .data⟩ (by simp) rfl _ rfl))
        | 18, hk => obtain rfl := Option.some.inj hk; exact vok_sure _ rfl rfl 17 true 48 rfl ⟨⟨17, .guard⟩, by simp, rfl, rfl⟩ rfl (does_val rfl fun ac u hG hL => x_move rfl ((hG.other 8 (by decide)).trans rfl))
        | 19, hk => obtain rfl := Option.some.inj hk; exact vok_sure _ rfl rfl 17 true 48 rfl ⟨⟨17, .guard⟩, by simp, rfl, rfl⟩ rfl (does_val rfl fun ac u hG hL => x_move rfl ((hG.other 10 (by decide)).trans rfl))
        | 20, hk => obtain rfl := Option.some.inj hk; exact vok_sure _ rfl rfl 17 true 48 rfl ⟨⟨17, .guard⟩, by simp, rfl, rfl⟩ rfl (does_val rfl fun ac u hG hL => x_bin rfl (hL ⟨18, .data⟩ (by simp) rfl _ rfl) (hL ⟨19, .data⟩ (by simp) rfl _ rfl) (grd_eqB _ _ _ _ _) (run_eqT rfl u))
        | 21, hk => obtain rfl := Option.some.inj hk; exact vok_plain _ rfl rfl rfl (does_val rfl fun ac u hG hL => x_pick (b := true) rfl (hL ⟨17, .data⟩ (by simp) rfl _ rfl) (hL ⟨20, .data⟩ (by simp) rfl _ rfl))
        | 22, hk => obtain rfl := Option.some.inj hk; exact vok_plain _ rfl rfl rfl (does_val rfl fun ac u hG hL => x_move rfl (hL ⟨21, .data⟩ (by simp) rfl _ rfl))
        | 23, hk => obtain rfl := Option.some.inj hk; exact vok_sure _ rfl rfl 22 true 53 rfl ⟨⟨22, .guard⟩, by simp, rfl, rfl⟩ rfl (does_val rfl fun ac u hG hL => x_move rfl ((hG.other 1 (by decide)).trans rfl))
        | 24, hk => obtain rfl := Option.some.inj hk; exact vok_sure _ rfl rfl 22 true 53 rfl ⟨⟨22, .guard⟩, by simp, rfl, rfl⟩ rfl (does_val rfl fun ac u hG hL => x_move rfl ((hG.other 2 (by decide)).trans rfl))
        | 25, hk => obtain rfl := Option.some.inj hk; exact vok_sure _ rfl rfl 22 true 53 rfl ⟨⟨22, .chain⟩, by simp, rfl, rfl⟩ rfl (does_call #[.slice adl L capl, .slice adv n capv] rfl (fun ac u hG hL => x_call rfl (by have e0 : ac.eval (.tmp 54) = .slice adl L capl := (hL ⟨23, .data⟩ (by simp) rfl _ rfl); have e1 : ac.eval (.tmp 55) = .slice adv n capv := (hL ⟨24, .data⟩ (by simp) rfl _ rfl); simp only [List.map_toArray, List.map_cons, List.map_nil, e0, e1]) (fun u => call46 _ u)) (callS fun u s => psize_any adl adv L capl n capv T V u (C7.kept s) (L7.kept s) (V7.kept s) (by omega) (by omega) hcap))
        | 26, hk => obtain rfl := Option.some.inj hk; exact vok_sure _ rfl rfl 22 true 53 rfl ⟨⟨22, .guard⟩, by simp, rfl, rfl⟩ rfl (does_val rfl fun ac u hG hL => x_move rfl ((hG.other 1 (by decide)).trans rfl))
        | 27, hk => obtain rfl := Option.some.inj hk; exact vok_sure _ rfl rfl 22 true 53 rfl ⟨⟨22, .guard⟩, by simp, rfl, rfl⟩ rfl (does_val rfl fun ac u hG hL => x_move rfl ((hG.other 2 (by decide)).trans rfl))
        | 28, hk => obtain rfl := Option.some.inj hk; exact vok_sure _ rfl rfl 22 true 53 rfl ⟨⟨22, .guard⟩, by simp, rfl, rfl⟩ rfl (does_call #[.slice adl L capl, .slice adv n capv] rfl (fun ac u hG hL => x_call rfl (by have e0 : ac.eval (.tmp 57) = .slice adl L capl := (hL ⟨26, .data⟩ (by simp) rfl _ rfl); have e1 : ac.eval (.tmp 58) = .slice adv n capv := (hL ⟨27, .data⟩ (by simp) rfl _ rfl); simp only [List.map_toArray, List.map_cons, List.map_nil, e0, e1]) (fun u => call47 _ u)) (callS fun u s => size_any adl adv L capl n capv T V u (by omega) (by omega) (L7.kept s) (V7.kept s)))
        | 29, hk => obtain rfl := Option.some.inj hk; exact vok_sure _ rfl rfl 22 true 53 rfl ⟨⟨22, .guard⟩, by simp, rfl, rfl⟩ rfl (does_val rfl fun ac u hG hL => x_bin rfl (hL ⟨25, .data⟩ (by simp) rfl _ rfl) (hL ⟨28, .data⟩ (by simp) rfl _ rfl) (grd_eq64 _ _ _ _ _) (run_eqI _ u))
        | 30, hk => obtain rfl := Option.some.inj hk; exact vok_plain _ rfl rfl rfl (does_val rfl fun ac u hG hL => x_pick (b := true) rfl (hL ⟨22, .data⟩ (by simp) rfl _ rfl) (hL ⟨29, .data⟩ (by simp) rfl _ rfl))
        | 31, hk => obtain rfl := Option.some.inj hk; exact vok_plain _ rfl rfl rfl (does_val rfl fun ac u hG hL => x_assign rfl (hL ⟨30, .data⟩ (by simp) rfl _ rfl))
        | i + 32, hk => simp at hk
      · intro w8 S8
        simp only [vfin, Act.put, List.setIfInBounds_toArray, List.set_cons_succ, List.set_cons_zero]
        go_wp2_with fail
        go_ret
        exact ⟨rfl, below_far B7 S8⟩
end Go.Proofs.YtmfocngdobcfcaaDoor
