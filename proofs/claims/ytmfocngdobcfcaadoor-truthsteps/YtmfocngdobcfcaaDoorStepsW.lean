/-
  The statement TruthSteps, walked.
-/
import Derived.Test.YtmfocngdobcfcaaDoorStepsP
import Derived.Test.YtmfocngdobcfcaaDoorValsq
namespace Go.Proofs.YtmfocngdobcfcaaDoor
open Go Go.RowKit

set_option maxRecDepth 100000 in
set_option maxHeartbeats 6400000 in
theorem steps_any (F G : Nat → Bool) (x : Nat) (hx : x < 256) (w : World) (hC : Cols w) (hg : Grp w) :
    Calls Tryd.prog 6 #[tab F, tab G, .int .u8 (x : Int)] w fun e w' => e = .returned (.bool true) ∧ Below w.heap.size w w' := by
  conv in #[tab F, tab G, _] => unfold tab
  have s1 : bits .and .u8 (supUpto (nextF (resUpto F 170 0 8) G) 8 : Int) 170 = 0 := sup_free _ 170 (next_free (resUpto F 170 0 8) G) (by decide)
  have s2 : bits .and .u8 (supUpto (prevF (resUpto F 170 0 8) G) 8 : Int) 170 = 0 := sup_free _ 170 (prev_free (resUpto F 170 0 8) G) (by decide)
  have n1 := next_came (resUpto F 170 0 8) G x
  have n2 := prev_goes (resUpto F 170 0 8) G x
  have TF := ((IsTab.newAt (w := w) (n := w.heap.size) (by simp) F).alloc (.cells #[.int .u64 (word G 0 : Int), .int .u64 (word G 1 : Int), .int .u64 (word G 2 : Int), .int .u64 (word G 3 : Int)] 24))
  have TG := (IsTab.newAt (w := (w.alloc (.cells #[.int .u64 (word F 0 : Int), .int .u64 (word F 1 : Int), .int .u64 (word F 2 : Int), .int .u64 (word F 3 : Int)] 24))) (n := w.heap.size + 1) (by simp) G)
  have B0 := (((Below.refl _ w).alloc (Nat.le_refl _) (.cells #[.int .u64 (word F 0 : Int), .int .u64 (word F 1 : Int), .int .u64 (word F 2 : Int), .int .u64 (word F 3 : Int)] 24)).alloc (by simp) (.cells #[.int .u64 (word G 0 : Int), .int .u64 (word G 1 : Int), .int .u64 (word G 2 : Int), .int .u64 (word G 3 : Int)] 24))
  go_enter Tryd.func6, Tryd.ntmps6
  go_wp2_with (first
    | (go_at_call 9; generalize ((w.alloc (.cells #[.int .u64 (word F 0 : Int), .int .u64 (word F 1 : Int), .int .u64 (word F 2 : Int), .int .u64 (word F 3 : Int)] 24)).alloc (.cells #[.int .u64 (word G 0 : Int), .int .u64 (word G 1 : Int), .int .u64 (word G 2 : Int), .int .u64 (word G 3 : Int)] 24)) = w4 at TF TG B0 ⊢; refine (known_any _ (hC.kept B0) (hg.kept B0)).mono ?_; rintro e w5 ⟨rfl, b5⟩; have B5 := below_far B0 b5; have C5 := hC.kept B5; have G5 := hg.kept B5; have TF := TF.kept b5; have TG := TG.kept b5; obtain ⟨f0, f1, f2, f3⟩ := TF.copy; clear b5 B0)
    | (go_at_call 32; refine (prestrict_any F 170 0 (by decide) (by decide) _ C5).mono ?_; unfold tab; rintro e w6 ⟨rfl, b6⟩; have B6 := below_far B5 b6; have TG6 := TG.kept b6; have C6 := C5.kept b6))
  obtain ⟨n6, hn6⟩ : ∃ n6, n6 = w6.heap.size := ⟨_, rfl⟩
  have TS := IsTab.newAt (w := w6) (n := n6) hn6.symm (resUpto F 170 0 8)
  have TG7 := TG6.alloc (.cells #[.int .u64 (word (resUpto F 170 0 8) 0 : Int), .int .u64 (word (resUpto F 170 0 8) 1 : Int), .int .u64 (word (resUpto F 170 0 8) 2 : Int), .int .u64 (word (resUpto F 170 0 8) 3 : Int)] 24)
  have C7 := C6.kept ((Below.refl _ w6).alloc (Nat.le_refl _) (.cells #[.int .u64 (word (resUpto F 170 0 8) 0 : Int), .int .u64 (word (resUpto F 170 0 8) 1 : Int), .int .u64 (word (resUpto F 170 0 8) 2 : Int), .int .u64 (word (resUpto F 170 0 8) 3 : Int)] 24))
  have B7 := B6.alloc B6.size (.cells #[.int .u64 (word (resUpto F 170 0 8) 0 : Int), .int .u64 (word (resUpto F 170 0 8) 1 : Int), .int .u64 (word (resUpto F 170 0 8) 2 : Int), .int .u64 (word (resUpto F 170 0 8) 3 : Int)] 24)
  rw [← hn6]
  generalize w6.alloc (.cells #[.int .u64 (word (resUpto F 170 0 8) 0 : Int), .int .u64 (word (resUpto F 170 0 8) 1 : Int), .int .u64 (word (resUpto F 170 0 8) 2 : Int), .int .u64 (word (resUpto F 170 0 8) 3 : Int)] 24) = w7 at TS TG7 B7 C7 ⊢
  generalize (resUpto F 170 0 8) = S at *
  clear TG6 B6 C6 hn6 b6 f0 f1 f2 f3 TF TG B5 C5 G5
  refine wp_region_tabs' [.val 18 (tab S), .val 19 (tab G), .val 20 (tab (nextF S G)), .val 21 (tab S), .val 22 (tab G), .val 23 (tab (prevF S G)), .new 8, .new 9, .put 8 (nextF S G), .put 9 (prevF S G)] [18, 19, 20, 21, 22, 23, 8, 9] [8, 9] [8, 9] 87 (by kernel_rfl) (by kernel_rfl) rfl rfl rfl rfl (by decide) (by decide) rfl rfl ?_ ?_ ?_
  · intro s hs b hb
    simp at hs
    rcases hs with rfl | rfl <;> simp [slot, undef, ptr] at hb
  · intro i kk hk
    match i, hk with
    | 0, hk => obtain rfl := Option.some.inj hk; exact ⟨_, rfl, rfl, rfl, fun a u hG hpre K hK => wp_load (b := n6) rfl rfl ((hG.other 7 (by decide)).trans rfl) (TS.kept hG.below) hK⟩
    | 1, hk => obtain rfl := Option.some.inj hk; exact ⟨_, rfl, rfl, rfl, fun a u hG hpre K hK => wp_load (b := w.heap.size + 1) rfl rfl ((hG.other 4 (by decide)).trans rfl) (TG7.kept hG.below) hK⟩
    | 2, hk =>
      obtain rfl := Option.some.inj hk
      refine ⟨_, rfl, rfl, rfl, fun ac u hG hpre K hK => ?_⟩
      have e0 : ac.eval (.tmp 18) = tab S := hpre ⟨0, .data⟩ (by simp) rfl _ rfl
      have e1 : ac.eval (.tmp 19) = tab G := hpre ⟨1, .data⟩ (by simp) rfl _ rfl
      exact wp_call rfl (run_call rfl #[tab S, tab G] (fun vs => call36 vs u) (by simp only [List.map_toArray, List.map_cons, List.map_nil, e0, e1])) (pnext_any S G u (C7.kept hG.below)) hK
    | 3, hk => obtain rfl := Option.some.inj hk; exact ⟨_, rfl, rfl, rfl, fun a u hG hpre K hK => wp_load (b := n6) rfl rfl ((hG.other 7 (by decide)).trans rfl) (TS.kept hG.below) hK⟩
    | 4, hk => obtain rfl := Option.some.inj hk; exact ⟨_, rfl, rfl, rfl, fun a u hG hpre K hK => wp_load (b := w.heap.size + 1) rfl rfl ((hG.other 4 (by decide)).trans rfl) (TG7.kept hG.below) hK⟩
    | 5, hk =>
      obtain rfl := Option.some.inj hk
      refine ⟨_, rfl, rfl, rfl, fun ac u hG hpre K hK => ?_⟩
      have e0 : ac.eval (.tmp 21) = tab S := hpre ⟨3, .data⟩ (by simp) rfl _ rfl
      have e1 : ac.eval (.tmp 22) = tab G := hpre ⟨4, .data⟩ (by simp) rfl _ rfl
      exact wp_call rfl (run_call rfl #[tab S, tab G] (fun vs => call38 vs u) (by simp only [List.map_toArray, List.map_cons, List.map_nil, e0, e1])) (pprev_any S G u (C7.kept hG.below)) hK
    | 6, hk => obtain rfl := Option.some.inj hk; exact ⟨_, rfl, rfl, rfl, rfl⟩
    | 7, hk => obtain rfl := Option.some.inj hk; exact ⟨_, rfl, rfl, rfl, rfl⟩
    | 8, hk => obtain rfl := Option.some.inj hk; exact ⟨_, rfl, rfl, rfl, 20, rfl, ⟨⟨2, .data⟩, by simp, rfl, rfl⟩, ⟨⟨6, .data⟩, by simp, rfl, rfl⟩⟩
    | 9, hk => obtain rfl := Option.some.inj hk; exact ⟨_, rfl, rfl, rfl, 23, rfl, ⟨⟨5, .data⟩, by simp, rfl, rfl⟩, ⟨⟨7, .data⟩, by simp, rfl, rfl⟩⟩
    | i + 10, hk => simp at hk
  · intro bp w8 hb8 hnew hne hput
    have TN := hput 8 (nextF S G) (by simp)
    have TP := hput 9 (prevF S G) (by simp)
    clear hput hnew hne
    simp only [fin, Kind.dst?, kval, Act.put, ptr, List.setIfInBounds_toArray, List.set_cons_succ, List.set_cons_zero]
    generalize bp 8 = p8 at TN ⊢
    generalize bp 9 = p9 at TP ⊢
    have TS := TS.kept hb8
    have TG8 := TG7.kept hb8
    have B8 := below_far B7 hb8
    clear hb8 TG7 C7
    obtain ⟨q, hq⟩ : ∃ q, q = x &&& 85 := ⟨_, rfl⟩
    have hq9 : q < 256 := by rw [hq]; exact and85_lt x
    rw [← hq] at n1 n2
    have HQ : Hid (q = x &&& 85) := hq
    have HN : Hid (nextF S G x = cameU S G q 256) := n1
    have HP : Hid (prevF S G x = goesU S G q 256) := n2
    have H1 : Hid _ := s1
    have H2 : Hid _ := s2
    clear hq n1 n2 s1 s2
    go_wp2_with fail
    go_loopg [10, 11, 12] 256 (fun g sc sg si wr => ∃ y : Nat, y + g = 256 ∧ si = .int .i64 (y : Int) ∧ sc = .bool (cameU S G q y) ∧ sg = .bool (goesU S G q y) ∧ IsTab wr n6 S ∧ IsTab wr (w.heap.size + 1) G ∧ IsTab wr p8 (nextF S G) ∧ IsTab wr p9 (prevF S G) ∧ Below w.heap.size w wr)
    case atStart => exact ⟨0, by omega, rfl, rfl, rfl, TS, TG8, TN, TP, B8⟩
    case round =>
      clear TS TG8 TN TP B8
      obtain ⟨y, hy, rfl, rfl, rfl, TS, TG, TN, TP, hB⟩ := hrel
      have hY : Aside (y + gk = 256) := hy
      clear hy
      by_cases hy9 : y < 256
      · have hy9' : (y : Int) < 256 := by omega
        have hwy : IntKind.u8.wrap (y : Int) = (y : Int) := by rw [IntKind.wrap_u8]; omega
        have hcs : Aside (cameU S G q (y + 1) = (cameU S G q y || ((G y && S y) && decide (evN y = q)))) := rfl
        have hgs : Aside (goesU S G q (y + 1) = (goesU S G q y || ((G y && decide (y &&& 85 = q)) && S (evN y)))) := rfl
        generalize cameU S G q y = m1 at hcs ⊢
        generalize goesU S G q y = m2 at hgs ⊢
        go_upto_region 10 with fail
        refine wp_region_valsq (fun u => Below wr.heap.size wr u) [(30, tab G), (31, .int .u8 (y : Int)), (32, .bool (G y)), (33, .bool (G y)), (34, gval (G y) true (tab S)), (35, gval (G y) true (.int .u8 (y : Int))), (36, gval (G y) true (.bool (S y))), (37, .bool ((G y) && (S y))), (38, .bool ((G y) && (S y))), (39, gval ((G y) && (S y)) true (.int .u8 (y : Int))), (40, gval ((G y) && (S y)) true (.int .u8 ((y / 2 : Nat) : Int))), (41, gval ((G y) && (S y)) true (.int .u8 ((evN y : Nat) : Int))), (42, gval ((G y) && (S y)) true (.int .u8 (x : Int))), (43, gval ((G y) && (S y)) true (.int .u8 ((q : Nat) : Int))), (44, gval ((G y) && (S y)) true (.bool (decide (evN y = q)))), (45, .bool (((G y) && (S y)) && (decide (evN y = q))))] [30, 31, 32, 33, 34, 35, 36, 37, 38, 39, 40, 41, 42, 43, 44, 45] 87 (by kernel_rfl) rfl rfl (by decide) rfl rfl (Below.refl _ _) ?_ ?_
        · intro i kk hk
          match i, hk with
          | 0, hk => obtain rfl := Option.some.inj hk; exact vok_plain _ rfl rfl rfl (does_val rfl fun ac u hG hL => x_load rfl ((hG.other 4 (by decide)).trans rfl) (run_load24 (TG.kept hG.here)))
          | 1, hk => obtain rfl := Option.some.inj hk; exact vok_plain _ rfl rfl rfl (does_val rfl fun ac u hG hL => x_move rfl ((hG.other 13 (by decide)).trans rfl))
          | 2, hk => obtain rfl := Option.some.inj hk; exact vok_plain _ rfl rfl rfl (does_call #[tab G, .int .u8 (y : Int)] rfl (fun ac u hG hL => x_call rfl (by have e0 : ac.eval (.tmp 30) = tab G := (hL ⟨0, .data⟩ (by simp) rfl _ rfl); have e1 : ac.eval (.tmp 31) = .int .u8 (y : Int) := (hL ⟨1, .data⟩ (by simp) rfl _ rfl); simp only [List.map_toArray, List.map_cons, List.map_nil, e0, e1]) (fun u => call24 _ u)) (callS fun u _ => peval_any G y hy9 u))
          | 3, hk => obtain rfl := Option.some.inj hk; exact vok_plain _ rfl rfl rfl (does_val rfl fun ac u hG hL => x_move rfl (hL ⟨2, .data⟩ (by simp) rfl _ rfl))
          | 4, hk => obtain rfl := Option.some.inj hk; exact vok_maybe _ rfl rfl 3 true 33 (G y) rfl ⟨⟨3, .guard⟩, by simp, rfl, rfl⟩ rfl (fun h => gval_neg h) (fun hg => does_if hg (does_val rfl fun ac u hG hL => x_load rfl ((hG.other 7 (by decide)).trans rfl) (run_load24 (TS.kept hG.here))))
          | 5, hk => obtain rfl := Option.some.inj hk; exact vok_maybe _ rfl rfl 3 true 33 (G y) rfl ⟨⟨3, .guard⟩, by simp, rfl, rfl⟩ rfl (fun h => gval_neg h) (fun hg => does_if hg (does_val rfl fun ac u hG hL => x_move rfl ((hG.other 13 (by decide)).trans rfl)))
          | 6, hk => obtain rfl := Option.some.inj hk; exact vok_maybe _ rfl rfl 3 true 33 (G y) rfl ⟨⟨3, .chain⟩, by simp, rfl, rfl⟩ rfl (fun h => gval_neg h) (fun hg => does_if hg (does_call #[tab S, .int .u8 (y : Int)] rfl (fun ac u hG hL => x_call rfl (by have e0 : ac.eval (.tmp 34) = tab S := ((hL ⟨4, .data⟩ (by simp) rfl _ rfl).trans (gval_pos hg)); have e1 : ac.eval (.tmp 35) = .int .u8 (y : Int) := ((hL ⟨5, .data⟩ (by simp) rfl _ rfl).trans (gval_pos hg)); simp only [List.map_toArray, List.map_cons, List.map_nil, e0, e1]) (fun u => call24 _ u)) (callS fun u _ => peval_any S y hy9 u)))
          | 7, hk => obtain rfl := Option.some.inj hk; exact vok_plain _ rfl rfl rfl (does_val rfl fun ac u hG hL => x_pick (b := (G y)) rfl (hL ⟨3, .data⟩ (by simp) rfl _ rfl) (pick_and (hL ⟨6, .data⟩ (by simp) rfl _ rfl) rfl))
          | 8, hk => obtain rfl := Option.some.inj hk; exact vok_plain _ rfl rfl rfl (does_val rfl fun ac u hG hL => x_move rfl (hL ⟨7, .data⟩ (by simp) rfl _ rfl))
          | 9, hk => obtain rfl := Option.some.inj hk; exact vok_maybe _ rfl rfl 8 true 38 ((G y) && (S y)) rfl ⟨⟨8, .guard⟩, by simp, rfl, rfl⟩ rfl (fun h => gval_neg h) (fun hg => does_if hg (does_val rfl fun ac u hG hL => x_move rfl ((hG.other 13 (by decide)).trans rfl)))
          | 10, hk => obtain rfl := Option.some.inj hk; exact vok_maybe _ rfl rfl 8 true 38 ((G y) && (S y)) rfl ⟨⟨8, .guard⟩, by simp, rfl, rfl⟩ rfl (fun h => gval_neg h) (fun hg => does_if hg (does_val rfl fun ac u hG hL => x_bin rfl ((hL ⟨9, .data⟩ (by simp) rfl _ rfl).trans (gval_pos hg)) rfl (grd_shr8 _ _ _ _ _) (run_shr1 y u)))
          | 11, hk => obtain rfl := Option.some.inj hk; exact vok_maybe _ rfl rfl 8 true 38 ((G y) && (S y)) rfl ⟨⟨8, .guard⟩, by simp, rfl, rfl⟩ rfl (fun h => gval_neg h) (fun hg => does_if hg (does_val rfl fun ac u hG hL => x_bin rfl ((hL ⟨10, .data⟩ (by simp) rfl _ rfl).trans (gval_pos hg)) rfl (grd_and8 _ _ _ _ _) (run_and85 (y / 2) (by omega) u)))
          | 12, hk => obtain rfl := Option.some.inj hk; exact vok_maybe _ rfl rfl 8 true 38 ((G y) && (S y)) rfl ⟨⟨8, .guard⟩, by simp, rfl, rfl⟩ rfl (fun h => gval_neg h) (fun hg => does_if hg (does_val rfl fun ac u hG hL => x_move rfl ((hG.other 2 (by decide)).trans rfl)))
          | 13, hk => obtain rfl := Option.some.inj hk; exact vok_maybe _ rfl rfl 8 true 38 ((G y) && (S y)) rfl ⟨⟨8, .guard⟩, by simp, rfl, rfl⟩ rfl (fun h => gval_neg h) (fun hg => does_if hg (does_val rfl fun ac u hG hL => x_bin rfl ((hL ⟨12, .data⟩ (by simp) rfl _ rfl).trans (gval_pos hg)) rfl (grd_and8 _ _ _ _ _) (by rw [HQ.out]; exact run_and85 x hx u)))
          | 14, hk => obtain rfl := Option.some.inj hk; exact vok_maybe _ rfl rfl 8 true 38 ((G y) && (S y)) rfl ⟨⟨8, .guard⟩, by simp, rfl, rfl⟩ rfl (fun h => gval_neg h) (fun hg => does_if hg (does_val rfl fun ac u hG hL => x_bin rfl ((hL ⟨11, .data⟩ (by simp) rfl _ rfl).trans (gval_pos hg)) ((hL ⟨13, .data⟩ (by simp) rfl _ rfl).trans (gval_pos hg)) (grd_eq8 _ _ _ _ _) (run_eqN8 _ _ u)))
          | 15, hk => obtain rfl := Option.some.inj hk; exact vok_plain _ rfl rfl rfl (does_val rfl fun ac u hG hL => x_pick (b := ((G y) && (S y))) rfl (hL ⟨8, .data⟩ (by simp) rfl _ rfl) (pick_and (hL ⟨14, .data⟩ (by simp) rfl _ rfl) rfl))
          | i + 16, hk => simp at hk
        · intro wa ba
          simp only [vfin, Act.put, List.setIfInBounds_toArray, List.set_cons_succ, List.set_cons_zero]
          have TS := TS.kept ba
          have TG := TG.kept ba
          have TN := TN.kept ba
          have TP := TP.kept ba
          have hB := below_far hB ba
          generalize ((G y && S y) && decide (evN y = q)) = c1 at hcs ⊢
          cases c1 with
          | true =>
            go_upto_region 12 with fail
            refine wp_region_valsq (fun u => Below wa.heap.size wa u) [(46, tab G), (47, .int .u8 (y : Int)), (48, .bool (G y)), (49, .bool (G y)), (50, gval (G y) true (.int .u8 (y : Int))), (51, gval (G y) true (.int .u8 ((y &&& 85 : Nat) : Int))), (52, gval (G y) true (.int .u8 (x : Int))), (53, gval (G y) true (.int .u8 ((q : Nat) : Int))), (54, gval (G y) true (.bool (decide (y &&& 85 = q)))), (55, .bool ((G y) && (decide (y &&& 85 = q)))), (56, .bool ((G y) && (decide (y &&& 85 = q)))), (57, gval ((G y) && (decide (y &&& 85 = q))) true (tab S)), (58, gval ((G y) && (decide (y &&& 85 = q))) true (.int .u8 (y : Int))), (59, gval ((G y) && (decide (y &&& 85 = q))) true (.int .u8 ((y / 2 : Nat) : Int))), (60, gval ((G y) && (decide (y &&& 85 = q))) true (.int .u8 ((evN y : Nat) : Int))), (61, gval ((G y) && (decide (y &&& 85 = q))) true (.bool (S (evN y)))), (62, .bool (((G y) && (decide (y &&& 85 = q))) && (S (evN y))))] [46, 47, 48, 49, 50, 51, 52, 53, 54, 55, 56, 57, 58, 59, 60, 61, 62] 87 (by kernel_rfl) rfl rfl (by decide) rfl rfl (Below.refl _ _) ?_ ?_
            · intro i kk hk
              match i, hk with
              | 0, hk => obtain rfl := Option.some.inj hk; exact vok_plain _ rfl rfl rfl (does_val rfl fun ac u hG hL => x_load rfl ((hG.other 4 (by decide)).trans rfl) (run_load24 (TG.kept hG.here)))
              | 1, hk => obtain rfl := Option.some.inj hk; exact vok_plain _ rfl rfl rfl (does_val rfl fun ac u hG hL => x_move rfl ((hG.other 13 (by decide)).trans rfl))
              | 2, hk => obtain rfl := Option.some.inj hk; exact vok_plain _ rfl rfl rfl (does_call #[tab G, .int .u8 (y : Int)] rfl (fun ac u hG hL => x_call rfl (by have e0 : ac.eval (.tmp 46) = tab G := (hL ⟨0, .data⟩ (by simp) rfl _ rfl); have e1 : ac.eval (.tmp 47) = .int .u8 (y : Int) := (hL ⟨1, .data⟩ (by simp) rfl _ rfl); simp only [List.map_toArray, List.map_cons, List.map_nil, e0, e1]) (fun u => call24 _ u)) (callS fun u _ => peval_any G y hy9 u))
              | 3, hk => obtain rfl := Option.some.inj hk; exact vok_plain _ rfl rfl rfl (does_val rfl fun ac u hG hL => x_move rfl (hL ⟨2, .data⟩ (by simp) rfl _ rfl))
              | 4, hk => obtain rfl := Option.some.inj hk; exact vok_maybe _ rfl rfl 3 true 49 (G y) rfl ⟨⟨3, .guard⟩, by simp, rfl, rfl⟩ rfl (fun h => gval_neg h) (fun hg => does_if hg (does_val rfl fun ac u hG hL => x_move rfl ((hG.other 13 (by decide)).trans rfl)))
              | 5, hk => obtain rfl := Option.some.inj hk; exact vok_maybe _ rfl rfl 3 true 49 (G y) rfl ⟨⟨3, .guard⟩, by simp, rfl, rfl⟩ rfl (fun h => gval_neg h) (fun hg => does_if hg (does_val rfl fun ac u hG hL => x_bin rfl ((hL ⟨4, .data⟩ (by simp) rfl _ rfl).trans (gval_pos hg)) rfl (grd_and8 _ _ _ _ _) (run_and85 y hy9 u)))
              | 6, hk => obtain rfl := Option.some.inj hk; exact vok_maybe _ rfl rfl 3 true 49 (G y) rfl ⟨⟨3, .guard⟩, by simp, rfl, rfl⟩ rfl (fun h => gval_neg h) (fun hg => does_if hg (does_val rfl fun ac u hG hL => x_move rfl ((hG.other 2 (by decide)).trans rfl)))
              | 7, hk => obtain rfl := Option.some.inj hk; exact vok_maybe _ rfl rfl 3 true 49 (G y) rfl ⟨⟨3, .guard⟩, by simp, rfl, rfl⟩ rfl (fun h => gval_neg h) (fun hg => does_if hg (does_val rfl fun ac u hG hL => x_bin rfl ((hL ⟨6, .data⟩ (by simp) rfl _ rfl).trans (gval_pos hg)) rfl (grd_and8 _ _ _ _ _) (by rw [HQ.out]; exact run_and85 x hx u)))
              | 8, hk => obtain rfl := Option.some.inj hk; exact vok_maybe _ rfl rfl 3 true 49 (G y) rfl ⟨⟨3, .guard⟩, by simp, rfl, rfl⟩ rfl (fun h => gval_neg h) (fun hg => does_if hg (does_val rfl fun ac u hG hL => x_bin rfl ((hL ⟨5, .data⟩ (by simp) rfl _ rfl).trans (gval_pos hg)) ((hL ⟨7, .data⟩ (by simp) rfl _ rfl).trans (gval_pos hg)) (grd_eq8 _ _ _ _ _) (run_eqN8 _ _ u)))
              | 9, hk => obtain rfl := Option.some.inj hk; exact vok_plain _ rfl rfl rfl (does_val rfl fun ac u hG hL => x_pick (b := (G y)) rfl (hL ⟨3, .data⟩ (by simp) rfl _ rfl) (pick_and (hL ⟨8, .data⟩ (by simp) rfl _ rfl) rfl))
              | 10, hk => obtain rfl := Option.some.inj hk; exact vok_plain _ rfl rfl rfl (does_val rfl fun ac u hG hL => x_move rfl (hL ⟨9, .data⟩ (by simp) rfl _ rfl))
              | 11, hk => obtain rfl := Option.some.inj hk; exact vok_maybe _ rfl rfl 10 true 56 ((G y) && (decide (y &&& 85 = q))) rfl ⟨⟨10, .guard⟩, by simp, rfl, rfl⟩ rfl (fun h => gval_neg h) (fun hg => does_if hg (does_val rfl fun ac u hG hL => x_load rfl ((hG.other 7 (by decide)).trans rfl) (run_load24 (TS.kept hG.here))))
              | 12, hk => obtain rfl := Option.some.inj hk; exact vok_maybe _ rfl rfl 10 true 56 ((G y) && (decide (y &&& 85 = q))) rfl ⟨⟨10, .guard⟩, by simp, rfl, rfl⟩ rfl (fun h => gval_neg h) (fun hg => does_if hg (does_val rfl fun ac u hG hL => x_move rfl ((hG.other 13 (by decide)).trans rfl)))
              | 13, hk => obtain rfl := Option.some.inj hk; exact vok_maybe _ rfl rfl 10 true 56 ((G y) && (decide (y &&& 85 = q))) rfl ⟨⟨10, .guard⟩, by simp, rfl, rfl⟩ rfl (fun h => gval_neg h) (fun hg => does_if hg (does_val rfl fun ac u hG hL => x_bin rfl ((hL ⟨12, .data⟩ (by simp) rfl _ rfl).trans (gval_pos hg)) rfl (grd_shr8 _ _ _ _ _) (run_shr1 y u)))
              | 14, hk => obtain rfl := Option.some.inj hk; exact vok_maybe _ rfl rfl 10 true 56 ((G y) && (decide (y &&& 85 = q))) rfl ⟨⟨10, .guard⟩, by simp, rfl, rfl⟩ rfl (fun h => gval_neg h) (fun hg => does_if hg (does_val rfl fun ac u hG hL => x_bin rfl ((hL ⟨13, .data⟩ (by simp) rfl _ rfl).trans (gval_pos hg)) rfl (grd_and8 _ _ _ _ _) (run_and85 (y / 2) (by omega) u)))
              | 15, hk => obtain rfl := Option.some.inj hk; exact vok_maybe _ rfl rfl 10 true 56 ((G y) && (decide (y &&& 85 = q))) rfl ⟨⟨10, .chain⟩, by simp, rfl, rfl⟩ rfl (fun h => gval_neg h) (fun hg => does_if hg (does_call #[tab S, .int .u8 ((evN y : Nat) : Int)] rfl (fun ac u hG hL => x_call rfl (by have e0 : ac.eval (.tmp 57) = tab S := ((hL ⟨11, .data⟩ (by simp) rfl _ rfl).trans (gval_pos hg)); have e1 : ac.eval (.tmp 60) = .int .u8 ((evN y : Nat) : Int) := ((hL ⟨14, .data⟩ (by simp) rfl _ rfl).trans (gval_pos hg)); simp only [List.map_toArray, List.map_cons, List.map_nil, e0, e1]) (fun u => call24 _ u)) (callS fun u _ => peval_any S (evN y) (evN_lt y) u)))
              | 16, hk => obtain rfl := Option.some.inj hk; exact vok_plain _ rfl rfl rfl (does_val rfl fun ac u hG hL => x_pick (b := ((G y) && (decide (y &&& 85 = q)))) rfl (hL ⟨10, .data⟩ (by simp) rfl _ rfl) (pick_and (hL ⟨15, .data⟩ (by simp) rfl _ rfl) rfl))
              | i + 17, hk => simp at hk
            · intro wb bb
              simp only [vfin, Act.put, List.setIfInBounds_toArray, List.set_cons_succ, List.set_cons_zero]
              have TS := TS.kept bb
              have TG := TG.kept bb
              have TN := TN.kept bb
              have TP := TP.kept bb
              have hB := below_far hB bb
              generalize ((G y && decide (y &&& 85 = q)) && S (evN y)) = c2 at hgs ⊢
              cases c2 with
              | true =>
                go_wp2_with fail
                go_roundg (gk - 1)
                case measure => have := hY.out; omega
                case rel =>
                  have := hY.out
                  exact ⟨y + 1, by omega, rfl, by rw [hcs.out, Bool.or_true], by rw [hgs.out, Bool.or_true], TS, TG, TN, TP, hB⟩
              | false =>
                go_wp2_with fail
                go_roundg (gk - 1)
                case measure => have := hY.out; omega
                case rel =>
                  have := hY.out
                  exact ⟨y + 1, by omega, rfl, by rw [hcs.out, Bool.or_true], by rw [hgs.out, Bool.or_false], TS, TG, TN, TP, hB⟩
          | false =>
            go_upto_region 12 with fail
            refine wp_region_valsq (fun u => Below wa.heap.size wa u) [(46, tab G), (47, .int .u8 (y : Int)), (48, .bool (G y)), (49, .bool (G y)), (50, gval (G y) true (.int .u8 (y : Int))), (51, gval (G y) true (.int .u8 ((y &&& 85 : Nat) : Int))), (52, gval (G y) true (.int .u8 (x : Int))), (53, gval (G y) true (.int .u8 ((q : Nat) : Int))), (54, gval (G y) true (.bool (decide (y &&& 85 = q)))), (55, .bool ((G y) && (decide (y &&& 85 = q)))), (56, .bool ((G y) && (decide (y &&& 85 = q)))), (57, gval ((G y) && (decide (y &&& 85 = q))) true (tab S)), (58, gval ((G y) && (decide (y &&& 85 = q))) true (.int .u8 (y : Int))), (59, gval ((G y) && (decide (y &&& 85 = q))) true (.int .u8 ((y / 2 : Nat) : Int))), (60, gval ((G y) && (decide (y &&& 85 = q))) true (.int .u8 ((evN y : Nat) : Int))), (61, gval ((G y) && (decide (y &&& 85 = q))) true (.bool (S (evN y)))), (62, .bool (((G y) && (decide (y &&& 85 = q))) && (S (evN y))))] [46, 47, 48, 49, 50, 51, 52, 53, 54, 55, 56, 57, 58, 59, 60, 61, 62] 87 (by kernel_rfl) rfl rfl (by decide) rfl rfl (Below.refl _ _) ?_ ?_
            · intro i kk hk
              match i, hk with
              | 0, hk => obtain rfl := Option.some.inj hk; exact vok_plain _ rfl rfl rfl (does_val rfl fun ac u hG hL => x_load rfl ((hG.other 4 (by decide)).trans rfl) (run_load24 (TG.kept hG.here)))
              | 1, hk => obtain rfl := Option.some.inj hk; exact vok_plain _ rfl rfl rfl (does_val rfl fun ac u hG hL => x_move rfl ((hG.other 13 (by decide)).trans rfl))
              | 2, hk => obtain rfl := Option.some.inj hk; exact vok_plain _ rfl rfl rfl (does_call #[tab G, .int .u8 (y : Int)] rfl (fun ac u hG hL => x_call rfl (by have e0 : ac.eval (.tmp 46) = tab G := (hL ⟨0, .data⟩ (by simp) rfl _ rfl); have e1 : ac.eval (.tmp 47) = .int .u8 (y : Int) := (hL ⟨1, .data⟩ (by simp) rfl _ rfl); simp only [List.map_toArray, List.map_cons, List.map_nil, e0, e1]) (fun u => call24 _ u)) (callS fun u _ => peval_any G y hy9 u))
              | 3, hk => obtain rfl := Option.some.inj hk; exact vok_plain _ rfl rfl rfl (does_val rfl fun ac u hG hL => x_move rfl (hL ⟨2, .data⟩ (by simp) rfl _ rfl))
              | 4, hk => obtain rfl := Option.some.inj hk; exact vok_maybe _ rfl rfl 3 true 49 (G y) rfl ⟨⟨3, .guard⟩, by simp, rfl, rfl⟩ rfl (fun h => gval_neg h) (fun hg => does_if hg (does_val rfl fun ac u hG hL => x_move rfl ((hG.other 13 (by decide)).trans rfl)))
              | 5, hk => obtain rfl := Option.some.inj hk; exact vok_maybe _ rfl rfl 3 true 49 (G y) rfl ⟨⟨3, .guard⟩, by simp, rfl, rfl⟩ rfl (fun h => gval_neg h) (fun hg => does_if hg (does_val rfl fun ac u hG hL => x_bin rfl ((hL ⟨4, .data⟩ (by simp) rfl _ rfl).trans (gval_pos hg)) rfl (grd_and8 _ _ _ _ _) (run_and85 y hy9 u)))
              | 6, hk => obtain rfl := Option.some.inj hk; exact vok_maybe _ rfl rfl 3 true 49 (G y) rfl ⟨⟨3, .guard⟩, by simp, rfl, rfl⟩ rfl (fun h => gval_neg h) (fun hg => does_if hg (does_val rfl fun ac u hG hL => x_move rfl ((hG.other 2 (by decide)).trans rfl)))
              | 7, hk => obtain rfl := Option.some.inj hk; exact vok_maybe _ rfl rfl 3 true 49 (G y) rfl ⟨⟨3, .guard⟩, by simp, rfl, rfl⟩ rfl (fun h => gval_neg h) (fun hg => does_if hg (does_val rfl fun ac u hG hL => x_bin rfl ((hL ⟨6, .data⟩ (by simp) rfl _ rfl).trans (gval_pos hg)) rfl (grd_and8 _ _ _ _ _) (by rw [HQ.out]; exact run_and85 x hx u)))
              | 8, hk => obtain rfl := Option.some.inj hk; exact vok_maybe _ rfl rfl 3 true 49 (G y) rfl ⟨⟨3, .guard⟩, by simp, rfl, rfl⟩ rfl (fun h => gval_neg h) (fun hg => does_if hg (does_val rfl fun ac u hG hL => x_bin rfl ((hL ⟨5, .data⟩ (by simp) rfl _ rfl).trans (gval_pos hg)) ((hL ⟨7, .data⟩ (by simp) rfl _ rfl).trans (gval_pos hg)) (grd_eq8 _ _ _ _ _) (run_eqN8 _ _ u)))
              | 9, hk => obtain rfl := Option.some.inj hk; exact vok_plain _ rfl rfl rfl (does_val rfl fun ac u hG hL => x_pick (b := (G y)) rfl (hL ⟨3, .data⟩ (by simp) rfl _ rfl) (pick_and (hL ⟨8, .data⟩ (by simp) rfl _ rfl) rfl))
              | 10, hk => obtain rfl := Option.some.inj hk; exact vok_plain _ rfl rfl rfl (does_val rfl fun ac u hG hL => x_move rfl (hL ⟨9, .data⟩ (by simp) rfl _ rfl))
              | 11, hk => obtain rfl := Option.some.inj hk; exact vok_maybe _ rfl rfl 10 true 56 ((G y) && (decide (y &&& 85 = q))) rfl ⟨⟨10, .guard⟩, by simp, rfl, rfl⟩ rfl (fun h => gval_neg h) (fun hg => does_if hg (does_val rfl fun ac u hG hL => x_load rfl ((hG.other 7 (by decide)).trans rfl) (run_load24 (TS.kept hG.here))))
              | 12, hk => obtain rfl := Option.some.inj hk; exact vok_maybe _ rfl rfl 10 true 56 ((G y) && (decide (y &&& 85 = q))) rfl ⟨⟨10, .guard⟩, by simp, rfl, rfl⟩ rfl (fun h => gval_neg h) (fun hg => does_if hg (does_val rfl fun ac u hG hL => x_move rfl ((hG.other 13 (by decide)).trans rfl)))
              | 13, hk => obtain rfl := Option.some.inj hk; exact vok_maybe _ rfl rfl 10 true 56 ((G y) && (decide (y &&& 85 = q))) rfl ⟨⟨10, .guard⟩, by simp, rfl, rfl⟩ rfl (fun h => gval_neg h) (fun hg => does_if hg (does_val rfl fun ac u hG hL => x_bin rfl ((hL ⟨12, .data⟩ (by simp) rfl _ rfl).trans (gval_pos hg)) rfl (grd_shr8 _ _ _ _ _) (run_shr1 y u)))
              | 14, hk => obtain rfl := Option.some.inj hk; exact vok_maybe _ rfl rfl 10 true 56 ((G y) && (decide (y &&& 85 = q))) rfl ⟨⟨10, .guard⟩, by simp, rfl, rfl⟩ rfl (fun h => gval_neg h) (fun hg => does_if hg (does_val rfl fun ac u hG hL => x_bin rfl ((hL ⟨13, .data⟩ (by simp) rfl _ rfl).trans (gval_pos hg)) rfl (grd_and8 _ _ _ _ _) (run_and85 (y / 2) (by omega) u)))
              | 15, hk => obtain rfl := Option.some.inj hk; exact vok_maybe _ rfl rfl 10 true 56 ((G y) && (decide (y &&& 85 = q))) rfl ⟨⟨10, .chain⟩, by simp, rfl, rfl⟩ rfl (fun h => gval_neg h) (fun hg => does_if hg (does_call #[tab S, .int .u8 ((evN y : Nat) : Int)] rfl (fun ac u hG hL => x_call rfl (by have e0 : ac.eval (.tmp 57) = tab S := ((hL ⟨11, .data⟩ (by simp) rfl _ rfl).trans (gval_pos hg)); have e1 : ac.eval (.tmp 60) = .int .u8 ((evN y : Nat) : Int) := ((hL ⟨14, .data⟩ (by simp) rfl _ rfl).trans (gval_pos hg)); simp only [List.map_toArray, List.map_cons, List.map_nil, e0, e1]) (fun u => call24 _ u)) (callS fun u _ => peval_any S (evN y) (evN_lt y) u)))
              | 16, hk => obtain rfl := Option.some.inj hk; exact vok_plain _ rfl rfl rfl (does_val rfl fun ac u hG hL => x_pick (b := ((G y) && (decide (y &&& 85 = q)))) rfl (hL ⟨10, .data⟩ (by simp) rfl _ rfl) (pick_and (hL ⟨15, .data⟩ (by simp) rfl _ rfl) rfl))
              | i + 17, hk => simp at hk
            · intro wb bb
              simp only [vfin, Act.put, List.setIfInBounds_toArray, List.set_cons_succ, List.set_cons_zero]
              have TS := TS.kept bb
              have TG := TG.kept bb
              have TN := TN.kept bb
              have TP := TP.kept bb
              have hB := below_far hB bb
              generalize ((G y && decide (y &&& 85 = q)) && S (evN y)) = c2 at hgs ⊢
              cases c2 with
              | true =>
                go_wp2_with fail
                go_roundg (gk - 1)
                case measure => have := hY.out; omega
                case rel =>
                  have := hY.out
                  exact ⟨y + 1, by omega, rfl, by rw [hcs.out, Bool.or_false], by rw [hgs.out, Bool.or_true], TS, TG, TN, TP, hB⟩
              | false =>
                go_wp2_with fail
                go_roundg (gk - 1)
                case measure => have := hY.out; omega
                case rel =>
                  have := hY.out
                  exact ⟨y + 1, by omega, rfl, by rw [hcs.out, Bool.or_false], by rw [hgs.out, Bool.or_false], TS, TG, TN, TP, hB⟩
      · obtain rfl : y = 256 := by have := hY.out; omega
        go_upto_region 14 with fail
        refine wp_region_valsq (fun u => Below wr.heap.size wr u) [(63, tab (nextF S G)), (64, .int .u8 (x : Int)), (65, .bool (nextF S G x)), (66, .bool (cameU S G q 256)), (67, .bool true), (68, .bool true), (69, tab (prevF S G)), (70, .int .u8 (x : Int)), (71, .bool (prevF S G x)), (72, .bool (goesU S G q 256)), (73, .bool true), (74, .bool true), (75, .bool true), (76, tab (nextF S G)), (77, .int .u8 (supUpto (nextF S G) 8 : Int)), (78, .int .u8 (0 : Int)), (79, .bool true), (80, .bool true), (81, .bool true), (82, tab (prevF S G)), (83, .int .u8 (supUpto (prevF S G) 8 : Int)), (84, .int .u8 (0 : Int)), (85, .bool true), (86, .bool true), (6, .bool true)] [63, 64, 65, 66, 67, 68, 69, 70, 71, 72, 73, 74, 75, 76, 77, 78, 79, 80, 81, 82, 83, 84, 85, 86, 6] 87 (by kernel_rfl) rfl rfl (by decide) rfl rfl (Below.refl _ _) ?_ ?_
        · intro i kk hk
          match i, hk with
          | 0, hk => obtain rfl := Option.some.inj hk; exact vok_plain _ rfl rfl rfl (does_val rfl fun ac u hG hL => x_load rfl ((hG.other 8 (by decide)).trans rfl) (run_load24 (TN.kept hG.here)))
          | 1, hk => obtain rfl := Option.some.inj hk; exact vok_plain _ rfl rfl rfl (does_val rfl fun ac u hG hL => x_move rfl ((hG.other 2 (by decide)).trans rfl))
          | 2, hk => obtain rfl := Option.some.inj hk; exact vok_plain _ rfl rfl rfl (does_call #[tab (nextF S G), .int .u8 (x : Int)] rfl (fun ac u hG hL => x_call rfl (by have e0 : ac.eval (.tmp 63) = tab (nextF S G) := (hL ⟨0, .data⟩ (by simp) rfl _ rfl); have e1 : ac.eval (.tmp 64) = .int .u8 (x : Int) := (hL ⟨1, .data⟩ (by simp) rfl _ rfl); simp only [List.map_toArray, List.map_cons, List.map_nil, e0, e1]) (fun u => call24 _ u)) (callS fun u _ => peval_any (nextF S G) x hx u))
          | 3, hk => obtain rfl := Option.some.inj hk; exact vok_plain _ rfl rfl rfl (does_val rfl fun ac u hG hL => x_move rfl ((hG.other 10 (by decide)).trans rfl))
          | 4, hk => obtain rfl := Option.some.inj hk; exact vok_plain _ rfl rfl rfl (does_val rfl fun ac u hG hL => x_bin rfl (hL ⟨2, .data⟩ (by simp) rfl _ rfl) (hL ⟨3, .data⟩ (by simp) rfl _ rfl) (grd_eqB _ _ _ _ _) (run_eqT HN.out u))
          | 5, hk => obtain rfl := Option.some.inj hk; exact vok_plain _ rfl rfl rfl (does_val rfl fun ac u hG hL => x_move rfl (hL ⟨4, .data⟩ (by simp) rfl _ rfl))
          | 6, hk => obtain rfl := Option.some.inj hk; exact vok_sure _ rfl rfl 5 true 68 rfl ⟨⟨5, .guard⟩, by simp, rfl, rfl⟩ rfl (does_val rfl fun ac u hG hL => x_load rfl ((hG.other 9 (by decide)).trans rfl) (run_load24 (TP.kept hG.here)))
          | 7, hk => obtain rfl := Option.some.inj hk; exact vok_sure _ rfl rfl 5 true 68 rfl ⟨⟨5, .guard⟩, by simp, rfl, rfl⟩ rfl (does_val rfl fun ac u hG hL => x_move rfl ((hG.other 2 (by decide)).trans rfl))
          | 8, hk => obtain rfl := Option.some.inj hk; exact vok_sure _ rfl rfl 5 true 68 rfl ⟨⟨5, .chain⟩, by simp, rfl, rfl⟩ rfl (does_call #[tab (prevF S G), .int .u8 (x : Int)] rfl (fun ac u hG hL => x_call rfl (by have e0 : ac.eval (.tmp 69) = tab (prevF S G) := (hL ⟨6, .data⟩ (by simp) rfl _ rfl); have e1 : ac.eval (.tmp 70) = .int .u8 (x : Int) := (hL ⟨7, .data⟩ (by simp) rfl _ rfl); simp only [List.map_toArray, List.map_cons, List.map_nil, e0, e1]) (fun u => call24 _ u)) (callS fun u _ => peval_any (prevF S G) x hx u))
          | 9, hk => obtain rfl := Option.some.inj hk; exact vok_sure _ rfl rfl 5 true 68 rfl ⟨⟨5, .guard⟩, by simp, rfl, rfl⟩ rfl (does_val rfl fun ac u hG hL => x_move rfl ((hG.other 11 (by decide)).trans rfl))
          | 10, hk => obtain rfl := Option.some.inj hk; exact vok_sure _ rfl rfl 5 true 68 rfl ⟨⟨5, .guard⟩, by simp, rfl, rfl⟩ rfl (does_val rfl fun ac u hG hL => x_bin rfl (hL ⟨8, .data⟩ (by simp) rfl _ rfl) (hL ⟨9, .data⟩ (by simp) rfl _ rfl) (grd_eqB _ _ _ _ _) (run_eqT HP.out u))
          | 11, hk => obtain rfl := Option.some.inj hk; exact vok_plain _ rfl rfl rfl (does_val rfl fun ac u hG hL => x_pick (b := true) rfl (hL ⟨5, .data⟩ (by simp) rfl _ rfl) (hL ⟨10, .data⟩ (by simp) rfl _ rfl))
          | 12, hk => obtain rfl := Option.some.inj hk; exact vok_plain _ rfl rfl rfl (does_val rfl fun ac u hG hL => x_move rfl (hL ⟨11, .data⟩ (by simp) rfl _ rfl))
          | 13, hk => obtain rfl := Option.some.inj hk; exact vok_sure _ rfl rfl 12 true 75 rfl ⟨⟨12, .guard⟩, by simp, rfl, rfl⟩ rfl (does_val rfl fun ac u hG hL => x_load rfl ((hG.other 8 (by decide)).trans rfl) (run_load24 (TN.kept hG.here)))
          | 14, hk => obtain rfl := Option.some.inj hk; exact vok_sure _ rfl rfl 12 true 75 rfl ⟨⟨12, .chain⟩, by simp, rfl, rfl⟩ rfl (does_call #[tab (nextF S G)] rfl (fun ac u hG hL => x_call rfl (by have e0 : ac.eval (.tmp 76) = tab (nextF S G) := (hL ⟨13, .data⟩ (by simp) rfl _ rfl); simp only [List.map_toArray, List.map_cons, List.map_nil, e0]) (fun u => call44 _ u)) (callS fun u s => psupport_any (nextF S G) u (hC.kept (below_far hB s))))
          | 15, hk => obtain rfl := Option.some.inj hk; exact vok_sure _ rfl rfl 12 true 75 rfl ⟨⟨12, .guard⟩, by simp, rfl, rfl⟩ rfl (does_val rfl fun ac u hG hL => x_bin rfl (hL ⟨14, .data⟩ (by simp) rfl _ rfl) rfl (grd_and8 _ _ _ _ _) (run_and8 H1.out u))
          | 16, hk => obtain rfl := Option.some.inj hk; exact vok_sure _ rfl rfl 12 true 75 rfl ⟨⟨12, .guard⟩, by simp, rfl, rfl⟩ rfl (does_val rfl fun ac u hG hL => x_bin rfl (hL ⟨15, .data⟩ (by simp) rfl _ rfl) rfl (grd_eq8 _ _ _ _ _) (run_eq8 0 0 u))
          | 17, hk => obtain rfl := Option.some.inj hk; exact vok_plain _ rfl rfl rfl (does_val rfl fun ac u hG hL => x_pick (b := true) rfl (hL ⟨12, .data⟩ (by simp) rfl _ rfl) (hL ⟨16, .data⟩ (by simp) rfl _ rfl))
          | 18, hk => obtain rfl := Option.some.inj hk; exact vok_plain _ rfl rfl rfl (does_val rfl fun ac u hG hL => x_move rfl (hL ⟨17, .data⟩ (by simp) rfl _ rfl))
          | 19, hk => obtain rfl := Option.some.inj hk; exact vok_sure _ rfl rfl 18 true 81 rfl ⟨⟨18, .guard⟩, by simp, rfl, rfl⟩ rfl (does_val rfl fun ac u hG hL => x_load rfl ((hG.other 9 (by decide)).trans rfl) (run_load24 (TP.kept hG.here)))
          | 20, hk => obtain rfl := Option.some.inj hk; exact vok_sure _ rfl rfl 18 true 81 rfl ⟨⟨18, .chain⟩, by simp, rfl, rfl⟩ rfl (does_call #[tab (prevF S G)] rfl (fun ac u hG hL => x_call rfl (by have e0 : ac.eval (.tmp 82) = tab (prevF S G) := (hL ⟨19, .data⟩ (by simp) rfl _ rfl); simp only [List.map_toArray, List.map_cons, List.map_nil, e0]) (fun u => call44 _ u)) (callS fun u s => psupport_any (prevF S G) u (hC.kept (below_far hB s))))
          | 21, hk => obtain rfl := Option.some.inj hk; exact vok_sure _ rfl rfl 18 true 81 rfl ⟨⟨18, .guard⟩, by simp, rfl, rfl⟩ rfl (does_val rfl fun ac u hG hL => x_bin rfl (hL ⟨20, .data⟩ (by simp) rfl _ rfl) rfl (grd_and8 _ _ _ _ _) (run_and8 H2.out u))
          | 22, hk => obtain rfl := Option.some.inj hk; exact vok_sure _ rfl rfl 18 true 81 rfl ⟨⟨18, .guard⟩, by simp, rfl, rfl⟩ rfl (does_val rfl fun ac u hG hL => x_bin rfl (hL ⟨21, .data⟩ (by simp) rfl _ rfl) rfl (grd_eq8 _ _ _ _ _) (run_eq8 0 0 u))
          | 23, hk => obtain rfl := Option.some.inj hk; exact vok_plain _ rfl rfl rfl (does_val rfl fun ac u hG hL => x_pick (b := true) rfl (hL ⟨18, .data⟩ (by simp) rfl _ rfl) (hL ⟨22, .data⟩ (by simp) rfl _ rfl))
          | 24, hk => obtain rfl := Option.some.inj hk; exact vok_plain _ rfl rfl rfl (does_val rfl fun ac u hG hL => x_assign rfl (hL ⟨23, .data⟩ (by simp) rfl _ rfl))
          | i + 25, hk => simp at hk
        · intro w9 S9
          simp only [vfin, Act.put, List.setIfInBounds_toArray, List.set_cons_succ, List.set_cons_zero]
          go_wp2_with fail
          go_ret
          exact ⟨rfl, below_far hB S9⟩
end Go.Proofs.YtmfocngdobcfcaaDoor
