/-
  The statement TruthQuants, walked.
-/
import Derived.Test.YtmfocngdobcfcaaDoorRingW
import Derived.Test.YtmfocngdobcfcaaDoorSmall
namespace Go.Proofs.YtmfocngdobcfcaaDoor
open Go Go.RowKit

theorem sup_bit' (F : Nat → Bool) (k : Nat) : ∀ n, (supUpto F n).testBit k = (decide (k < n) && !same (fixF F k false) (fixF F k true))
  | 0 => by simp [supUpto]
  | n + 1 => by
    rw [supUpto]
    by_cases e : n = k
    · subst e
      cases hs : same (fixF F n false) (fixF F n true) with
      | true => simp [sup_bit' F n n, hs]
      | false => simp [Nat.testBit_or]
    · have hlt : decide (k < n + 1) = decide (k < n) := by congr 1; simp; omega
      split
      · rw [sup_bit' F k n, hlt]
      · rw [Nat.testBit_or, Nat.testBit_two_pow, sup_bit' F k n, hlt]; simp [e]
theorem M_or (v a b : Nat) : M v (a ||| b) = (M v a || M v b) := by rw [← M_bit, ← M_bit, ← M_bit, Nat.testBit_or]
theorem M_andNot (v a b : Nat) (hv : v < 8) (hb : b < 256) : M v (a &&& (255 - b)) = (M v a && !M v b) := by
  rw [← M_bit, ← M_bit, ← M_bit, Nat.testBit_and, show 255 - b = 2 ^ 8 - (b + 1) by omega, Nat.testBit_two_pow_sub_succ hb]
  simp [hv]
theorem ex_ex (F : Nat → Bool) (a b x : Nat) (hx : x < 256) : exUpto (exUpto F a 8) b 8 x = exUpto F (a ||| b) 8 x := by
  rw [Bool.eq_iff_iff, ex_iff _ _ _ hx, ex_iff _ _ _ hx]
  constructor
  · rintro ⟨y, hy, h1, h2⟩
    obtain ⟨z, hz, h3, h4⟩ := (ex_iff _ _ _ hy).1 h2
    refine ⟨z, hz, fun v hv => ?_, h4⟩
    rw [M_or]
    rcases h3 v hv with h | h
    · exact Or.inl (by simp [h])
    · rcases h1 v hv with g | g
      · exact Or.inl (by simp [g])
      · exact Or.inr (h.trans g)
  · rintro ⟨z, hz, h1, h2⟩
    refine ⟨asm fun v => if M v b = true then M v z else M v x, asm_lt _, fun v hv => ?_, ?_⟩
    · rw [asm_M _ v hv]
      by_cases g : M v b = true
      · exact Or.inl g
      · rw [if_neg g]; exact Or.inr rfl
    · refine (ex_iff _ _ _ (asm_lt _)).2 ⟨z, hz, fun v hv => ?_, h2⟩
      rw [asm_M _ v hv]
      by_cases g : M v b = true
      · rw [if_pos g]; exact Or.inr rfl
      · rw [if_neg g]
        rcases h1 v hv with h | h
        · rw [M_or] at h
          exact Or.inl (by simpa [g] using h)
        · exact Or.inr h
theorem all_fun (F : Nat → Bool) (m : Nat) : allUpto F m 8 = fun x => !exUpto (fun y => !F y) m 8 x := funext fun x => all_not F m 8 x
theorem all_all (F : Nat → Bool) (a b x : Nat) (hx : x < 256) : allUpto (allUpto F a 8) b 8 x = allUpto F (a ||| b) 8 x := by
  rw [all_not, all_not, all_fun F a]
  simp only [Bool.not_not]
  rw [show (fun y => exUpto (fun y => !F y) a 8 y) = exUpto (fun y => !F y) a 8 from rfl, ex_ex _ a b x hx]
theorem ex_self (F : Nat → Bool) (a x : Nat) (hx : x < 256) (h : F x = true) : exUpto F a 8 x = true := (ex_iff _ _ _ hx).2 ⟨x, hx, fun _ _ => Or.inr rfl, h⟩
theorem all_self (F : Nat → Bool) (a x : Nat) (hx : x < 256) (h : allUpto F a 8 x = true) : F x = true := (all_iff _ _ _ hx).1 h x hx fun _ _ => Or.inr rfl
theorem res_ex (F : Nat → Bool) (a n x : Nat) (hx : x < 256) (h : resUpto F a n 8 x = true) : exUpto F a 8 x = true := by
  rw [res_at _ _ _ _ hx] at h
  refine (ex_iff _ _ _ hx).2 ⟨_, asm_lt _, fun v hv => ?_, h⟩
  rw [asm_M _ v hv]
  by_cases g : M v a = true
  · exact Or.inl g
  · rw [if_neg g]; exact Or.inr rfl
theorem all_res (F : Nat → Bool) (a n x : Nat) (hx : x < 256) (h : allUpto F a 8 x = true) : resUpto F a n 8 x = true := by
  rw [res_at _ _ _ _ hx]
  refine (all_iff _ _ _ hx).1 h _ (asm_lt _) fun v hv => ?_
  rw [asm_M _ v hv]
  by_cases g : M v a = true
  · exact Or.inl g
  · rw [if_neg g]; exact Or.inr rfl
theorem res_res (F : Nat → Bool) (a b n x : Nat) (ha : a < 256) (hx : x < 256) : resUpto (resUpto F a n 8) (b &&& (255 - a)) n 8 x = resUpto F (a ||| b) n 8 x := by
  rw [res_at _ _ _ _ hx, res_at _ _ _ _ (asm_lt _), res_at _ _ _ _ hx]
  congr 1
  refine bits_ext (asm_lt _) (asm_lt _) fun v hv => ?_
  rw [asm_M _ v hv, asm_M _ v hv, asm_M _ v hv, M_or, M_andNot v b a hv ha]
  cases M v a <;> cases M v b <;> simp
/-- What doesn't hang on the variables of a mask. -/
def Free (E : Nat → Bool) (a : Nat) : Prop := ∀ v, v < 8 → M v a = true → ∀ x, x < 256 → ∀ b, E (fixAt v b x) = E x
theorem sup_free (E : Nat → Bool) (a : Nat) (h : Free E a) (ha : a < 256) : bits .and .u8 (supUpto E 8 : Int) (a : Int) = 0 := by
  rw [u8_and_nat _ _ (sup_lt E 8 (Nat.le_refl _)) ha]
  have : supUpto E 8 &&& a = 0 := by
    apply Nat.eq_of_testBit_eq
    intro v
    rw [Nat.testBit_and, Nat.zero_testBit, sup_bit' E v 8]
    by_cases hv : v < 8
    · cases hm : a.testBit v with
      | false => simp
      | true =>
        rw [M_bit] at hm
        have hs : same (fixF E v false) (fixF E v true) = true := (same_iff _ _).2 fun x hx => by
          unfold fixF
          rw [h v hv hm x hx false, h v hv hm x hx true]
        simp [hs]
    · simp [hv]
  rw [this]
  rfl
theorem ex_free (F : Nat → Bool) (a : Nat) : Free (exUpto F a 8) a := by
  intro v hv hm x hx b
  rw [Bool.eq_iff_iff, ex_iff _ _ _ (fixAt_lt v x b hv hx), ex_iff _ _ _ hx]
  constructor
  · rintro ⟨y, hy, h1, h2⟩
    refine ⟨y, hy, fun u hu => ?_, h2⟩
    by_cases e : u = v
    · subst e; exact Or.inl hm
    · have := h1 u hu
      rwa [M_fixAt u v x b hu hv hx, if_neg e] at this
  · rintro ⟨y, hy, h1, h2⟩
    refine ⟨y, hy, fun u hu => ?_, h2⟩
    by_cases e : u = v
    · subst e; exact Or.inl hm
    · rw [M_fixAt u v x b hu hv hx, if_neg e]
      exact h1 u hu
theorem all_free (F : Nat → Bool) (a : Nat) : Free (allUpto F a 8) a := by
  intro v hv hm x hx b
  rw [all_not, all_not, ex_free (fun y => !F y) a v hv hm x hx b]
theorem res_free (F : Nat → Bool) (a n : Nat) : Free (resUpto F a n 8) a := by
  intro v hv hm x hx b
  rw [res_at _ _ _ _ (fixAt_lt v x b hv hx), res_at _ _ _ _ hx]
  congr 1
  refine bits_ext (asm_lt _) (asm_lt _) fun u hu => ?_
  rw [asm_M _ u hu, asm_M _ u hu]
  by_cases e : u = v
  · subst e; rw [if_pos hm, if_pos hm]
  · rw [M_fixAt u v x b hu hv hx, if_neg e]

set_option maxRecDepth 100000 in
set_option maxHeartbeats 6400000 in
theorem quants_any (F : Nat → Bool) (a b n : Nat) (ha : a < 256) (hb : b < 256) (hn : n < 256) (w : World) (hC : Cols w) (hg : Grp w) :
    Calls Tryd.prog 8 #[tab F, .int .u8 (a : Int), .int .u8 (b : Int), .int .u8 (n : Int)] w fun e w' => e = .returned (.bool true) ∧ Below w.heap.size w w' := by
  conv in #[tab F, _, _, _] => unfold tab
  have TF := (IsTab.newAt (w := w) (n := w.heap.size) (by simp) F)
  have B0 := ((Below.refl _ w).alloc (Nat.le_refl _) (.cells #[.int .u64 (word F 0 : Int), .int .u64 (word F 1 : Int), .int .u64 (word F 2 : Int), .int .u64 (word F 3 : Int)] 24))
  go_enter Tryd.func8, Tryd.ntmps8
  go_wp2_with (first
    | (go_at_call 9; generalize (w.alloc (.cells #[.int .u64 (word F 0 : Int), .int .u64 (word F 1 : Int), .int .u64 (word F 2 : Int), .int .u64 (word F 3 : Int)] 24)) = w4 at TF B0 ⊢; refine (known_any _ (hC.kept B0) (hg.kept B0)).mono ?_; rintro e w5 ⟨rfl, b5⟩; have B5 := below_far B0 b5; have C5 := hC.kept B5; have G5 := hg.kept B5; have TF := TF.kept b5; clear b5 B0))
  refine wp_region_tabs' [.val 14 (tab F), .val 15 (.int .u8 (a : Int)), .val 16 (tab (exUpto F a 8)), .val 17 (tab F), .val 18 (.int .u8 (a : Int)), .val 19 (tab (allUpto F a 8)), .val 20 (tab F), .val 21 (.int .u8 (a : Int)), .val 22 (.int .u8 (n : Int)), .val 23 (tab (resUpto F a n 8)), .new 9, .new 10, .new 11, .put 9 (exUpto F a 8), .put 10 (allUpto F a 8), .put 11 (resUpto F a n 8)] [14, 15, 16, 17, 18, 19, 20, 21, 22, 23, 9, 10, 11] [9, 10, 11] [9, 10, 11] 108 (by kernel_rfl) (by kernel_rfl) rfl rfl rfl rfl (by decide) (by decide) rfl rfl ?_ ?_ ?_
  · intro s hs b hb
    simp at hs
    rcases hs with rfl | rfl | rfl <;> simp [slot, undef, ptr] at hb
  · intro i kk hk
    match i, hk with
    | 0, hk => obtain rfl := Option.some.inj hk; exact ⟨_, rfl, rfl, rfl, fun a u hG hpre K hK => wp_load (b := w.heap.size) rfl rfl ((hG.other 4 (by decide)).trans rfl) (TF.kept hG.below) hK⟩
    | 1, hk => obtain rfl := Option.some.inj hk; exact ⟨_, rfl, rfl, rfl, fun a u hG hpre K hK => wp_move rfl rfl ((hG.other 1 (by decide)).trans rfl) hK⟩
    | 2, hk =>
      obtain rfl := Option.some.inj hk
      refine ⟨_, rfl, rfl, rfl, fun ac u hG hpre K hK => ?_⟩
      have e0 : ac.eval (.tmp 14) = tab F := hpre ⟨0, .data⟩ (by simp) rfl _ rfl
      have e1 : ac.eval (.tmp 15) = .int .u8 (a : Int) := hpre ⟨1, .data⟩ (by simp) rfl _ rfl
      exact wp_call rfl (run_call rfl #[tab F, .int .u8 (a : Int)] (fun vs => call28 vs u) (by simp only [List.map_toArray, List.map_cons, List.map_nil, e0, e1])) (pexists_any F a ha u (C5.kept hG.below)) hK
    | 3, hk => obtain rfl := Option.some.inj hk; exact ⟨_, rfl, rfl, rfl, fun a u hG hpre K hK => wp_load (b := w.heap.size) rfl rfl ((hG.other 4 (by decide)).trans rfl) (TF.kept hG.below) hK⟩
    | 4, hk => obtain rfl := Option.some.inj hk; exact ⟨_, rfl, rfl, rfl, fun a u hG hpre K hK => wp_move rfl rfl ((hG.other 1 (by decide)).trans rfl) hK⟩
    | 5, hk =>
      obtain rfl := Option.some.inj hk
      refine ⟨_, rfl, rfl, rfl, fun ac u hG hpre K hK => ?_⟩
      have e0 : ac.eval (.tmp 17) = tab F := hpre ⟨3, .data⟩ (by simp) rfl _ rfl
      have e1 : ac.eval (.tmp 18) = .int .u8 (a : Int) := hpre ⟨4, .data⟩ (by simp) rfl _ rfl
      exact wp_call rfl (run_call rfl #[tab F, .int .u8 (a : Int)] (fun vs => call30 vs u) (by simp only [List.map_toArray, List.map_cons, List.map_nil, e0, e1])) (pforall_any F a ha u (C5.kept hG.below)) hK
    | 6, hk => obtain rfl := Option.some.inj hk; exact ⟨_, rfl, rfl, rfl, fun a u hG hpre K hK => wp_load (b := w.heap.size) rfl rfl ((hG.other 4 (by decide)).trans rfl) (TF.kept hG.below) hK⟩
    | 7, hk => obtain rfl := Option.some.inj hk; exact ⟨_, rfl, rfl, rfl, fun a u hG hpre K hK => wp_move rfl rfl ((hG.other 1 (by decide)).trans rfl) hK⟩
    | 8, hk => obtain rfl := Option.some.inj hk; exact ⟨_, rfl, rfl, rfl, fun a u hG hpre K hK => wp_move rfl rfl ((hG.other 3 (by decide)).trans rfl) hK⟩
    | 9, hk =>
      obtain rfl := Option.some.inj hk
      refine ⟨_, rfl, rfl, rfl, fun ac u hG hpre K hK => ?_⟩
      have e0 : ac.eval (.tmp 20) = tab F := hpre ⟨6, .data⟩ (by simp) rfl _ rfl
      have e1 : ac.eval (.tmp 21) = .int .u8 (a : Int) := hpre ⟨7, .data⟩ (by simp) rfl _ rfl
      have e2 : ac.eval (.tmp 22) = .int .u8 (n : Int) := hpre ⟨8, .data⟩ (by simp) rfl _ rfl
      exact wp_call rfl (run_call rfl #[tab F, .int .u8 (a : Int), .int .u8 (n : Int)] (fun vs => call32 vs u) (by simp only [List.map_toArray, List.map_cons, List.map_nil, e0, e1, e2])) (prestrict_any F a n ha hn u (C5.kept hG.below)) hK
    | 10, hk => obtain rfl := Option.some.inj hk; exact ⟨_, rfl, rfl, rfl, rfl⟩
    | 11, hk => obtain rfl := Option.some.inj hk; exact ⟨_, rfl, rfl, rfl, rfl⟩
    | 12, hk => obtain rfl := Option.some.inj hk; exact ⟨_, rfl, rfl, rfl, rfl⟩
    | 13, hk => obtain rfl := Option.some.inj hk; exact ⟨_, rfl, rfl, rfl, 16, rfl, ⟨⟨2, .data⟩, by simp, rfl, rfl⟩, ⟨⟨10, .data⟩, by simp, rfl, rfl⟩⟩
    | 14, hk => obtain rfl := Option.some.inj hk; exact ⟨_, rfl, rfl, rfl, 19, rfl, ⟨⟨5, .data⟩, by simp, rfl, rfl⟩, ⟨⟨11, .data⟩, by simp, rfl, rfl⟩⟩
    | 15, hk => obtain rfl := Option.some.inj hk; exact ⟨_, rfl, rfl, rfl, 23, rfl, ⟨⟨9, .data⟩, by simp, rfl, rfl⟩, ⟨⟨12, .data⟩, by simp, rfl, rfl⟩⟩
    | i + 16, hk => simp at hk
  · intro bp w6 hb6 hnew hne hput
    have TE := hput 9 (exUpto F a 8) (by simp)
    have TU := hput 10 (allUpto F a 8) (by simp)
    have TR := hput 11 (resUpto F a n 8) (by simp)
    clear hput hnew hne
    simp only [fin, Kind.dst?, kval, Act.put, ptr]
    generalize bp 9 = p9 at TE ⊢
    generalize bp 10 = p10 at TU ⊢
    generalize bp 11 = p11 at TR ⊢
    obtain ⟨E, hE⟩ : ∃ E, E = (exUpto F a 8) := ⟨_, rfl⟩
    obtain ⟨U, hU⟩ : ∃ U, U = (allUpto F a 8) := ⟨_, rfl⟩
    obtain ⟨R, hR⟩ : ∃ R, R = (resUpto F a n 8) := ⟨_, rfl⟩
    obtain ⟨c, hc⟩ : ∃ c, c = a ||| b := ⟨_, rfl⟩
    obtain ⟨d, hd⟩ : ∃ d, d = b &&& (255 - a) := ⟨_, rfl⟩
    rw [← hE] at TE
    rw [← hU] at TU
    rw [← hR] at TR
    have TF := TF.kept hb6
    have C6 := C5.kept hb6
    have B6 := below_far B5 hb6
    have hc8 : c < 256 := by rw [hc]; exact Nat.or_lt_two_pow (n := 8) ha hb
    have hd8 : d < 256 := by rw [hd]; exact Nat.lt_of_le_of_lt Nat.and_le_left hb
    have hor : bits .or .u8 (a : Int) (b : Int) = (c : Int) := by rw [hc, u8_or_nat _ _ ha hb]
    have han : bits .andNot .u8 (b : Int) (a : Int) = (d : Int) := by rw [hd, u8_andNot_nat _ _ hb ha]
    have s1 : bits .and .u8 (supUpto E 8 : Int) (a : Int) = 0 := by rw [hE]; exact sup_free _ a (ex_free F a) ha
    have s2 : bits .and .u8 (supUpto U 8 : Int) (a : Int) = 0 := by rw [hU]; exact sup_free _ a (all_free F a) ha
    have s3 : bits .and .u8 (supUpto R 8 : Int) (a : Int) = 0 := by rw [hR]; exact sup_free _ a (res_free F a n) ha
    go_wp2_with fail
    simp only [List.append, List.setIfInBounds_toArray, List.set_cons_succ, List.set_cons_zero]
    refine wp_region_vals (fun u => Below w6.heap.size w6 u) [(24, tab E), (25, .int .u8 (b : Int)), (26, tab (exUpto E b 8)), (27, tab F), (28, .int .u8 (a : Int)), (29, .int .u8 (b : Int)), (30, .int .u8 (c : Int)), (31, tab (exUpto F c 8)), (32, .bool true), (33, .bool true), (34, tab U), (35, .int .u8 (b : Int)), (36, tab (allUpto U b 8)), (37, tab F), (38, .int .u8 (a : Int)), (39, .int .u8 (b : Int)), (40, .int .u8 (c : Int)), (41, tab (allUpto F c 8)), (42, .bool true), (43, .bool true), (44, .bool true), (45, tab F), (46, tab E), (47, tab (fun x => (F x || E x))), (48, tab E), (49, .bool true), (50, .bool true), (51, .bool true), (52, tab F), (53, tab U), (54, tab (fun x => (F x && U x))), (55, tab U), (56, .bool true), (57, .bool true), (58, .bool true), (59, tab E), (60, .int .u8 (supUpto E 8 : Int)), (61, .int .u8 (a : Int)), (62, .int .u8 (0 : Int)), (63, .bool true), (64, .bool true), (65, .bool true), (66, tab U), (67, .int .u8 (supUpto U 8 : Int)), (68, .int .u8 (a : Int)), (69, .int .u8 (0 : Int)), (70, .bool true), (71, .bool true), (72, .bool true), (73, tab R), (74, .int .u8 (supUpto R 8 : Int)), (75, .int .u8 (a : Int)), (76, .int .u8 (0 : Int)), (77, .bool true), (78, .bool true), (79, .bool true), (80, tab R), (81, tab E), (82, tab (fun x => (R x && E x))), (83, tab R), (84, .bool true), (85, .bool true), (86, .bool true), (87, tab R), (88, tab U), (89, tab (fun x => (R x || U x))), (90, tab R), (91, .bool true), (92, .bool true), (93, .bool true), (94, tab R), (95, .int .u8 (b : Int)), (96, .int .u8 (a : Int)), (97, .int .u8 (d : Int)), (98, .int .u8 (n : Int)), (99, tab (resUpto R d n 8)), (100, tab F), (101, .int .u8 (a : Int)), (102, .int .u8 (b : Int)), (103, .int .u8 (c : Int)), (104, .int .u8 (n : Int)), (105, tab (resUpto F c n 8)), (106, .bool true), (107, .bool true), (8, .bool true)] [24, 25, 26, 27, 28, 29, 30, 31, 32, 33, 34, 35, 36, 37, 38, 39, 40, 41, 42, 43, 44, 45, 46, 47, 48, 49, 50, 51, 52, 53, 54, 55, 56, 57, 58, 59, 60, 61, 62, 63, 64, 65, 66, 67, 68, 69, 70, 71, 72, 73, 74, 75, 76, 77, 78, 79, 80, 81, 82, 83, 84, 85, 86, 87, 88, 89, 90, 91, 92, 93, 94, 95, 96, 97, 98, 99, 100, 101, 102, 103, 104, 105, 106, 107, 8] 108 (by kernel_rfl) (by kernel_rfl) rfl rfl (by decide) rfl rfl (Below.refl _ _).drew ?_ ?_
    · intro i kk hk
      match i, hk with
      | 0, hk => obtain rfl := Option.some.inj hk; exact vok_plain _ rfl rfl rfl (does_val rfl fun ac u hG hL => x_load rfl ((hG.other 9 (by decide)).trans rfl) (run_load24 (TE.kept hG.here)))
      | 1, hk => obtain rfl := Option.some.inj hk; exact vok_plain _ rfl rfl rfl (does_val rfl fun ac u hG hL => x_move rfl ((hG.other 2 (by decide)).trans rfl))
      | 2, hk => obtain rfl := Option.some.inj hk; exact vok_plain _ rfl rfl rfl (does_call #[tab E, .int .u8 (b : Int)] rfl (fun ac u hG hL => x_call rfl (by have e0 : ac.eval (.tmp 24) = tab E := (hL ⟨0, .data⟩ (by simp) rfl _ rfl); have e1 : ac.eval (.tmp 25) = .int .u8 (b : Int) := (hL ⟨1, .data⟩ (by simp) rfl _ rfl); simp only [List.map_toArray, List.map_cons, List.map_nil, e0, e1]) (fun u => call28 _ u)) (callS fun u s => pexists_any E b hb u (C6.kept s)))
      | 3, hk => obtain rfl := Option.some.inj hk; exact vok_plain _ rfl rfl rfl (does_val rfl fun ac u hG hL => x_load rfl ((hG.other 4 (by decide)).trans rfl) (run_load24 (TF.kept hG.here)))
      | 4, hk => obtain rfl := Option.some.inj hk; exact vok_plain _ rfl rfl rfl (does_val rfl fun ac u hG hL => x_move rfl ((hG.other 1 (by decide)).trans rfl))
      | 5, hk => obtain rfl := Option.some.inj hk; exact vok_plain _ rfl rfl rfl (does_val rfl fun ac u hG hL => x_move rfl ((hG.other 2 (by decide)).trans rfl))
      | 6, hk => obtain rfl := Option.some.inj hk; exact vok_plain _ rfl rfl rfl (does_val rfl fun ac u hG hL => x_bin rfl (hL ⟨4, .data⟩ (by simp) rfl _ rfl) (hL ⟨5, .data⟩ (by simp) rfl _ rfl) (grd_or8 _ _ _ _ _) (run_or8 hor u))
      | 7, hk => obtain rfl := Option.some.inj hk; exact vok_plain _ rfl rfl rfl (does_call #[tab F, .int .u8 (c : Int)] rfl (fun ac u hG hL => x_call rfl (by have e0 : ac.eval (.tmp 27) = tab F := (hL ⟨3, .data⟩ (by simp) rfl _ rfl); have e1 : ac.eval (.tmp 30) = .int .u8 (c : Int) := (hL ⟨6, .data⟩ (by simp) rfl _ rfl); simp only [List.map_toArray, List.map_cons, List.map_nil, e0, e1]) (fun u => call28 _ u)) (callS fun u s => pexists_any F c hc8 u (C6.kept s)))
      | 8, hk => obtain rfl := Option.some.inj hk; exact vok_plain _ rfl rfl rfl (does_val rfl fun ac u hG hL => x_bin rfl (hL ⟨2, .data⟩ (by simp) rfl _ rfl) (hL ⟨7, .data⟩ (by simp) rfl _ rfl) (guard_tab _ _ _ _ _) (eql_of (F := (exUpto E b 8)) (G := (exUpto F c 8)) (fun x hx => by subst hE hc; exact ex_ex F a b x hx) u))
      | 9, hk => obtain rfl := Option.some.inj hk; exact vok_plain _ rfl rfl rfl (does_val rfl fun ac u hG hL => x_move rfl (hL ⟨8, .data⟩ (by simp) rfl _ rfl))
      | 10, hk => obtain rfl := Option.some.inj hk; exact vok_sure _ rfl rfl 9 true 33 rfl ⟨⟨9, .guard⟩, by simp, rfl, rfl⟩ rfl (does_val rfl fun ac u hG hL => x_load rfl ((hG.other 10 (by decide)).trans rfl) (run_load24 (TU.kept hG.here)))
      | 11, hk => obtain rfl := Option.some.inj hk; exact vok_sure _ rfl rfl 9 true 33 rfl ⟨⟨9, .guard⟩, by simp, rfl, rfl⟩ rfl (does_val rfl fun ac u hG hL => x_move rfl ((hG.other 2 (by decide)).trans rfl))
      | 12, hk => obtain rfl := Option.some.inj hk; exact vok_sure _ rfl rfl 9 true 33 rfl ⟨⟨9, .chain⟩, by simp, rfl, rfl⟩ rfl (does_call #[tab U, .int .u8 (b : Int)] rfl (fun ac u hG hL => x_call rfl (by have e0 : ac.eval (.tmp 34) = tab U := (hL ⟨10, .data⟩ (by simp) rfl _ rfl); have e1 : ac.eval (.tmp 35) = .int .u8 (b : Int) := (hL ⟨11, .data⟩ (by simp) rfl _ rfl); simp only [List.map_toArray, List.map_cons, List.map_nil, e0, e1]) (fun u => call30 _ u)) (callS fun u s => pforall_any U b hb u (C6.kept s)))
      | 13, hk => obtain rfl := Option.some.inj hk; exact vok_sure _ rfl rfl 9 true 33 rfl ⟨⟨9, .guard⟩, by simp, rfl, rfl⟩ rfl (does_val rfl fun ac u hG hL => x_load rfl ((hG.other 4 (by decide)).trans rfl) (run_load24 (TF.kept hG.here)))
      | 14, hk => obtain rfl := Option.some.inj hk; exact vok_sure _ rfl rfl 9 true 33 rfl ⟨⟨9, .guard⟩, by simp, rfl, rfl⟩ rfl (does_val rfl fun ac u hG hL => x_move rfl ((hG.other 1 (by decide)).trans rfl))
      | 15, hk => obtain rfl := Option.some.inj hk; exact vok_sure _ rfl rfl 9 true 33 rfl ⟨⟨9, .guard⟩, by simp, rfl, rfl⟩ rfl (does_val rfl fun ac u hG hL => x_move rfl ((hG.other 2 (by decide)).trans rfl))
      | 16, hk => obtain rfl := Option.some.inj hk; exact vok_sure _ rfl rfl 9 true 33 rfl ⟨⟨9, .guard⟩, by simp, rfl, rfl⟩ rfl (does_val rfl fun ac u hG hL => x_bin rfl (hL ⟨14, .data⟩ (by simp) rfl _ rfl) (hL ⟨15, .data⟩ (by simp) rfl _ rfl) (grd_or8 _ _ _ _ _) (run_or8 hor u))
      | 17, hk => obtain rfl := Option.some.inj hk; exact vok_sure _ rfl rfl 9 true 33 rfl ⟨⟨9, .guard⟩, by simp, rfl, rfl⟩ rfl (does_call #[tab F, .int .u8 (c : Int)] rfl (fun ac u hG hL => x_call rfl (by have e0 : ac.eval (.tmp 37) = tab F := (hL ⟨13, .data⟩ (by simp) rfl _ rfl); have e1 : ac.eval (.tmp 40) = .int .u8 (c : Int) := (hL ⟨16, .data⟩ (by simp) rfl _ rfl); simp only [List.map_toArray, List.map_cons, List.map_nil, e0, e1]) (fun u => call30 _ u)) (callS fun u s => pforall_any F c hc8 u (C6.kept s)))
      | 18, hk => obtain rfl := Option.some.inj hk; exact vok_sure _ rfl rfl 9 true 33 rfl ⟨⟨9, .guard⟩, by simp, rfl, rfl⟩ rfl (does_val rfl fun ac u hG hL => x_bin rfl (hL ⟨12, .data⟩ (by simp) rfl _ rfl) (hL ⟨17, .data⟩ (by simp) rfl _ rfl) (guard_tab _ _ _ _ _) (eql_of (F := (allUpto U b 8)) (G := (allUpto F c 8)) (fun x hx => by subst hU hc; exact all_all F a b x hx) u))
      | 19, hk => obtain rfl := Option.some.inj hk; exact vok_plain _ rfl rfl rfl (does_val rfl fun ac u hG hL => x_pick (b := true) rfl (hL ⟨9, .data⟩ (by simp) rfl _ rfl) (hL ⟨18, .data⟩ (by simp) rfl _ rfl))
      | 20, hk => obtain rfl := Option.some.inj hk; exact vok_plain _ rfl rfl rfl (does_val rfl fun ac u hG hL => x_move rfl (hL ⟨19, .data⟩ (by simp) rfl _ rfl))
      | 21, hk => obtain rfl := Option.some.inj hk; exact vok_sure _ rfl rfl 20 true 44 rfl ⟨⟨20, .guard⟩, by simp, rfl, rfl⟩ rfl (does_val rfl fun ac u hG hL => x_load rfl ((hG.other 4 (by decide)).trans rfl) (run_load24 (TF.kept hG.here)))
      | 22, hk => obtain rfl := Option.some.inj hk; exact vok_sure _ rfl rfl 20 true 44 rfl ⟨⟨20, .guard⟩, by simp, rfl, rfl⟩ rfl (does_val rfl fun ac u hG hL => x_load rfl ((hG.other 9 (by decide)).trans rfl) (run_load24 (TE.kept hG.here)))
      | 23, hk => obtain rfl := Option.some.inj hk; exact vok_sure _ rfl rfl 20 true 44 rfl ⟨⟨20, .chain⟩, by simp, rfl, rfl⟩ rfl (does_call #[tab F, tab E] rfl (fun ac u hG hL => x_call rfl (by have e0 : ac.eval (.tmp 45) = tab F := (hL ⟨21, .data⟩ (by simp) rfl _ rfl); have e1 : ac.eval (.tmp 46) = tab E := (hL ⟨22, .data⟩ (by simp) rfl _ rfl); simp only [List.map_toArray, List.map_cons, List.map_nil, e0, e1]) (fun u => call18 _ u)) (callS fun u _ => por_any F E u))
      | 24, hk => obtain rfl := Option.some.inj hk; exact vok_sure _ rfl rfl 20 true 44 rfl ⟨⟨20, .guard⟩, by simp, rfl, rfl⟩ rfl (does_val rfl fun ac u hG hL => x_load rfl ((hG.other 9 (by decide)).trans rfl) (run_load24 (TE.kept hG.here)))
      | 25, hk => obtain rfl := Option.some.inj hk; exact vok_sure _ rfl rfl 20 true 44 rfl ⟨⟨20, .guard⟩, by simp, rfl, rfl⟩ rfl (does_val rfl fun ac u hG hL => x_bin rfl (hL ⟨23, .data⟩ (by simp) rfl _ rfl) (hL ⟨24, .data⟩ (by simp) rfl _ rfl) (guard_tab _ _ _ _ _) (eql_of (F := (fun x => (F x || E x))) (G := E) (fun x hx => by subst hE; cases h : F x with | false => rfl | true => simp [ex_self F a x hx h]) u))
      | 26, hk => obtain rfl := Option.some.inj hk; exact vok_plain _ rfl rfl rfl (does_val rfl fun ac u hG hL => x_pick (b := true) rfl (hL ⟨20, .data⟩ (by simp) rfl _ rfl) (hL ⟨25, .data⟩ (by simp) rfl _ rfl))
      | 27, hk => obtain rfl := Option.some.inj hk; exact vok_plain _ rfl rfl rfl (does_val rfl fun ac u hG hL => x_move rfl (hL ⟨26, .data⟩ (by simp) rfl _ rfl))
      | 28, hk => obtain rfl := Option.some.inj hk; exact vok_sure _ rfl rfl 27 true 51 rfl ⟨⟨27, .guard⟩, by simp, rfl, rfl⟩ rfl (does_val rfl fun ac u hG hL => x_load rfl ((hG.other 4 (by decide)).trans rfl) (run_load24 (TF.kept hG.here)))
      | 29, hk => obtain rfl := Option.some.inj hk; exact vok_sure _ rfl rfl 27 true 51 rfl ⟨⟨27, .guard⟩, by simp, rfl, rfl⟩ rfl (does_val rfl fun ac u hG hL => x_load rfl ((hG.other 10 (by decide)).trans rfl) (run_load24 (TU.kept hG.here)))
      | 30, hk => obtain rfl := Option.some.inj hk; exact vok_sure _ rfl rfl 27 true 51 rfl ⟨⟨27, .chain⟩, by simp, rfl, rfl⟩ rfl (does_call #[tab F, tab U] rfl (fun ac u hG hL => x_call rfl (by have e0 : ac.eval (.tmp 52) = tab F := (hL ⟨28, .data⟩ (by simp) rfl _ rfl); have e1 : ac.eval (.tmp 53) = tab U := (hL ⟨29, .data⟩ (by simp) rfl _ rfl); simp only [List.map_toArray, List.map_cons, List.map_nil, e0, e1]) (fun u => call16 _ u)) (callS fun u _ => pand_any F U u))
      | 31, hk => obtain rfl := Option.some.inj hk; exact vok_sure _ rfl rfl 27 true 51 rfl ⟨⟨27, .guard⟩, by simp, rfl, rfl⟩ rfl (does_val rfl fun ac u hG hL => x_load rfl ((hG.other 10 (by decide)).trans rfl) (run_load24 (TU.kept hG.here)))
      | 32, hk => obtain rfl := Option.some.inj hk; exact vok_sure _ rfl rfl 27 true 51 rfl ⟨⟨27, .guard⟩, by simp, rfl, rfl⟩ rfl (does_val rfl fun ac u hG hL => x_bin rfl (hL ⟨30, .data⟩ (by simp) rfl _ rfl) (hL ⟨31, .data⟩ (by simp) rfl _ rfl) (guard_tab _ _ _ _ _) (eql_of (F := (fun x => (F x && U x))) (G := U) (fun x hx => by subst hU; cases h : allUpto F a 8 x with | false => simp | true => simp [all_self F a x hx h]) u))
      | 33, hk => obtain rfl := Option.some.inj hk; exact vok_plain _ rfl rfl rfl (does_val rfl fun ac u hG hL => x_pick (b := true) rfl (hL ⟨27, .data⟩ (by simp) rfl _ rfl) (hL ⟨32, .data⟩ (by simp) rfl _ rfl))
      | 34, hk => obtain rfl := Option.some.inj hk; exact vok_plain _ rfl rfl rfl (does_val rfl fun ac u hG hL => x_move rfl (hL ⟨33, .data⟩ (by simp) rfl _ rfl))
      | 35, hk => obtain rfl := Option.some.inj hk; exact vok_sure _ rfl rfl 34 true 58 rfl ⟨⟨34, .guard⟩, by simp, rfl, rfl⟩ rfl (does_val rfl fun ac u hG hL => x_load rfl ((hG.other 9 (by decide)).trans rfl) (run_load24 (TE.kept hG.here)))
      | 36, hk => obtain rfl := Option.some.inj hk; exact vok_sure _ rfl rfl 34 true 58 rfl ⟨⟨34, .chain⟩, by simp, rfl, rfl⟩ rfl (does_call #[tab E] rfl (fun ac u hG hL => x_call rfl (by have e0 : ac.eval (.tmp 59) = tab E := (hL ⟨35, .data⟩ (by simp) rfl _ rfl); simp only [List.map_toArray, List.map_cons, List.map_nil, e0]) (fun u => call44 _ u)) (callS fun u s => psupport_any E u (C6.kept s)))
      | 37, hk => obtain rfl := Option.some.inj hk; exact vok_sure _ rfl rfl 34 true 58 rfl ⟨⟨34, .guard⟩, by simp, rfl, rfl⟩ rfl (does_val rfl fun ac u hG hL => x_move rfl ((hG.other 1 (by decide)).trans rfl))
      | 38, hk => obtain rfl := Option.some.inj hk; exact vok_sure _ rfl rfl 34 true 58 rfl ⟨⟨34, .guard⟩, by simp, rfl, rfl⟩ rfl (does_val rfl fun ac u hG hL => x_bin rfl (hL ⟨36, .data⟩ (by simp) rfl _ rfl) (hL ⟨37, .data⟩ (by simp) rfl _ rfl) (grd_and8 _ _ _ _ _) (run_and8 s1 u))
      | 39, hk => obtain rfl := Option.some.inj hk; exact vok_sure _ rfl rfl 34 true 58 rfl ⟨⟨34, .guard⟩, by simp, rfl, rfl⟩ rfl (does_val rfl fun ac u hG hL => x_bin rfl (hL ⟨38, .data⟩ (by simp) rfl _ rfl) rfl (grd_eq8 _ _ _ _ _) (run_eq8 0 0 u))
      | 40, hk => obtain rfl := Option.some.inj hk; exact vok_plain _ rfl rfl rfl (does_val rfl fun ac u hG hL => x_pick (b := true) rfl (hL ⟨34, .data⟩ (by simp) rfl _ rfl) (hL ⟨39, .data⟩ (by simp) rfl _ rfl))
      | 41, hk => obtain rfl := Option.some.inj hk; exact vok_plain _ rfl rfl rfl (does_val rfl fun ac u hG hL => x_move rfl (hL ⟨40, .data⟩ (by simp) rfl _ rfl))
      | 42, hk => obtain rfl := Option.some.inj hk; exact vok_sure _ rfl rfl 41 true 65 rfl ⟨⟨41, .guard⟩, by simp, rfl, rfl⟩ rfl (does_val rfl fun ac u hG hL => x_load rfl ((hG.other 10 (by decide)).trans rfl) (run_load24 (TU.kept hG.here)))
      | 43, hk => obtain rfl := Option.some.inj hk; exact vok_sure _ rfl rfl 41 true 65 rfl ⟨⟨41, .chain⟩, by simp, rfl, rfl⟩ rfl (does_call #[tab U] rfl (fun ac u hG hL => x_call rfl (by have e0 : ac.eval (.tmp 66) = tab U := (hL ⟨42, .data⟩ (by simp) rfl _ rfl); simp only [List.map_toArray, List.map_cons, List.map_nil, e0]) (fun u => call44 _ u)) (callS fun u s => psupport_any U u (C6.kept s)))
      | 44, hk => obtain rfl := Option.some.inj hk; exact vok_sure _ rfl rfl 41 true 65 rfl ⟨⟨41, .guard⟩, by simp, rfl, rfl⟩ rfl (does_val rfl fun ac u hG hL => x_move rfl ((hG.other 1 (by decide)).trans rfl))
      | 45, hk => obtain rfl := Option.some.inj hk; exact vok_sure _ rfl rfl 41 true 65 rfl ⟨⟨41, .guard⟩, by simp, rfl, rfl⟩ rfl (does_val rfl fun ac u hG hL => x_bin rfl (hL ⟨43, .data⟩ (by simp) rfl _ rfl) (hL ⟨44, .data⟩ (by simp) rfl _ rfl) (grd_and8 _ _ _ _ _) (run_and8 s2 u))
      | 46, hk => obtain rfl := Option.some.inj hk; exact vok_sure _ rfl rfl 41 true 65 rfl ⟨⟨41, .guard⟩, by simp, rfl, rfl⟩ rfl (does_val rfl fun ac u hG hL => x_bin rfl (hL ⟨45, .data⟩ (by simp) rfl _ rfl) rfl (grd_eq8 _ _ _ _ _) (run_eq8 0 0 u))
      | 47, hk => obtain rfl := Option.some.inj hk; exact vok_plain _ rfl rfl rfl (does_val rfl fun ac u hG hL => x_pick (b := true) rfl (hL ⟨41, .data⟩ (by simp) rfl _ rfl) (hL ⟨46, .data⟩ (by simp) rfl _ rfl))
      | 48, hk => obtain rfl := Option.some.inj hk; exact vok_plain _ rfl rfl rfl (does_val rfl fun ac u hG hL => x_move rfl (hL ⟨47, .data⟩ (by simp) rfl _ rfl))
      | 49, hk => obtain rfl := Option.some.inj hk; exact vok_sure _ rfl rfl 48 true 72 rfl ⟨⟨48, .guard⟩, by simp, rfl, rfl⟩ rfl (does_val rfl fun ac u hG hL => x_load rfl ((hG.other 11 (by decide)).trans rfl) (run_load24 (TR.kept hG.here)))
      | 50, hk => obtain rfl := Option.some.inj hk; exact vok_sure _ rfl rfl 48 true 72 rfl ⟨⟨48, .chain⟩, by simp, rfl, rfl⟩ rfl (does_call #[tab R] rfl (fun ac u hG hL => x_call rfl (by have e0 : ac.eval (.tmp 73) = tab R := (hL ⟨49, .data⟩ (by simp) rfl _ rfl); simp only [List.map_toArray, List.map_cons, List.map_nil, e0]) (fun u => call44 _ u)) (callS fun u s => psupport_any R u (C6.kept s)))
      | 51, hk => obtain rfl := Option.some.inj hk; exact vok_sure _ rfl rfl 48 true 72 rfl ⟨⟨48, .guard⟩, by simp, rfl, rfl⟩ rfl (does_val rfl fun ac u hG hL => x_move rfl ((hG.other 1 (by decide)).trans rfl))
      | 52, hk => obtain rfl := Option.some.inj hk; exact vok_sure _ rfl rfl 48 true 72 rfl ⟨⟨48, .guard⟩, by simp, rfl, rfl⟩ rfl (does_val rfl fun ac u hG hL => x_bin rfl (hL ⟨50, .data⟩ (by simp) rfl _ rfl) (hL ⟨51, .data⟩ (by simp) rfl _ rfl) (grd_and8 _ _ _ _ _) (run_and8 s3 u))
      | 53, hk => obtain rfl := Option.some.inj hk; exact vok_sure _ rfl rfl 48 true 72 rfl ⟨⟨48, .guard⟩, by simp, rfl, rfl⟩ rfl (does_val rfl fun ac u hG hL => x_bin rfl (hL ⟨52, .data⟩ (by simp) rfl _ rfl) rfl (grd_eq8 _ _ _ _ _) (run_eq8 0 0 u))
      | 54, hk => obtain rfl := Option.some.inj hk; exact vok_plain _ rfl rfl rfl (does_val rfl fun ac u hG hL => x_pick (b := true) rfl (hL ⟨48, .data⟩ (by simp) rfl _ rfl) (hL ⟨53, .data⟩ (by simp) rfl _ rfl))
      | 55, hk => obtain rfl := Option.some.inj hk; exact vok_plain _ rfl rfl rfl (does_val rfl fun ac u hG hL => x_move rfl (hL ⟨54, .data⟩ (by simp) rfl _ rfl))
      | 56, hk => obtain rfl := Option.some.inj hk; exact vok_sure _ rfl rfl 55 true 79 rfl ⟨⟨55, .guard⟩, by simp, rfl, rfl⟩ rfl (does_val rfl fun ac u hG hL => x_load rfl ((hG.other 11 (by decide)).trans rfl) (run_load24 (TR.kept hG.here)))
      | 57, hk => obtain rfl := Option.some.inj hk; exact vok_sure _ rfl rfl 55 true 79 rfl ⟨⟨55, .guard⟩, by simp, rfl, rfl⟩ rfl (does_val rfl fun ac u hG hL => x_load rfl ((hG.other 9 (by decide)).trans rfl) (run_load24 (TE.kept hG.here)))
      | 58, hk => obtain rfl := Option.some.inj hk; exact vok_sure _ rfl rfl 55 true 79 rfl ⟨⟨55, .chain⟩, by simp, rfl, rfl⟩ rfl (does_call #[tab R, tab E] rfl (fun ac u hG hL => x_call rfl (by have e0 : ac.eval (.tmp 80) = tab R := (hL ⟨56, .data⟩ (by simp) rfl _ rfl); have e1 : ac.eval (.tmp 81) = tab E := (hL ⟨57, .data⟩ (by simp) rfl _ rfl); simp only [List.map_toArray, List.map_cons, List.map_nil, e0, e1]) (fun u => call16 _ u)) (callS fun u _ => pand_any R E u))
      | 59, hk => obtain rfl := Option.some.inj hk; exact vok_sure _ rfl rfl 55 true 79 rfl ⟨⟨55, .guard⟩, by simp, rfl, rfl⟩ rfl (does_val rfl fun ac u hG hL => x_load rfl ((hG.other 11 (by decide)).trans rfl) (run_load24 (TR.kept hG.here)))
      | 60, hk => obtain rfl := Option.some.inj hk; exact vok_sure _ rfl rfl 55 true 79 rfl ⟨⟨55, .guard⟩, by simp, rfl, rfl⟩ rfl (does_val rfl fun ac u hG hL => x_bin rfl (hL ⟨58, .data⟩ (by simp) rfl _ rfl) (hL ⟨59, .data⟩ (by simp) rfl _ rfl) (guard_tab _ _ _ _ _) (eql_of (F := (fun x => (R x && E x))) (G := R) (fun x hx => by subst hR hE; cases h : resUpto F a n 8 x with | false => simp | true => simp [res_ex F a n x hx h]) u))
      | 61, hk => obtain rfl := Option.some.inj hk; exact vok_plain _ rfl rfl rfl (does_val rfl fun ac u hG hL => x_pick (b := true) rfl (hL ⟨55, .data⟩ (by simp) rfl _ rfl) (hL ⟨60, .data⟩ (by simp) rfl _ rfl))
      | 62, hk => obtain rfl := Option.some.inj hk; exact vok_plain _ rfl rfl rfl (does_val rfl fun ac u hG hL => x_move rfl (hL ⟨61, .data⟩ (by simp) rfl _ rfl))
      | 63, hk => obtain rfl := Option.some.inj hk; exact vok_sure _ rfl rfl 62 true 86 rfl ⟨⟨62, .guard⟩, by simp, rfl, rfl⟩ rfl (does_val rfl fun ac u hG hL => x_load rfl ((hG.other 11 (by decide)).trans rfl) (run_load24 (TR.kept hG.here)))
      | 64, hk => obtain rfl := Option.some.inj hk; exact vok_sure _ rfl rfl 62 true 86 rfl ⟨⟨62, .guard⟩, by simp, rfl, rfl⟩ rfl (does_val rfl fun ac u hG hL => x_load rfl ((hG.other 10 (by decide)).trans rfl) (run_load24 (TU.kept hG.here)))
      | 65, hk => obtain rfl := Option.some.inj hk; exact vok_sure _ rfl rfl 62 true 86 rfl ⟨⟨62, .chain⟩, by simp, rfl, rfl⟩ rfl (does_call #[tab R, tab U] rfl (fun ac u hG hL => x_call rfl (by have e0 : ac.eval (.tmp 87) = tab R := (hL ⟨63, .data⟩ (by simp) rfl _ rfl); have e1 : ac.eval (.tmp 88) = tab U := (hL ⟨64, .data⟩ (by simp) rfl _ rfl); simp only [List.map_toArray, List.map_cons, List.map_nil, e0, e1]) (fun u => call18 _ u)) (callS fun u _ => por_any R U u))
      | 66, hk => obtain rfl := Option.some.inj hk; exact vok_sure _ rfl rfl 62 true 86 rfl ⟨⟨62, .guard⟩, by simp, rfl, rfl⟩ rfl (does_val rfl fun ac u hG hL => x_load rfl ((hG.other 11 (by decide)).trans rfl) (run_load24 (TR.kept hG.here)))
      | 67, hk => obtain rfl := Option.some.inj hk; exact vok_sure _ rfl rfl 62 true 86 rfl ⟨⟨62, .guard⟩, by simp, rfl, rfl⟩ rfl (does_val rfl fun ac u hG hL => x_bin rfl (hL ⟨65, .data⟩ (by simp) rfl _ rfl) (hL ⟨66, .data⟩ (by simp) rfl _ rfl) (guard_tab _ _ _ _ _) (eql_of (F := (fun x => (R x || U x))) (G := R) (fun x hx => by subst hR hU; cases h : allUpto F a 8 x with | false => simp | true => simp [all_res F a n x hx h]) u))
      | 68, hk => obtain rfl := Option.some.inj hk; exact vok_plain _ rfl rfl rfl (does_val rfl fun ac u hG hL => x_pick (b := true) rfl (hL ⟨62, .data⟩ (by simp) rfl _ rfl) (hL ⟨67, .data⟩ (by simp) rfl _ rfl))
      | 69, hk => obtain rfl := Option.some.inj hk; exact vok_plain _ rfl rfl rfl (does_val rfl fun ac u hG hL => x_move rfl (hL ⟨68, .data⟩ (by simp) rfl _ rfl))
      | 70, hk => obtain rfl := Option.some.inj hk; exact vok_sure _ rfl rfl 69 true 93 rfl ⟨⟨69, .guard⟩, by simp, rfl, rfl⟩ rfl (does_val rfl fun ac u hG hL => x_load rfl ((hG.other 11 (by decide)).trans rfl) (run_load24 (TR.kept hG.here)))
      | 71, hk => obtain rfl := Option.some.inj hk; exact vok_sure _ rfl rfl 69 true 93 rfl ⟨⟨69, .guard⟩, by simp, rfl, rfl⟩ rfl (does_val rfl fun ac u hG hL => x_move rfl ((hG.other 2 (by decide)).trans rfl))
      | 72, hk => obtain rfl := Option.some.inj hk; exact vok_sure _ rfl rfl 69 true 93 rfl ⟨⟨69, .guard⟩, by simp, rfl, rfl⟩ rfl (does_val rfl fun ac u hG hL => x_move rfl ((hG.other 1 (by decide)).trans rfl))
      | 73, hk => obtain rfl := Option.some.inj hk; exact vok_sure _ rfl rfl 69 true 93 rfl ⟨⟨69, .guard⟩, by simp, rfl, rfl⟩ rfl (does_val rfl fun ac u hG hL => x_bin rfl (hL ⟨71, .data⟩ (by simp) rfl _ rfl) (hL ⟨72, .data⟩ (by simp) rfl _ rfl) (grd_andNot8 _ _ _ _ _) (run_andNot8 han u))
      | 74, hk => obtain rfl := Option.some.inj hk; exact vok_sure _ rfl rfl 69 true 93 rfl ⟨⟨69, .guard⟩, by simp, rfl, rfl⟩ rfl (does_val rfl fun ac u hG hL => x_move rfl ((hG.other 3 (by decide)).trans rfl))
      | 75, hk => obtain rfl := Option.some.inj hk; exact vok_sure _ rfl rfl 69 true 93 rfl ⟨⟨69, .chain⟩, by simp, rfl, rfl⟩ rfl (does_call #[tab R, .int .u8 (d : Int), .int .u8 (n : Int)] rfl (fun ac u hG hL => x_call rfl (by have e0 : ac.eval (.tmp 94) = tab R := (hL ⟨70, .data⟩ (by simp) rfl _ rfl); have e1 : ac.eval (.tmp 97) = .int .u8 (d : Int) := (hL ⟨73, .data⟩ (by simp) rfl _ rfl); have e2 : ac.eval (.tmp 98) = .int .u8 (n : Int) := (hL ⟨74, .data⟩ (by simp) rfl _ rfl); simp only [List.map_toArray, List.map_cons, List.map_nil, e0, e1, e2]) (fun u => call32 _ u)) (callS fun u s => prestrict_any R d n hd8 hn u (C6.kept s)))
      | 76, hk => obtain rfl := Option.some.inj hk; exact vok_sure _ rfl rfl 69 true 93 rfl ⟨⟨69, .guard⟩, by simp, rfl, rfl⟩ rfl (does_val rfl fun ac u hG hL => x_load rfl ((hG.other 4 (by decide)).trans rfl) (run_load24 (TF.kept hG.here)))
      | 77, hk => obtain rfl := Option.some.inj hk; exact vok_sure _ rfl rfl 69 true 93 rfl ⟨⟨69, .guard⟩, by simp, rfl, rfl⟩ rfl (does_val rfl fun ac u hG hL => x_move rfl ((hG.other 1 (by decide)).trans rfl))
      | 78, hk => obtain rfl := Option.some.inj hk; exact vok_sure _ rfl rfl 69 true 93 rfl ⟨⟨69, .guard⟩, by simp, rfl, rfl⟩ rfl (does_val rfl fun ac u hG hL => x_move rfl ((hG.other 2 (by decide)).trans rfl))
      | 79, hk => obtain rfl := Option.some.inj hk; exact vok_sure _ rfl rfl 69 true 93 rfl ⟨⟨69, .guard⟩, by simp, rfl, rfl⟩ rfl (does_val rfl fun ac u hG hL => x_bin rfl (hL ⟨77, .data⟩ (by simp) rfl _ rfl) (hL ⟨78, .data⟩ (by simp) rfl _ rfl) (grd_or8 _ _ _ _ _) (run_or8 hor u))
      | 80, hk => obtain rfl := Option.some.inj hk; exact vok_sure _ rfl rfl 69 true 93 rfl ⟨⟨69, .guard⟩, by simp, rfl, rfl⟩ rfl (does_val rfl fun ac u hG hL => x_move rfl ((hG.other 3 (by decide)).trans rfl))
      | 81, hk => obtain rfl := Option.some.inj hk; exact vok_sure _ rfl rfl 69 true 93 rfl ⟨⟨69, .guard⟩, by simp, rfl, rfl⟩ rfl (does_call #[tab F, .int .u8 (c : Int), .int .u8 (n : Int)] rfl (fun ac u hG hL => x_call rfl (by have e0 : ac.eval (.tmp 100) = tab F := (hL ⟨76, .data⟩ (by simp) rfl _ rfl); have e1 : ac.eval (.tmp 103) = .int .u8 (c : Int) := (hL ⟨79, .data⟩ (by simp) rfl _ rfl); have e2 : ac.eval (.tmp 104) = .int .u8 (n : Int) := (hL ⟨80, .data⟩ (by simp) rfl _ rfl); simp only [List.map_toArray, List.map_cons, List.map_nil, e0, e1, e2]) (fun u => call32 _ u)) (callS fun u s => prestrict_any F c n hc8 hn u (C6.kept s)))
      | 82, hk => obtain rfl := Option.some.inj hk; exact vok_sure _ rfl rfl 69 true 93 rfl ⟨⟨69, .guard⟩, by simp, rfl, rfl⟩ rfl (does_val rfl fun ac u hG hL => x_bin rfl (hL ⟨75, .data⟩ (by simp) rfl _ rfl) (hL ⟨81, .data⟩ (by simp) rfl _ rfl) (guard_tab _ _ _ _ _) (eql_of (F := (resUpto R d n 8)) (G := (resUpto F c n 8)) (fun x hx => by subst hR hc hd; exact res_res F a b n x ha hx) u))
      | 83, hk => obtain rfl := Option.some.inj hk; exact vok_plain _ rfl rfl rfl (does_val rfl fun ac u hG hL => x_pick (b := true) rfl (hL ⟨69, .data⟩ (by simp) rfl _ rfl) (hL ⟨82, .data⟩ (by simp) rfl _ rfl))
      | 84, hk => obtain rfl := Option.some.inj hk; exact vok_plain _ rfl rfl rfl (does_val rfl fun ac u hG hL => x_assign rfl (hL ⟨83, .data⟩ (by simp) rfl _ rfl))
      | i + 85, hk => simp at hk
    · intro w7 S7
      simp only [vfin, Act.put, List.setIfInBounds_toArray, List.set_cons_succ, List.set_cons_zero]
      go_wp2_with fail
      go_ret
      exact ⟨rfl, below_far B6 S7⟩
end Go.Proofs.YtmfocngdobcfcaaDoor
