/-
  A function made node by node: the walk of the statements' help.
-/
import Derived.Test.YtdmfbfbebcneeaaMadeS
import Derived.Test.YtdmfbfbebcneeaaOnce
import Derived.Test.YtdmfbfbebcneeaaRfPartsO
namespace Go.Proofs.Ytdmfbfbebcneeaa
open Go Go.RowKit
open Rf (fixAt fixF tab word same IsTab)

theorem same_false {F G : Nat → Bool} (h : ¬ Eqt F G) : same F G = false := by
  cases e : same F G with
  | false => rfl
  | true => exact absurd ((Rf.same_iff F G).1 e) h
theorem same_true {F G : Nat → Bool} (h : Eqt F G) : same F G = true := (Rf.same_iff F G).2 h
theorem run_eqT (F G : Nat → Bool) (w : World) : (binOp .eql 46 (tab F) (tab G)).run Try.prog w = .ok (.bool (same F G)) w := by
  have h : (Op.equalIn 10000 46 (tab F) (tab G)).run Try.prog w = .ok (same F G) w := Rf.equal_tab F G w
  unfold tab at h ⊢
  go_simp
theorem guard_eqT (x y : Operand) (F G : Nat → Bool) (w : World) : (eqGuard .eql 46 x y (tab F) (tab G)).run Try.prog w = .ok () w := run_eqGuard_agg (P := Try.prog) w .eql 46 x y _ _ (by kernel_rfl)
theorem callConst (vs : Array Value) (w : World) : (callFunc 53 vs).run Try.prog w = .ok (.enter 53 vs) w := by
  have h := Try.func53
  go_simp
theorem callFix (vs : Array Value) (w : World) : (callFunc 42 vs).run Try.prog w = .ok (.enter 42 vs) w := by
  have h := Try.func42
  go_simp
theorem idxI (bv ov k n cap : Nat) (h : k < n) (w : World) : (Instr.indexAt 47 (.slice (some ⟨bv, ov, none⟩) n cap) (.int .i64 (k : Int))).run Try.prog w = .ok (.pointer (some ⟨bv, ov + k, none⟩)) w := by
  have h1 : (k : Int) < (n : Int) := by omega
  go_simp
theorem loadI {w : World} {ad : Addr} {v : Int} (h : w.cell? ad = some (.int .i64 v)) : (Instr.loadAt 3 (.pointer (some ad))).run Try.prog w = .ok (.int .i64 v) w := by
  go_simp
theorem kept {w w' : World} {b : Nat} {F : Nat → Bool} (h : IsTab w b F) (k : Below w.heap.size w w') : IsTab w' b F := h.below k h.lt

open Rf (gval gval_pos gval_neg does_val does_call does_if vok_plain vok_maybe x_move x_load x_bin x_call x_pick x_assign wp_region_vals run_load24)
set_option maxRecDepth 100000 in
set_option maxHeartbeats 4000000 in
theorem made_step {w : World} {S : Nat} {F0 : Nat → Prop} {M : Mdl} {k : Nat} {F : Nat → Bool} {g capv : Nat} (h : St w S F0 M) (hk : k ≤ M.n) (dep : Dep M k F) (row : w.rowIs g 3 M.n (fun i => .int .i64 (M.v i : Int))) (room : M.up + (2 ^ (M.n - 2 - k) - 1) + 19 ≤ M.room)
    (ih : k < M.n → ∀ {w : World} {F0 : Nat → Prop} {M' : Mdl} {F : Nat → Bool}, St w S F0 M' → M'.n = M.n → Dep M' (k + 1) F → w.rowIs g 3 M'.n (fun i => .int .i64 (M'.v i : Int)) → M'.up + (2 ^ (M'.n - 2 - (k + 1)) - 1) + 19 ≤ M'.room → Calls Try.prog 43 #[.pointer (some ⟨S, 0, none⟩), tab F, .slice (some ⟨g, 0, none⟩) M'.n capv, .int .i64 ((k + 1 : Nat) : Int)] w fun e w' => ∃ x M'', e = .returned (.tuple #[.int .u32 ((x : Nat) : Int), .bool true]) ∧ (∃ F', St w' S F' M'' ∧ Wf F0 F' w w') ∧ MadeIs M' (k + 1) F x M'') :
    Calls Try.prog 43 #[.pointer (some ⟨S, 0, none⟩), tab F, .slice (some ⟨g, 0, none⟩) M.n capv, .int .i64 (k : Int)] w fun e w' => ∃ x M', e = .returned (.tuple #[.int .u32 ((x : Nat) : Int), .bool true]) ∧ (∃ F', St w' S F' M' ∧ Wf F0 F' w w') ∧ MadeIs M k F x M' := by
  obtain ⟨c0, hc0⟩ : ∃ c0, same F (fun _ => false) = c0 := ⟨_, rfl⟩
  obtain ⟨c1, hc1⟩ : ∃ c1, same F (fun _ => true) = c1 := ⟨_, rfl⟩
  have c0A : Aside (same F (fun _ => false) = c0) := hc0
  have c1A : Aside (same F (fun _ => true) = c1) := hc1
  have r0 : ∀ w, (binOp .eql 46 (tab F) (tab (fun _ => false))).run Try.prog w = .ok (.bool c0) w := fun w => by rw [← hc0]; exact run_eqT _ _ w
  have r1 : ∀ w, (binOp .eql 46 (tab F) (tab (fun _ => true))).run Try.prog w = .ok (.bool c1) w := fun w => by rw [← hc1]; exact run_eqT _ _ w
  clear hc0 hc1
  conv in #[Value.pointer (some ⟨S, 0, none⟩), tab F, Value.slice (some ⟨g, 0, none⟩) M.n capv, Value.int .i64 (k : Int)] => unfold tab
  go_enter Try.func43, Try.ntmps43
  go_wp2_with fail
  have TF := IsTab.new w F
  have B0 := (Below.refl _ w).alloc (Nat.le_refl _) (.cells #[.int .u64 (word F 0 : Int), .int .u64 (word F 1 : Int), .int .u64 (word F 2 : Int), .int .u64 (word F 3 : Int)] 46)
  generalize w.alloc (.cells #[.int .u64 (word F 0 : Int), .int .u64 (word F 1 : Int), .int .u64 (word F 2 : Int), .int .u64 (word F 3 : Int)] 46) = w4 at TF B0 ⊢
  have B0A : Aside (Below w.heap.size w w4) := B0
  generalize hB : w.heap.size = b at TF ⊢
  have hBA : Aside (w.heap.size = b) := hB
  clear hB
  refine wp_region_vals (fun u => Below w4.heap.size w4 u) [(18, tab F), (19, tab (fun _ => false)), (20, .bool c0), (21, .bool c0), (22, gval c0 false (tab F)), (23, gval c0 false (tab (fun _ => true))), (24, gval c0 false (.bool c1)), (25, .bool (c0 || c1))] [18, 19, 20, 21, 22, 23, 24, 25] 91 (by kernel_rfl) (by kernel_rfl) rfl rfl (by decide) rfl (by decide) ((Below.refl _ _).drew) ?_ ?_
  · intro i kk hkk
    match i, hkk with
    | 0, hk => obtain rfl := Option.some.inj hk; exact vok_plain _ rfl rfl rfl (does_val rfl fun ac u hG hL => x_load rfl ((hG.other 5 (by decide)).trans rfl) (run_load24 (kept TF hG.here)))
    | 1, hk => obtain rfl := Option.some.inj hk; exact vok_plain _ rfl rfl rfl (does_call #[.bool false] rfl (fun ac u hG hL => x_call rfl (by simp [Act.eval]) (fun w => callConst _ w)) (fun u hu => (Rf.const_any false u).mono fun e w' q => ⟨q.1, Rf.below_far hu q.2⟩))
    | 2, hk => obtain rfl := Option.some.inj hk; exact vok_plain _ rfl rfl rfl (does_val rfl fun ac u hG hL => x_bin rfl (hL ⟨0, .data⟩ (by simp) rfl _ rfl) (hL ⟨1, .data⟩ (by simp) rfl _ rfl) (guard_eqT _ _ _ _ _) (r0 u))
    | 3, hk => obtain rfl := Option.some.inj hk; exact vok_plain _ rfl rfl rfl (does_val rfl fun ac u hG hL => x_move rfl (hL ⟨2, .data⟩ (by simp) rfl _ rfl))
    | 4, hk => obtain rfl := Option.some.inj hk; exact vok_maybe _ rfl rfl 3 false 21 c0 rfl ⟨⟨3, .guard⟩, by simp, rfl, rfl⟩ rfl (fun e => gval_neg e) (fun e => does_if e (does_val rfl fun ac u hG hL => x_load rfl ((hG.other 5 (by decide)).trans rfl) (run_load24 (kept TF hG.here))))
    | 5, hk => obtain rfl := Option.some.inj hk; exact vok_maybe _ rfl rfl 3 false 21 c0 rfl ⟨⟨3, .guard⟩, by simp, rfl, rfl⟩ rfl (fun e => gval_neg e) (fun e => does_if e (does_call #[.bool true] rfl (fun ac u hG hL => x_call rfl (by simp [Act.eval]) (fun w => callConst _ w)) (fun u hu => (Rf.const_any true u).mono fun e w' q => ⟨q.1, Rf.below_far hu q.2⟩)))
    | 6, hk => obtain rfl := Option.some.inj hk; exact vok_maybe _ rfl rfl 3 false 21 c0 rfl ⟨⟨3, .guard⟩, by simp, rfl, rfl⟩ rfl (fun e => gval_neg e) (fun e => does_if e (does_val rfl fun ac u hG hL => x_bin rfl ((hL ⟨4, .data⟩ (by simp) rfl _ rfl).trans (gval_pos e)) ((hL ⟨5, .data⟩ (by simp) rfl _ rfl).trans (gval_pos e)) (guard_eqT _ _ _ _ _) (r1 u)))
    | 7, hk => obtain rfl := Option.some.inj hk; exact vok_plain _ rfl rfl rfl (does_val rfl fun ac u hG hL => x_pick (b := c0) rfl (hL ⟨3, .data⟩ (by simp) rfl _ rfl) (by cases c0 with | true => rfl | false => exact (hL ⟨6, .data⟩ (by simp) rfl _ rfl)))
    | i + 8, hk => simp at hk
  · intro w5 s5
    simp only [Rf.vfin, Act.put, List.setIfInBounds_toArray, List.set_cons_succ, List.set_cons_zero]
    have TF5 := kept TF s5
    have B5 : Below w.heap.size w w5 := Rf.below_far B0A.out s5
    have h5 := h.below B5
    have row5 := row.of_block (B5.block g row.lt)
    have B5A : Aside (Below w.heap.size w w5) := B5
    clear s5 TF B0 B5
    have reg2 : Aside (∀ (z : Bool), same F (fun _ => true) = z → ∀ w, (binOp .eql 46 (tab F) (tab (fun _ => true))).run Try.prog w = .ok (.bool z) w) := fun z hz w => by rw [← hz]; exact run_eqT _ _ w
    clear r0 r1
    cases c0 with
    | true =>
      have e0 : Eqt F (fun _ => false) := (Rf.same_iff _ _).1 c0A.out
      have z1 := reg2.out false (same_false fun e => by have h1 := e0 0 (by omega); have h2 := e 0 (by omega); rw [h1] at h2; cases h2)
      have fin : Aside (MadeIs M k F 0 M) := MadeIs.const hk 0 (by omega) (by simpa using e0)
      clear e0 reg2
      simp only [Bool.true_or]
      go_wp2_with fail
      refine wp_region_vals (fun u => Below w5.heap.size w5 u) [(26, tab F), (27, tab (fun _ => true)), (28, .bool false)] [26, 27, 28] 91 (by kernel_rfl) (by kernel_rfl) rfl rfl (by decide) rfl (by decide) ((Below.refl _ _).drew) ?_ ?_
      · intro i kk hkk
        match i, hkk with
        | 0, hk => obtain rfl := Option.some.inj hk; exact vok_plain _ rfl rfl rfl (does_val rfl fun ac u hG hL => x_load rfl ((hG.other 5 (by decide)).trans rfl) (run_load24 (kept TF5 hG.here)))
        | 1, hk => obtain rfl := Option.some.inj hk; exact vok_plain _ rfl rfl rfl (does_call #[.bool true] rfl (fun ac u hG hL => x_call rfl (by simp [Act.eval]) (fun w => callConst _ w)) (fun u hu => (Rf.const_any true u).mono fun e w' q => ⟨q.1, Rf.below_far hu q.2⟩))
        | 2, hk => obtain rfl := Option.some.inj hk; exact vok_plain _ rfl rfl rfl (does_val rfl fun ac u hG hL => x_bin rfl (hL ⟨0, .data⟩ (by simp) rfl _ rfl) (hL ⟨1, .data⟩ (by simp) rfl _ rfl) (guard_eqT _ _ _ _ _) (z1 u))
        | i + 3, hk => simp at hk
      · intro w6 s6
        simp only [Rf.vfin, Act.put, List.setIfInBounds_toArray, List.set_cons_succ, List.set_cons_zero]
        go_wp2_with fail
        go_ret2
        have B6 := Rf.below_far B5A.out s6
        exact ⟨0, M, rfl, ⟨F0, h.below B6, Wf.of_below B6 F0⟩, fin.out⟩
    | false =>
      simp only [Bool.false_or]
      cases c1 with
      | true =>
        have e1 : Eqt F (fun _ => true) := (Rf.same_iff _ _).1 c1A.out
        have z1 := reg2.out true c1A.out
        have fin : Aside (MadeIs M k F 1 M) := MadeIs.const hk 1 (by omega) (by simpa using e1)
        clear e1 reg2
        go_wp2_with fail
        refine wp_region_vals (fun u => Below w5.heap.size w5 u) [(26, tab F), (27, tab (fun _ => true)), (28, .bool true)] [26, 27, 28] 91 (by kernel_rfl) (by kernel_rfl) rfl rfl (by decide) rfl (by decide) ((Below.refl _ _).drew) ?_ ?_
        · intro i kk hkk
          match i, hkk with
          | 0, hk => obtain rfl := Option.some.inj hk; exact vok_plain _ rfl rfl rfl (does_val rfl fun ac u hG hL => x_load rfl ((hG.other 5 (by decide)).trans rfl) (run_load24 (kept TF5 hG.here)))
          | 1, hk => obtain rfl := Option.some.inj hk; exact vok_plain _ rfl rfl rfl (does_call #[.bool true] rfl (fun ac u hG hL => x_call rfl (by simp [Act.eval]) (fun w => callConst _ w)) (fun u hu => (Rf.const_any true u).mono fun e w' q => ⟨q.1, Rf.below_far hu q.2⟩))
          | 2, hk => obtain rfl := Option.some.inj hk; exact vok_plain _ rfl rfl rfl (does_val rfl fun ac u hG hL => x_bin rfl (hL ⟨0, .data⟩ (by simp) rfl _ rfl) (hL ⟨1, .data⟩ (by simp) rfl _ rfl) (guard_eqT _ _ _ _ _) (z1 u))
          | i + 3, hk => simp at hk
        · intro w6 s6
          simp only [Rf.vfin, Act.put, List.setIfInBounds_toArray, List.set_cons_succ, List.set_cons_zero]
          go_wp2_with fail
          go_ret2
          have B6 := Rf.below_far B5A.out s6
          exact ⟨1, M, rfl, ⟨F0, h.below B6, Wf.of_below B6 F0⟩, fin.out⟩
      | false =>
        have nc : Aside (¬ Cst F) := fun c => by
          rcases c with c | c
          · have := same_true c; rw [c0A.out] at this; cases this
          · have := same_true c; rw [c1A.out] at this; cases this
        clear reg2
        have hkn : k < M.n := by
          refine Nat.lt_of_le_of_ne hk fun e => nc.out ?_
          rw [e] at dep
          have := dep.const
          cases q : F 0 with
          | false => rw [q] at this; exact .inl this
          | true => rw [q] at this; exact .inr this
        have o := h.ok
        have hv : M.v k < 8 := by have := o.vlt k hkn; have := o.le8; omega
        have hkn' : ¬ (M.n : Int) ≤ (k : Int) := by omega
        have hkn2 : ¬ M.n ≤ k := by omega
        have cv : ∀ u, Below w5.heap.size w5 u → u.cell? ⟨g, 0 + k, none⟩ = some (.int .i64 (M.v k : Int)) := fun u hu => by
          rw [Nat.zero_add, hu.cell row5.lt]
          exact row5.cell hkn
        obtain ⟨X, hX⟩ : ∃ X, fixF F (M.v k) false = X := ⟨_, rfl⟩
        obtain ⟨Y, hY⟩ : ∃ Y, fixF F (M.v k) true = Y := ⟨_, rfl⟩
        have KX : ∀ u, Calls Try.prog 42 #[tab F, .int .i64 (M.v k : Int), .bool false] u fun e w' => e = .returned (tab X) ∧ Below u.heap.size u w' := fun u => by rw [← hX]; exact Rf.fix_any F (M.v k) hv false u
        have KY : ∀ u, Calls Try.prog 42 #[tab F, .int .i64 (M.v k : Int), .bool true] u fun e w' => e = .returned (tab Y) ∧ Below u.heap.size u w' := fun u => by rw [← hY]; exact Rf.fix_any F (M.v k) hv true u
        have hXA : Aside (fixF F (M.v k) false = X) := hX
        have hYA : Aside (fixF F (M.v k) true = Y) := hY
        clear hX hY
        go_wp2_with fail
        refine Rf.wp_region_tabs' [.val 33 (tab F), .val 34 (.slice (some ⟨g, 0, none⟩) M.n capv), .val 35 (.int .i64 (k : Int)), .val 36 (.pointer (some ⟨g, 0 + k, none⟩)), .val 37 (.int .i64 (M.v k : Int)), .val 38 (tab X), .val 39 (tab F), .val 40 (.slice (some ⟨g, 0, none⟩) M.n capv), .val 41 (.int .i64 (k : Int)), .val 42 (.pointer (some ⟨g, 0 + k, none⟩)), .val 43 (.int .i64 (M.v k : Int)), .val 44 (tab Y), .new 10, .new 11, .put 10 X, .put 11 Y] [33, 34, 35, 36, 37, 38, 39, 40, 41, 42, 43, 44, 10, 11] [10, 11] [10, 11] 91 (by kernel_rfl) (by kernel_rfl) rfl rfl rfl rfl (by decide) (by decide) rfl (by decide) ?_ ?_ ?_
        · intro s hs c hc
          simp only [List.mem_cons, List.not_mem_nil, or_false] at hs
          rcases hs with rfl | rfl
          · exact absurd (show undef = Rf.ptr c from hc) (by simp [undef, Rf.ptr])
          · exact absurd (show undef = Rf.ptr c from hc) (by simp [undef, Rf.ptr])
        · intro i kk hk
          match i, hk with
          | 0, hk => obtain rfl := Option.some.inj hk; exact ⟨_, rfl, rfl, rfl, fun a u hG hpre K hK => Rf.wp_load (b := b) rfl rfl ((hG.other 5 (by decide)).trans rfl) (kept TF5 hG.below) hK⟩
          | 1, hk => obtain rfl := Option.some.inj hk; exact ⟨_, rfl, rfl, rfl, fun a u hG hpre K hK => Rf.wp_move rfl rfl ((hG.other 2 (by decide)).trans rfl) hK⟩
          | 2, hk => obtain rfl := Option.some.inj hk; exact ⟨_, rfl, rfl, rfl, fun a u hG hpre K hK => Rf.wp_move rfl rfl ((hG.other 3 (by decide)).trans rfl) hK⟩
          | 3, hk => obtain rfl := Option.some.inj hk; exact ⟨_, rfl, rfl, rfl, fun ac u hG hpre K hK => Rf.wp_val rfl (Rf.x_index rfl (hpre ⟨1, .data⟩ (by simp) rfl _ rfl) (hpre ⟨2, .data⟩ (by simp) rfl _ rfl) (idxI g 0 k M.n capv hkn u)) (hK u (Below.refl _ _))⟩
          | 4, hk => obtain rfl := Option.some.inj hk; exact ⟨_, rfl, rfl, rfl, fun ac u hG hpre K hK => Rf.wp_val rfl (x_load rfl (hpre ⟨3, .data⟩ (by simp) rfl _ rfl) (loadI (cv u hG.below))) (hK u (Below.refl _ _))⟩
          | 5, hk =>
            obtain rfl := Option.some.inj hk
            refine ⟨_, rfl, rfl, rfl, fun ac u hG hpre K hK => ?_⟩
            have e0 : ac.eval (.tmp 33) = tab F := hpre ⟨0, .data⟩ (by simp) rfl _ rfl
            have e1 : ac.eval (.tmp 37) = .int .i64 (M.v k : Int) := hpre ⟨4, .data⟩ (by simp) rfl _ rfl
            have e2 : ac.eval (.const (.bool false)) = .bool false := rfl
            exact Rf.wp_call rfl (Rf.run_call rfl #[tab F, .int .i64 (M.v k : Int), .bool false] (fun vs => callFix vs u) (by simp only [List.map_toArray, List.map_cons, List.map_nil, e0, e1, e2])) (KX u) hK
          | 6, hk => obtain rfl := Option.some.inj hk; exact ⟨_, rfl, rfl, rfl, fun a u hG hpre K hK => Rf.wp_load (b := b) rfl rfl ((hG.other 5 (by decide)).trans rfl) (kept TF5 hG.below) hK⟩
          | 7, hk => obtain rfl := Option.some.inj hk; exact ⟨_, rfl, rfl, rfl, fun a u hG hpre K hK => Rf.wp_move rfl rfl ((hG.other 2 (by decide)).trans rfl) hK⟩
          | 8, hk => obtain rfl := Option.some.inj hk; exact ⟨_, rfl, rfl, rfl, fun a u hG hpre K hK => Rf.wp_move rfl rfl ((hG.other 3 (by decide)).trans rfl) hK⟩
          | 9, hk => obtain rfl := Option.some.inj hk; exact ⟨_, rfl, rfl, rfl, fun ac u hG hpre K hK => Rf.wp_val rfl (Rf.x_index rfl (hpre ⟨7, .data⟩ (by simp) rfl _ rfl) (hpre ⟨8, .data⟩ (by simp) rfl _ rfl) (idxI g 0 k M.n capv hkn u)) (hK u (Below.refl _ _))⟩
          | 10, hk => obtain rfl := Option.some.inj hk; exact ⟨_, rfl, rfl, rfl, fun ac u hG hpre K hK => Rf.wp_val rfl (x_load rfl (hpre ⟨9, .data⟩ (by simp) rfl _ rfl) (loadI (cv u hG.below))) (hK u (Below.refl _ _))⟩
          | 11, hk =>
            obtain rfl := Option.some.inj hk
            refine ⟨_, rfl, rfl, rfl, fun ac u hG hpre K hK => ?_⟩
            have e0 : ac.eval (.tmp 39) = tab F := hpre ⟨6, .data⟩ (by simp) rfl _ rfl
            have e1 : ac.eval (.tmp 43) = .int .i64 (M.v k : Int) := hpre ⟨10, .data⟩ (by simp) rfl _ rfl
            have e2 : ac.eval (.const (.bool true)) = .bool true := rfl
            exact Rf.wp_call rfl (Rf.run_call rfl #[tab F, .int .i64 (M.v k : Int), .bool true] (fun vs => callFix vs u) (by simp only [List.map_toArray, List.map_cons, List.map_nil, e0, e1, e2])) (KY u) hK
          | 12, hk => obtain rfl := Option.some.inj hk; exact ⟨_, rfl, rfl, rfl, rfl⟩
          | 13, hk => obtain rfl := Option.some.inj hk; exact ⟨_, rfl, rfl, rfl, rfl⟩
          | 14, hk => obtain rfl := Option.some.inj hk; exact ⟨_, rfl, rfl, rfl, 38, rfl, ⟨⟨5, .data⟩, by simp, rfl, rfl⟩, ⟨⟨12, .data⟩, by simp, rfl, rfl⟩⟩
          | 15, hk => obtain rfl := Option.some.inj hk; exact ⟨_, rfl, rfl, rfl, 44, rfl, ⟨⟨11, .data⟩, by simp, rfl, rfl⟩, ⟨⟨13, .data⟩, by simp, rfl, rfl⟩⟩
          | i + 16, hk => simp at hk
        · intro bp w6 s6 hnew hne hput
          have TX := hput 10 X (by simp)
          have TY := hput 11 Y (by simp)
          clear hput hnew hne KX KY cv
          simp only [Rf.fin, Rf.Kind.dst?, Rf.kval, Act.put, Rf.ptr, List.setIfInBounds_toArray, List.set_cons_succ, List.set_cons_zero]
          generalize bp 10 = pa at TX ⊢
          generalize bp 11 = pb at TY ⊢
          have B6 : Below w.heap.size w w6 := Rf.below_far B5A.out s6
          have h6 := h.below B6
          have row6 := row.of_block (B6.block g row.lt)
          have B6A : Aside (Below w.heap.size w w6) := B6
          have dX : Dep M (k + 1) X := hXA.out ▸ dep.fix o hkn false
          have dY : Dep M (k + 1) Y := hYA.out ▸ dep.fix o hkn true
          have pw : (2 : Nat) ^ (M.n - 2 - (k + 1)) ≤ 2 ^ (M.n - 2 - k) := Nat.pow_le_pow_right (by omega) (by omega)
          have room1 : M.up + (2 ^ (M.n - 2 - (k + 1)) - 1) + 19 ≤ M.room := by omega
          obtain ⟨z, hz⟩ : ∃ z, same X Y = z := ⟨_, rfl⟩
          have hzA : Aside (same X Y = z) := hz
          have rz : ∀ w, (binOp .eql 46 (tab X) (tab Y)).run Try.prog w = .ok (.bool z) w := fun w => by rw [← hz]; exact run_eqT _ _ w
          clear hz s6 TF5 B6 row5 h5 hk dep
          go_upto_region 8 with fail
          refine Rf.wp_region_valsq (fun u => u = w6) [(45, tab X), (46, tab Y), (47, .bool z)] [45, 46, 47] 91 (by kernel_rfl) rfl rfl (by decide) rfl (by decide) rfl ?_ ?_
          · intro i kk hkk
            match i, hkk with
            | 0, hk => obtain rfl := Option.some.inj hk; exact vok_plain _ rfl rfl rfl (does_val rfl fun ac u hG hL => x_load rfl ((hG.other 10 (by decide)).trans rfl) (by obtain rfl := hG.here; exact run_load24 TX))
            | 1, hk => obtain rfl := Option.some.inj hk; exact vok_plain _ rfl rfl rfl (does_val rfl fun ac u hG hL => x_load rfl ((hG.other 11 (by decide)).trans rfl) (by obtain rfl := hG.here; exact run_load24 TY))
            | 2, hk => obtain rfl := Option.some.inj hk; exact vok_plain _ rfl rfl rfl (does_val rfl fun ac u hG hL => x_bin rfl (hL ⟨0, .data⟩ (by simp) rfl _ rfl) (hL ⟨1, .data⟩ (by simp) rfl _ rfl) (guard_eqT _ _ _ _ _) (rz u))
            | i + 3, hk => simp at hk
          · intro w7 hw7
            obtain rfl := hw7
            simp only [Rf.vfin, Act.put, List.setIfInBounds_toArray, List.set_cons_succ, List.set_cons_zero]
            obtain ⟨t0, t1, t2, t3⟩ := TX.copy
            have kb : (k : Int) ≤ 8 := by have := o.le8; omega
            have KA := ih hkn h6 rfl dX row6 room1
            rw [show ((k + 1 : Nat) : Int) = (k : Int) + 1 by omega] at KA
            unfold tab at KA
            cases z with
            | true =>
              have eXY : Aside (Eqt X Y) := (Rf.same_iff _ _).1 hzA.out
              go_wp2_with (first
                | (go_at_call 43; refine KA.mono ?_; clear KA; rintro e w8 ⟨x, M8, rfl, ⟨F8, s8, b8⟩, m8⟩))
              go_ret2
              refine ⟨x, M8, rfl, ⟨F8, s8, (Wf.of_below B6A.out F0).trans b8⟩, MadeIs.skip o hkn nc.out ?_ (by rw [hXA.out]; exact m8)⟩
              rw [hXA.out, hYA.out]
              exact eXY.out
            | false =>
              have neXY : Aside (¬ Eqt X Y) := fun e => by have := same_true e; rw [hzA.out] at this; cases this
              have KB : Aside (∀ {w8 : World} {F8 : Nat → Prop} {M8 : Mdl} {a : Nat}, St w8 S F8 M8 → Wf F0 F8 w7 w8 → MadeIs M (k + 1) X a M8 → Calls Try.prog 43 #[.pointer (some ⟨S, 0, none⟩), tab Y, .slice (some ⟨g, 0, none⟩) M.n capv, .int .i64 ((k : Int) + 1)] w8 fun e w' => ∃ x M'', e = .returned (.tuple #[.int .u32 ((x : Nat) : Int), .bool true]) ∧ (∃ F', St w' S F' M'' ∧ Wf F8 F' w8 w') ∧ MadeIs M8 (k + 1) Y x M'') := fun {w8 F8 M8 a} s8 b8 m8 => by
                have n8 := m8.grew.n
                have v8 := m8.grew.v
                have := ih hkn (M' := M8) (F := Y) s8 n8 (fun x y hx hy e => dY x y hx hy (by rw [n8, v8] at e; exact e)) (by rw [n8, v8]; exact b8.row h6 row6 (by decide)) (by
                  have u8 := m8.up
                  have r8 := m8.grew.room
                  rw [n8, r8]
                  have p1 := two_pow_pos' (M.n - 2 - (k + 1))
                  by_cases c : k + 2 < M.n
                  · have : (2 : Nat) ^ (M.n - 2 - k) = 2 * 2 ^ (M.n - 2 - (k + 1)) := by
                      rw [show M.n - 2 - k = (M.n - 2 - (k + 1)) + 1 by omega, Nat.pow_succ]
                      omega
                    omega
                  · have e0 : M.n - 2 - (k + 1) = 0 := by omega
                    rw [e0] at u8 ⊢
                    simp at u8 ⊢
                    omega)
                rw [n8, show ((k + 1 : Nat) : Int) = (k : Int) + 1 by omega] at this
                exact this
              have neF : Aside (¬ Eqt (fixF F (M.v k) false) (fixF F (M.v k) true)) := by simp only [Aside]; rw [hXA.out, hYA.out]; exact neXY.out
              have TYA : Aside (IsTab w7 pb Y) := TY
              have tabY : Aside (∀ {w8 : World} {F8 : Nat → Prop}, Wf F0 F8 w7 w8 → IsTab w8 pb Y) := fun {w8 F8} b8 => (b8.block pb TY.lt (h6.row TY (by decide))).trans TY
              have roomL : Aside (∀ {M9 : Mdl}, M9.Ok → M9.room = M.room → M9.up ≤ M.up + (2 ^ (M.n - 2 - k) - 1) → M9.hs.length < M9.room) := fun {M9} o9 r9 u9 => by
                have := Mdl.len_le o9
                omega
              go_upto_region 14 with (first
                | (go_at_call 43; refine KA.mono ?_; clear KA; rintro e w8 ⟨a, M8, rfl, ⟨F8, s8, b8⟩, m8⟩; have KY := KB.out s8 b8 m8; unfold tab at KY; have TY8 := tabY.out b8; obtain ⟨y0, y1, y2, y3⟩ := TY8.copy)
                | (go_at_call 43; refine KY.mono ?_; clear KY; rintro e w9 ⟨c, M9, rfl, ⟨F9, s9, b9⟩, m9⟩; rw [← hXA.out] at m8; rw [← hYA.out] at m9; have fit : Aside (M9.Fits (k, a, c)) := m8.fits hkn s8.ok neF.out m9))
              have up9 : M9.up ≤ M.up + (2 ^ (M.n - 2 - k) - 1) := by
                have u8 := m8.up
                have u9 := m9.up
                rw [m8.grew.n] at u9
                have p1 := two_pow_pos' (M.n - 2 - (k + 1))
                by_cases q : k + 2 < M.n
                · have : (2 : Nat) ^ (M.n - 2 - k) = 2 * 2 ^ (M.n - 2 - (k + 1)) := by
                    rw [show M.n - 2 - k = (M.n - 2 - (k + 1)) + 1 by omega, Nat.pow_succ]
                    omega
                  omega
                · have e0 : M.n - 2 - (k + 1) = 0 := by omega
                  rw [e0] at u8 u9
                  simp at u8 u9
                  omega
              have wf9 := ((Wf.of_below B6A.out F0).trans b8).trans b9
              have rL := roomL.out s9.ok (m9.grew.room.trans m8.grew.room) up9
              clear up9 y0 y1 y2 y3 t0 t1 t2 t3
              by_cases hth : ∃ y ∈ M9.hs, M9.nd y = (k, a, c)
              · obtain ⟨y, ym, ye⟩ := hth
                have Km := s_mk_there s9 k a c fit.out y ym ye
                have yeA : Aside (M9.nd y = (k, a, c)) := ye
                clear ye
                go_wp2_with (first
                  | (go_at_call 13; refine Km.mono ?_; clear Km; rintro e w10 ⟨rfl, F10, s10, b10⟩))
                go_ret2
                exact ⟨y, M9, rfl, ⟨F10, s10, wf9.trans b10⟩, MadeIs.join hkn s8.ok s9.ok s9.ok nc.out neF.out m8 m9 (.inl ⟨ym, yeA.out, rfl⟩)⟩
              · have Km := s_mk_new s9 k a c fit.out (fun y ym ye => hth ⟨y, ym, ye⟩) rL
                clear hth
                go_wp2_with (first
                  | (go_at_call 13; refine Km.mono ?_; clear Km; rintro e w10 ⟨y, rfl, F10, M10, ad10, s10, b10, y10⟩; have adA : Aside (M9.Adds y (k, a, c) M10) := ad10; clear ad10 y10))
                go_ret2
                exact ⟨y, M10, rfl, ⟨F10, s10, wf9.trans b10⟩, MadeIs.join hkn s8.ok s9.ok s10.ok nc.out neF.out m8 m9 (.inr adA.out)⟩
theorem made_any (d : Nat) : ∀ {w : World} {S : Nat} {F0 : Nat → Prop} {M : Mdl} {k : Nat} {F : Nat → Bool} {g capv : Nat} (_ : St w S F0 M) (_ : M.n - k ≤ d) (_ : k ≤ M.n) (_ : Dep M k F) (_ : w.rowIs g 3 M.n (fun i => .int .i64 (M.v i : Int))) (_ : M.up + (2 ^ (M.n - 2 - k) - 1) + 19 ≤ M.room),
    Calls Try.prog 43 #[.pointer (some ⟨S, 0, none⟩), tab F, .slice (some ⟨g, 0, none⟩) M.n capv, .int .i64 (k : Int)] w fun e w' => ∃ x M', e = .returned (.tuple #[.int .u32 ((x : Nat) : Int), .bool true]) ∧ (∃ F', St w' S F' M' ∧ Wf F0 F' w w') ∧ MadeIs M k F x M' := by
  induction d with
  | zero =>
    intro w S F0 M k F g capv h hd hk dep row room
    exact made_step h hk dep row room fun e => by omega
  | succ d ih =>
    intro w S F0 M k F g capv h hd hk dep row room
    exact made_step h hk dep row room fun e {w' F' M' G} s n dp r rm => ih s (by omega) (by omega) dp r rm
end Go.Proofs.Ytdmfbfbebcneeaa
