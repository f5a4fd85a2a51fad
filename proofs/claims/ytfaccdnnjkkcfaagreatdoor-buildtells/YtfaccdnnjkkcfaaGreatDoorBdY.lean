/-
  The reference's Cubes.
-/
import Derived.Test.YtfaccdnnjkkcfaaGreatDoorBdX
import Derived.Deep.LoopGhost
import Derived.Deep.RegionHeld3
namespace Go.Proofs.YtfaccdnnjkkcfaaGreatDoor
open Go Go.RowKit
open Rf (fixAt fixF tab word same IsTab Cols IntsAt blockOf)
open Rf (gval gval_pos gval_neg does_val does_call does_if vok_plain vok_maybe x_move x_load x_bin x_call x_pick x_assign wp_region_vals run_load24)

theorem step_append_pair {w : World} {B : Nat} {ad : Option Addr} {ps : List (Nat × Nat)} {cap : Nat} (hown : OwnP w B ad ps cap) (p : Nat × Nat) (blk : Nat) (hblk : Is2 49 w blk (.int .u8 (p.1 : Int)) (.int .u8 (p.2 : Int))) (hn : ps.length ≤ 1000000) (hB : B ≤ w.heap.size)
    {ops : Array Oper} {o : Oper} {a : Act} {K : Act → World → Prop} {Q : Exit → Act → World → Prop} {E : Prop} (hgd : o.guard = none) (s x : Operand)
    (ho : o.op = .call { callee := .builtin .append, args := #[s, x], argTypes := #[41, 41] }) (hs : a.eval s = .slice ad ps.length cap) (hx : a.eval x = .slice (some ⟨blk, 0, none⟩) 1 1)
    (h : ∀ g cap' w', OwnP w' B (some ⟨g, 0, none⟩) (ps ++ [p]) cap' → Apd w w' ad (some ⟨g, 0, none⟩) → K (a.put o.dst (.slice (some ⟨g, 0, none⟩) (ps.length + 1) cap')) w') :
    if Region.wanted o (yielded ops a.tmps) = true then Oper.wp Tryz.prog o a w K Q else E := by
  obtain ⟨i, hi, hzz⟩ := Option.map_eq_some_iff.1 infoP
  simp only [Prod.mk.injEq] at hzz
  obtain ⟨hz, hsz, hby⟩ := hzz
  have hblk' : w.heap[blk]? = some (.cells #[.int .u8 (p.1 : Int), .int .u8 (p.2 : Int)] 49 (0, 0)) := hblk
  have hob : (Value.slice ad ps.length cap).ownBlock = blockOf ad := by cases ad <;> rfl
  refine step_append_lies (P := Tryz.prog) w hgd s x 41 ho B 49 i _ 2 2 Tryz.underlying41 hi hz hsz hby (by kernel_rfl) (by decide) (.slice ad ps.length cap) ps.length (cellsP ps) hs hown ⟨blk, 0, none⟩ 1 1 (cells2 p) hx rfl (World.news_of_block hblk') ?_ (by decide) ?_ ?_ hB w.heap.size rfl ?_
  · intro u hu
    simp only [cells2, List.mem_cons, List.not_mem_nil, or_false] at hu
    rcases hu with rfl | rfl <;> rfl
  · simp only [maxLen]; omega
  · omega
  · intro g cap' w' o1 o2 o3 o4
    rw [hob] at o2 o3
    refine h g cap' w' ?_ (Apd.grown o2 o3)
    unfold OwnP
    rw [cellsP_append, List.length_append]
    exact o1
theorem OwnP.lone (u : World) {B : Nat} (hB : B ≤ u.heap.size) (p : Nat × Nat) : OwnP (u.alloc (.cells #[.int .u8 (p.1 : Int), .int .u8 (p.2 : Int)] 49)) B (some ⟨u.heap.size, 0, none⟩) [p] 1 :=
  ⟨rfl, .inr ⟨u.heap.size, 1, _, rfl, hB, Go.Deep.blk_alloc_new _ _, Nat.le_refl _, by simp [maxLen], rfl, rfl⟩⟩
theorem x_len {o : Oper} {a : Act} {w : World} {x : Operand} {ad : Option Addr} {n c : Nat} (hop : o.op = .call { callee := .builtin .len, args := #[x], argTypes := #[30] }) (hty : o.type = 3) (hx : a.eval x = .slice ad n c) : (execOp a.eval o).run Tryz.prog w = .ok (.value (.int .i64 (n : Int))) w := by
  have : (#[x].map a.eval) = #[.slice ad n c] := by simp [hx]
  simp only [execOp, hop, resolve, Sem.run_bind, this, hty]
  go_simp
/-- What the reference's call leaves. -/
def RcC (w : World) (ps : List (Nat × Nat)) (e : Ending) (w' : World) : Prop := ∃ ad cap, e = .returned (.slice ad ps.length cap) ∧ OwnP w' w.heap.size ad ps cap ∧ Below w.heap.size w w'
theorem two_cells' {u : World} {bf bg : Nat} {F G : Nat → Bool} (h : IsTab u bf F) (k : IsTab u bg G) : u.cell? ⟨bf, 0, none⟩ = some (.int .u64 (word F 0 : Int)) ∧ u.cell? ⟨bf, 1, none⟩ = some (.int .u64 (word F 1 : Int)) ∧ u.cell? ⟨bf, 2, none⟩ = some (.int .u64 (word F 2 : Int)) ∧ u.cell? ⟨bf, 3, none⟩ = some (.int .u64 (word F 3 : Int)) ∧ u.cell? ⟨bg, 0, none⟩ = some (.int .u64 (word G 0 : Int)) ∧ u.cell? ⟨bg, 1, none⟩ = some (.int .u64 (word G 1 : Int)) ∧ u.cell? ⟨bg, 2, none⟩ = some (.int .u64 (word G 2 : Int)) ∧ u.cell? ⟨bg, 3, none⟩ = some (.int .u64 (word G 3 : Int)) := by
  obtain ⟨a0, a1, a2, a3⟩ := h.copy
  obtain ⟨c0, c1, c2, c3⟩ := k.copy
  exact ⟨a0, a1, a2, a3, c0, c1, c2, c3⟩
theorem take_getD {ps : List (Nat × Nat)} {i : Nat} (hi : i < ps.length) : ps.take (i + 1) = ps.take i ++ [ps.getD i (0, 0)] := by
  rw [List.take_add_one, List.getElem?_eq_getElem hi, List.getD_eq_getElem?_getD, List.getElem?_eq_getElem hi]; rfl
theorem map_getD {ps : List (Nat × Nat)} (f : Nat × Nat → Nat × Nat) {i : Nat} (hi : i < ps.length) : (ps.map f).getD i (0, 0) = f (ps.getD i (0, 0)) := by
  rw [List.getD_eq_getElem?_getD, List.getD_eq_getElem?_getD, List.getElem?_map, List.getElem?_eq_getElem hi]; rfl
theorem getDP_mem' {ps : List (Nat × Nat)} {i : Nat} (hi : i < ps.length) : ps.getD i (0, 0) ∈ ps := by
  rw [List.getD_eq_getElem?_getD, List.getElem?_eq_getElem hi]
  exact List.getElem_mem hi
theorem idxZ (b off n c : Nat) (h : 0 < n) (w : World) : (Instr.indexAt 30 (.slice (some ⟨b, off, none⟩) n c) (.int .i64 0)).run Tryz.prog w = .ok (.pointer (some ⟨b, off + 0, none⟩)) w := idxI b off 0 n c h w

set_option maxRecDepth 100000 in
set_option maxHeartbeats 4000000 in
theorem rcubes_step {w : World} {v : Nat → Nat} (hv8 : ∀ i, v i < 8) {j k : Nat} {F : Nat → Bool} {ad : Option Addr} {cap : Nat} (hj : j ≤ 8) (hcap : j ≤ cap) (hI : IntsAt w ad j (fun i => (v (k + i) : Int)))
    (ih : ∀ j', j = j' + 1 → ∀ {u : World} {X : Nat → Bool} {ad' : Option Addr} {cap' : Nat}, j' ≤ cap' → IntsAt u ad' j' (fun i => (v (k + 1 + i) : Int)) → Calls Tryz.prog 16 #[tab X, .slice ad' j' cap'] u (RcC u (cubesR v j' (k + 1) X))) :
    Calls Tryz.prog 16 #[tab F, .slice ad j cap] w (RcC w (cubesR v j k F)) := by
  obtain ⟨z0, hz0⟩ : ∃ z, same F c0 = z := ⟨_, rfl⟩
  obtain ⟨z1, hz1⟩ : ∃ z, same F c1 = z := ⟨_, rfl⟩
  have z0A : Aside (same F c0 = z0) := hz0
  have z1A : Aside (same F c1 = z1) := hz1
  have r0 : ∀ w, (binOp .eql 24 (tab F) (tab (fun _ => false))).run Tryz.prog w = .ok (.bool z0) w := fun w => by rw [← hz0]; exact run_eqT _ _ w
  have r1 : ∀ w, (binOp .eql 24 (tab F) (tab (fun _ => true))).run Tryz.prog w = .ok (.bool z1) w := fun w => by rw [← hz1]; exact run_eqT _ _ w
  clear hz0 hz1
  obtain ⟨L, hL⟩ : ∃ L, cubesR v j k F = L := ⟨_, rfl⟩
  have hLA : Aside (cubesR v j k F = L) := hL
  rw [hL]
  clear hL
  conv in #[tab F, Value.slice ad j cap] => unfold tab
  have B0 := nb w (.cells #[.int .u64 (word F 0 : Int), .int .u64 (word F 1 : Int), .int .u64 (word F 2 : Int), .int .u64 (word F 3 : Int)] 24)
  have TF := IsTab.new w F
  go_enter Tryz.func16, Tryz.ntmps16
  go_upto_region 1 with fail
  generalize w.alloc (.cells #[.int .u64 (word F 0 : Int), .int .u64 (word F 1 : Int), .int .u64 (word F 2 : Int), .int .u64 (word F 3 : Int)] 24) = w4 at B0 TF ⊢
  have B0A : Aside (Below w.heap.size w w4) := B0
  obtain ⟨b, hb⟩ : ∃ b, w.heap.size = b := ⟨_, rfl⟩
  rw [hb] at TF ⊢
  clear hb B0
  refine wp_region_vals (fun u => Below w4.heap.size w4 u) [(13, tab F), (14, tab (fun _ => false)), (15, .bool z0)] [13, 14, 15] 103 (by kernel_rfl) (by kernel_rfl) rfl rfl (by decide) rfl (by decide) ((Below.refl _ _).drew) ?_ ?_
  · intro i kk hkk
    match i, hkk with
    | 0, hk => obtain rfl := Option.some.inj hk; exact vok_plain _ rfl rfl rfl (does_val rfl fun ac u hG hL => x_load rfl ((hG.other 2 (by decide)).trans rfl) (run_load24 (kept TF hG.here)))
    | 1, hk => obtain rfl := Option.some.inj hk; exact vok_plain _ rfl rfl rfl (does_call #[.bool false] rfl (fun ac u hG hL => x_call rfl (by simp [Act.eval]) (fun w => callConst _ w)) (fun u hu => (Rf.const_any false u).mono fun e w' q => ⟨q.1, Rf.below_far hu q.2⟩))
    | 2, hk => obtain rfl := Option.some.inj hk; exact vok_plain _ rfl rfl rfl (does_val rfl fun ac u hG hL => x_bin rfl (hL ⟨0, .data⟩ (by simp) rfl _ rfl) (hL ⟨1, .data⟩ (by simp) rfl _ rfl) (guard_eqT _ _ _ _ _) (r0 u))
    | i + 3, hk => simp at hk
  · intro w5 s5
    simp only [Rf.vfin, Act.put, List.setIfInBounds_toArray, List.set_cons_succ, List.set_cons_zero]
    have TF5 := kept TF s5
    have B5 : Aside (Below w.heap.size w w5) := Rf.below_far B0A.out s5
    clear r0 s5 TF B0A
    cases z0 with
    | true =>
      have e : L = [] := by
        rw [← hLA.out]
        cases j with
        | zero => rw [cubesR, if_pos z0A.out]
        | succ j => rw [cubesR, if_pos z0A.out]
      subst e
      go_wp2_with fail
      go_ret
      exact ⟨none, 0, rfl, OwnP.nil _ _, B5.out⟩
    | false =>
      have nz0 : Aside (¬ same F c0 = true) := by rw [z0A.out]; exact Bool.false_ne_true
      go_upto_region 3 with fail
      obtain ⟨zj, hzj⟩ : ∃ z, decide (j = 0) = z := ⟨_, rfl⟩
      have hzjA : Aside (decide (j = 0) = zj) := hzj
      have rj : ∀ w, (binOp .eql 3 (.int .i64 (j : Int)) (.int .i64 0)).run Tryz.prog w = .ok (.bool zj) w := fun w => by
        have e : ((j : Int) == 0) = zj := by rw [← hzj, Bool.eq_iff_iff, beq_iff_eq, decide_eq_true_iff]; omega
        rw [← e]
        go_simp
      clear hzj
      refine wp_region_vals (fun u => Below w5.heap.size w5 u) [(16, tab F), (17, tab (fun _ => true)), (18, .bool z1), (19, .bool z1), (20, gval z1 false (.slice ad j cap)), (21, gval z1 false (.int .i64 (j : Int))), (22, gval z1 false (.bool zj)), (23, .bool (z1 || zj))] [16, 17, 18, 19, 20, 21, 22, 23] 103 (by kernel_rfl) (by kernel_rfl) rfl rfl (by decide) rfl (by decide) ((Below.refl _ _).drew) ?_ ?_
      · intro i kk hkk
        match i, hkk with
        | 0, hk => obtain rfl := Option.some.inj hk; exact vok_plain _ rfl rfl rfl (does_val rfl fun ac u hG hL => x_load rfl ((hG.other 2 (by decide)).trans rfl) (run_load24 (kept TF5 hG.here)))
        | 1, hk => obtain rfl := Option.some.inj hk; exact vok_plain _ rfl rfl rfl (does_call #[.bool true] rfl (fun ac u hG hL => x_call rfl (by simp [Act.eval]) (fun w => callConst _ w)) (fun u hu => (Rf.const_any true u).mono fun e w' q => ⟨q.1, Rf.below_far hu q.2⟩))
        | 2, hk => obtain rfl := Option.some.inj hk; exact vok_plain _ rfl rfl rfl (does_val rfl fun ac u hG hL => x_bin rfl (hL ⟨0, .data⟩ (by simp) rfl _ rfl) (hL ⟨1, .data⟩ (by simp) rfl _ rfl) (guard_eqT _ _ _ _ _) (r1 u))
        | 3, hk => obtain rfl := Option.some.inj hk; exact vok_plain _ rfl rfl rfl (does_val rfl fun ac u hG hL => x_move rfl (hL ⟨2, .data⟩ (by simp) rfl _ rfl))
        | 4, hk => obtain rfl := Option.some.inj hk; exact vok_maybe _ rfl rfl 3 false 19 z1 rfl ⟨⟨3, .guard⟩, by simp, rfl, rfl⟩ rfl (fun e => gval_neg e) (fun e => does_if e (does_val rfl fun ac u hG hL => x_move rfl ((hG.other 1 (by decide)).trans rfl)))
        | 5, hk => obtain rfl := Option.some.inj hk; exact vok_maybe _ rfl rfl 3 false 19 z1 rfl ⟨⟨3, .guard⟩, by simp, rfl, rfl⟩ rfl (fun e => gval_neg e) (fun e => does_if e (does_val rfl fun ac u hG hL => x_len rfl rfl ((hL ⟨4, .data⟩ (by simp) rfl _ rfl).trans (gval_pos e))))
        | 6, hk => obtain rfl := Option.some.inj hk; exact vok_maybe _ rfl rfl 3 false 19 z1 rfl ⟨⟨3, .guard⟩, by simp, rfl, rfl⟩ rfl (fun e => gval_neg e) (fun e => does_if e (does_val rfl fun ac u hG hL => x_bin rfl ((hL ⟨5, .data⟩ (by simp) rfl _ rfl).trans (gval_pos e)) rfl (by go_simp) (rj u)))
        | 7, hk => obtain rfl := Option.some.inj hk; exact vok_plain _ rfl rfl rfl (does_val rfl fun ac u hG hL => x_pick (b := z1) rfl (hL ⟨3, .data⟩ (by simp) rfl _ rfl) (by cases z1 with | true => rfl | false => exact (hL ⟨6, .data⟩ (by simp) rfl _ rfl)))
        | i + 8, hk => simp at hk
      · intro w6 s6
        simp only [Rf.vfin, Act.put, List.setIfInBounds_toArray, List.set_cons_succ, List.set_cons_zero]
        have TF6 := kept TF5 s6
        have B6 : Aside (Below w.heap.size w w6) := Rf.below_far B5.out s6
        clear r1 s6 TF5 B5 rj
        cases hor : (z1 || zj) with
        | true =>
          have e : L = [(0, 0)] := by
            rw [← hLA.out]
            cases j with
            | zero => rw [cubesR, if_neg nz0.out]
            | succ j =>
              rw [cubesR, if_neg nz0.out]
              have : zj = false := by rw [← hzjA.out]; exact decide_eq_false (by omega)
              rw [this, Bool.or_false] at hor
              rw [if_pos (by rw [z1A.out]; exact hor)]
          subst e
          clear hor
          go_wp2_with fail
          go_ret
          exact ⟨some ⟨w6.heap.size, 0, none⟩, 1, rfl, OwnP.lone w6 B6.out.size (0, 0), Rf.below_far B6.out (nb w6 _)⟩
        | false =>
          obtain ⟨rfl, rfl⟩ : z1 = false ∧ zj = false := by cases z1 <;> cases zj <;> simp_all
          have nz1 : Aside (¬ same F c1 = true) := by rw [z1A.out]; exact Bool.false_ne_true
          obtain ⟨j', rfl⟩ : ∃ j', j = j' + 1 := ⟨j - 1, by have := of_decide_eq_false hzjA.out; omega⟩
          obtain ⟨vb, off, rfl, hlt, hc⟩ := hI.resolve_left (by omega)
          clear hor hzjA
          have hv := hv8 k
          have hc0 : w.cell? ⟨vb, off + 0, none⟩ = some (.int .i64 (v k : Int)) := hc 0 (by omega)
          have cv : ∀ u, Below w6.heap.size w6 u → u.cell? ⟨vb, off + 0, none⟩ = some (.int .i64 (v k : Int)) := fun u hu => by
            rw [(Rf.below_far B6.out hu).cell hlt]
            exact hc0
          obtain ⟨X, hX⟩ : ∃ X, fixF F (v k) false = X := ⟨_, rfl⟩
          obtain ⟨Y, hY⟩ : ∃ Y, fixF F (v k) true = Y := ⟨_, rfl⟩
          have KX : ∀ u, Calls Tryz.prog 46 #[tab F, .int .i64 (v k : Int), .bool false] u fun e w' => e = .returned (tab X) ∧ Below u.heap.size u w' := fun u => by rw [← hX]; exact Rf.fix_any F (v k) hv false u
          have KY : ∀ u, Calls Tryz.prog 46 #[tab F, .int .i64 (v k : Int), .bool true] u fun e w' => e = .returned (tab Y) ∧ Below u.heap.size u w' := fun u => by rw [← hY]; exact Rf.fix_any F (v k) hv true u
          have hXA : Aside (fixF F (v k) false = X) := hX
          have hYA : Aside (fixF F (v k) true = Y) := hY
          clear hX hY
          go_upto_region 5 with fail
          refine Rf.wp_region_tabs' [.val 26 (tab F), .val 27 (.slice (some ⟨vb, off, none⟩) (j' + 1) cap), .val 28 (.pointer (some ⟨vb, off + 0, none⟩)), .val 29 (.int .i64 (v k : Int)), .val 30 (tab X), .val 31 (tab F), .val 32 (.slice (some ⟨vb, off, none⟩) (j' + 1) cap), .val 33 (.pointer (some ⟨vb, off + 0, none⟩)), .val 34 (.int .i64 (v k : Int)), .val 35 (tab Y), .new 5, .new 6, .put 5 X, .put 6 Y] [26, 27, 28, 29, 30, 31, 32, 33, 34, 35, 5, 6] [5, 6] [5, 6] 103 (by kernel_rfl) (by kernel_rfl) rfl rfl rfl rfl (by decide) (by decide) rfl (by decide) ?_ ?_ ?_
          · intro s hs c hc
            simp only [List.mem_cons, List.not_mem_nil, or_false] at hs
            rcases hs with rfl | rfl
            · exact absurd (show undef = Rf.ptr c from hc) (by simp [undef, Rf.ptr])
            · exact absurd (show undef = Rf.ptr c from hc) (by simp [undef, Rf.ptr])
          · intro i kk hk
            match i, hk with
            | 0, hk => obtain rfl := Option.some.inj hk; exact ⟨_, rfl, rfl, rfl, fun a u hG hpre K hK => Rf.wp_load (b := b) rfl rfl ((hG.other 2 (by decide)).trans rfl) (kept TF6 hG.below) hK⟩
            | 1, hk => obtain rfl := Option.some.inj hk; exact ⟨_, rfl, rfl, rfl, fun a u hG hpre K hK => Rf.wp_move rfl rfl ((hG.other 1 (by decide)).trans rfl) hK⟩
            | 2, hk => obtain rfl := Option.some.inj hk; exact ⟨_, rfl, rfl, rfl, fun ac u hG hpre K hK => Rf.wp_val rfl (Rf.x_index rfl (hpre ⟨1, .data⟩ (by simp) rfl _ rfl) rfl (idxZ vb off (j' + 1) cap (by omega) u)) (hK u (Below.refl _ _))⟩
            | 3, hk => obtain rfl := Option.some.inj hk; exact ⟨_, rfl, rfl, rfl, fun ac u hG hpre K hK => Rf.wp_val rfl (x_load rfl (hpre ⟨2, .data⟩ (by simp) rfl _ rfl) (loadI (cv u hG.below))) (hK u (Below.refl _ _))⟩
            | 4, hk =>
              obtain rfl := Option.some.inj hk
              refine ⟨_, rfl, rfl, rfl, fun ac u hG hpre K hK => ?_⟩
              have e0 : ac.eval (.tmp 26) = tab F := hpre ⟨0, .data⟩ (by simp) rfl _ rfl
              have e1 : ac.eval (.tmp 29) = .int .i64 (v k : Int) := hpre ⟨3, .data⟩ (by simp) rfl _ rfl
              have e2 : ac.eval (.const (.bool false)) = .bool false := rfl
              exact Rf.wp_call rfl (Rf.run_call rfl #[tab F, .int .i64 (v k : Int), .bool false] (fun vs => callFix vs u) (by simp only [List.map_toArray, List.map_cons, List.map_nil, e0, e1, e2])) (KX u) hK
            | 5, hk => obtain rfl := Option.some.inj hk; exact ⟨_, rfl, rfl, rfl, fun a u hG hpre K hK => Rf.wp_load (b := b) rfl rfl ((hG.other 2 (by decide)).trans rfl) (kept TF6 hG.below) hK⟩
            | 6, hk => obtain rfl := Option.some.inj hk; exact ⟨_, rfl, rfl, rfl, fun a u hG hpre K hK => Rf.wp_move rfl rfl ((hG.other 1 (by decide)).trans rfl) hK⟩
            | 7, hk => obtain rfl := Option.some.inj hk; exact ⟨_, rfl, rfl, rfl, fun ac u hG hpre K hK => Rf.wp_val rfl (Rf.x_index rfl (hpre ⟨6, .data⟩ (by simp) rfl _ rfl) rfl (idxZ vb off (j' + 1) cap (by omega) u)) (hK u (Below.refl _ _))⟩
            | 8, hk => obtain rfl := Option.some.inj hk; exact ⟨_, rfl, rfl, rfl, fun ac u hG hpre K hK => Rf.wp_val rfl (x_load rfl (hpre ⟨7, .data⟩ (by simp) rfl _ rfl) (loadI (cv u hG.below))) (hK u (Below.refl _ _))⟩
            | 9, hk =>
              obtain rfl := Option.some.inj hk
              refine ⟨_, rfl, rfl, rfl, fun ac u hG hpre K hK => ?_⟩
              have e0 : ac.eval (.tmp 31) = tab F := hpre ⟨5, .data⟩ (by simp) rfl _ rfl
              have e1 : ac.eval (.tmp 34) = .int .i64 (v k : Int) := hpre ⟨8, .data⟩ (by simp) rfl _ rfl
              have e2 : ac.eval (.const (.bool true)) = .bool true := rfl
              exact Rf.wp_call rfl (Rf.run_call rfl #[tab F, .int .i64 (v k : Int), .bool true] (fun vs => callFix vs u) (by simp only [List.map_toArray, List.map_cons, List.map_nil, e0, e1, e2])) (KY u) hK
            | 10, hk => obtain rfl := Option.some.inj hk; exact ⟨_, rfl, rfl, rfl, rfl⟩
            | 11, hk => obtain rfl := Option.some.inj hk; exact ⟨_, rfl, rfl, rfl, rfl⟩
            | 12, hk => obtain rfl := Option.some.inj hk; exact ⟨_, rfl, rfl, rfl, 30, rfl, ⟨⟨4, .data⟩, by simp, rfl, rfl⟩, ⟨⟨10, .data⟩, by simp, rfl, rfl⟩⟩
            | 13, hk => obtain rfl := Option.some.inj hk; exact ⟨_, rfl, rfl, rfl, 35, rfl, ⟨⟨9, .data⟩, by simp, rfl, rfl⟩, ⟨⟨11, .data⟩, by simp, rfl, rfl⟩⟩
            | i + 14, hk => simp at hk
          · intro bp w7 s7 hnew hne hput
            have TX := hput 5 X (by simp)
            have TY := hput 6 Y (by simp)
            clear hput hnew hne KX KY cv
            simp only [Rf.fin, Rf.Kind.dst?, Rf.kval, Act.put, Rf.ptr, List.setIfInBounds_toArray, List.set_cons_succ, List.set_cons_zero]
            generalize bp 5 = pa at TX ⊢
            generalize bp 6 = pb at TY ⊢
            have B7 : Aside (Below w.heap.size w w7) := Rf.below_far B6.out s7
            have TF7 := kept TF6 s7
            obtain ⟨z, hz⟩ : ∃ z, same X Y = z := ⟨_, rfl⟩
            have hzA : Aside (same X Y = z) := hz
            have heq : ∀ w, (Op.equalIn 10000 24 (tab X) (tab Y)).run Tryz.prog w = .ok z w := fun w => by rw [← hz]; exact Rf.equal_tab _ _ w
            unfold tab at heq
            obtain ⟨t0, t1, t2, t3⟩ := TX.copy
            obtain ⟨y0, y1, y2, y3⟩ := TY.copy
            -- the tail of the variables
            obtain ⟨off2, hoff, hoA⟩ : ∃ off2 : Nat, (if cap = 1 then (some ⟨vb, off, none⟩ : Option Addr) else some ⟨vb, off + 1, none⟩) = some ⟨vb, off2, none⟩ ∧ Aside (off2 = off + 1 ∨ cap = 1 ∧ off2 = off) := by
              by_cases d : cap = 1
              · exact ⟨off, by rw [if_pos d], .inr ⟨d, rfl⟩⟩
              · exact ⟨off + 1, by rw [if_neg d], .inl rfl⟩
            have tl : Aside (∀ u, Below w.heap.size w u → IntsAt u (some ⟨vb, off2, none⟩) j' (fun i => (v (k + 1 + i) : Int))) := fun u hu => by
              by_cases q : j' = 0
              · exact .inl q
              · have e2 : off2 = off + 1 := by rcases hoA.out with e | e <;> omega
                refine .inr ⟨vb, off2, rfl, Nat.lt_of_lt_of_le hlt hu.size, fun i hi => ?_⟩
                have := hc (i + 1) (by omega)
                rw [hu.cell hlt, e2, show off + 1 + i = off + (i + 1) by omega, this]
                show some (Value.int .i64 (v (k + (i + 1)) : Int)) = some (Value.int .i64 (v (k + 1 + i) : Int))
                rw [show k + (i + 1) = k + 1 + i by omega]
            have KC : Aside (∀ (u : World) (Z : Nat → Bool), Below w.heap.size w u → Calls Tryz.prog 16 #[tab Z, .slice (some ⟨vb, off2, none⟩) j' (cap - 1)] u (RcC u (cubesR v j' (k + 1) Z))) := fun u Z hu => ih j' rfl (by omega) (tl.out u hu)
            have hd1 : (1 : Int) ≤ (j' : Int) + 1 := by omega
            have hcap1 : (1 : Int) ≤ (cap : Int) := by omega
            have hcA : Aside (w.cell? ⟨vb, off + 0, none⟩ = some (.int .i64 (v k : Int)) ∧ vb < w.heap.size) := ⟨hc0, hlt⟩
            clear hz s7 TF6 ih tl hc hc0 B6
            cases z with
            | true =>
              have e : L = cubesR v j' (k + 1) F := by
                rw [← hLA.out, cubesR, if_neg nz0.out, if_neg nz1.out, hXA.out, hYA.out, if_pos hzA.out]
              subst e
              go_upto_region 7 with fail
              have TF7' : IsTab w7.drew b F := TF7
              have C7 := TF7'.copy
              have K1 := KC.out w7.drew F B7.out.drew
              unfold tab at K1
              go_region_held3 (fun u => u.cell? ⟨b, 0, none⟩ = some (.int .u64 (word F 0 : Int)) ∧ u.cell? ⟨b, 1, none⟩ = some (.int .u64 (word F 1 : Int)) ∧ u.cell? ⟨b, 2, none⟩ = some (.int .u64 (word F 2 : Int)) ∧ u.cell? ⟨b, 3, none⟩ = some (.int .u64 (word F 3 : Int))) (first | assumption) (first
                | (go_at_call 16; refine K1.mono ?_; clear K1; rintro e w8 ⟨ad8, cap8, rfl, o8, b8⟩; have C8 := (kept TF7' b8).copy; clear C7))
              go_wp2_with fail
              go_ret
              exact ⟨ad8, cap8, rfl, o8.mono B7.out.size, Rf.below_far B7.out.drew b8⟩
            | false =>
              go_upto_region 9 with fail
              have TX7 : IsTab w7.drew pa X := TX
              have TY7 : IsTab w7.drew pb Y := TY
              have C7 := two_cells' TX7 TY7
              have K1 := KC.out w7.drew X B7.out.drew
              unfold tab at K1
              go_region_held3 (fun u => u.cell? ⟨pa, 0, none⟩ = some (.int .u64 (word X 0 : Int)) ∧ u.cell? ⟨pa, 1, none⟩ = some (.int .u64 (word X 1 : Int)) ∧ u.cell? ⟨pa, 2, none⟩ = some (.int .u64 (word X 2 : Int)) ∧ u.cell? ⟨pa, 3, none⟩ = some (.int .u64 (word X 3 : Int)) ∧ u.cell? ⟨pb, 0, none⟩ = some (.int .u64 (word Y 0 : Int)) ∧ u.cell? ⟨pb, 1, none⟩ = some (.int .u64 (word Y 1 : Int)) ∧ u.cell? ⟨pb, 2, none⟩ = some (.int .u64 (word Y 2 : Int)) ∧ u.cell? ⟨pb, 3, none⟩ = some (.int .u64 (word Y 3 : Int))) (first | assumption) (first
                | (go_at_call_of 16 (word X 0); refine K1.mono ?_; clear K1; rintro e w8 ⟨ad8, cap8, rfl, o8, b8⟩; have C8 := two_cells' (kept TX7 b8) (kept TY7 b8); have K2 := KC.out w8 Y (Rf.below_far B7.out.drew b8); unfold tab at K2; clear C7)
                | (go_at_call 16; refine K2.mono ?_; clear K2; rintro e w9 ⟨ad9, cap9, rfl, o9, b9⟩; have C9 := two_cells' (kept (kept TX7 b8) b9) (kept (kept TY7 b8) b9); clear C8))
              have B9 : Aside (Below w.heap.size w w9) := Rf.below_far (Rf.below_far B7.out.drew b8) b9
              have oXA : Aside (OwnP w9 w7.drew.heap.size ad8 (cubesR v j' (k + 1) X) cap8) := o8.below b9
              have oYA : Aside (OwnP w9 w8.heap.size ad9 (cubesR v j' (k + 1) Y) cap9) := o9
              obtain ⟨P, hP⟩ : ∃ P, 2 ^ v k = P := ⟨_, rfl⟩
              have P8 : P < 256 := by rw [← hP]; exact Nat.lt_of_le_of_lt (Nat.pow_le_pow_right (by omega) (show v k ≤ 7 by omega)) (by decide)
              have sh : IntKind.u8.wrap (2 ^ v k) = (P : Int) := by
                have e : ((2 : Int) ^ v k) = (P : Int) := by rw [← hP]; push_cast; rfl
                rw [e, IntKind.wrap_u8]
                omega
              have e : L = (cubesR v j' (k + 1) X).map (fun p => (p.1 ||| P, p.2)) ++ (cubesR v j' (k + 1) Y).map fun p => (p.1 ||| P, p.2 ||| P) := by
                rw [← hLA.out, cubesR, if_neg nz0.out, if_neg nz1.out, hXA.out, hYA.out, if_neg (by rw [hzA.out]; exact Bool.false_ne_true), hP]
              have pj : 2 ^ j' ≤ 2 ^ 8 := Nat.pow_le_pow_right (by omega) (by omega)
              have lX : (cubesR v j' (k + 1) X).length ≤ 256 := Nat.le_trans (cubesR_le v j' (k + 1) X) pj
              have lY : (cubesR v j' (k + 1) Y).length ≤ 256 := Nat.le_trans (cubesR_le v j' (k + 1) Y) pj
              have bX : Aside (∀ p ∈ cubesR v j' (k + 1) X, p.1 < 256 ∧ p.2 < 256) := cubesR_lt v hv8 j' (k + 1) X
              have bY : Aside (∀ p ∈ cubesR v j' (k + 1) Y, p.1 < 256 ∧ p.2 < 256) := cubesR_lt v hv8 j' (k + 1) Y
              have hLA2 : Aside (L = (cubesR v j' (k + 1) X).map (fun p => (p.1 ||| P, p.2)) ++ (cubesR v j' (k + 1) Y).map fun p => (p.1 ||| P, p.2 ||| P)) := e
              generalize cubesR v j' (k + 1) X = lx at oXA lX bX hLA2 ⊢
              generalize cubesR v j' (k + 1) Y = ly at oYA lY bY hLA2 ⊢
              have cv9 : w9.cell? ⟨vb, off, none⟩ = some (.int .i64 (v k : Int)) := (B9.out.cell hcA.out.2).trans hcA.out.1
              have mv : min (v k) 8 = v k := by omega
              clear e hP pj o8 o9 b8 b9 C9 TX7 TY7 TX TY TF7 t0 t1 t2 t3 y0 y1 y2 y3 heq hLA KC B7 hI
              go_upto_region 12 with fail
              clear cv9 sh mv
              go_loopg [7, 11] lx.length (fun gg s7 s11 wr => ∃ (i : Nat) (ad7 : Option Addr) (cap7 : Nat), i + gg = lx.length ∧ s7 = .slice ad7 ((lx.map (fun p => (p.1 ||| P, p.2))).take i).length cap7 ∧ s11 = .int .i64 (i : Int) ∧ Aside (Below w9.heap.size w9 wr ∧ OwnP wr w9.heap.size ad7 ((lx.map (fun p => (p.1 ||| P, p.2))).take i) cap7))
              case atStart => exact ⟨0, none, 0, by omega, rfl, rfl, ⟨Below.refl _ _, OwnP.nil _ _⟩⟩
              case round =>
                obtain ⟨i, ad7, cap7, hi, rfl, rfl, I⟩ := hrel
                have hIA : Aside (i + gk = lx.length) := hi
                by_cases hil : i < lx.length
                · have hil' : (i : Int) < (lx.length : Int) := by omega
                  have hilA : Aside (i < lx.length) := hil
                  obtain ⟨Bw, own⟩ := I.out
                  have ownX := oXA.out.below Bw
                  obtain ⟨g8, hg8, q0, q1⟩ := ownX.read hil
                  subst hg8
                  have g8lt : Aside (g8 < w9.heap.size) := (oXA.out.block _ rfl).2
                  have mem := bX.out _ (getDP_mem' hil)
                  obtain ⟨p1, hp1⟩ : ∃ p, (lx.getD i (0, 0)).1 = p := ⟨_, rfl⟩
                  obtain ⟨p2, hp2⟩ : ∃ p, (lx.getD i (0, 0)).2 = p := ⟨_, rfl⟩
                  have stp : (lx.map (fun p => (p.1 ||| P, p.2))).take (i + 1) = (lx.map (fun p => (p.1 ||| P, p.2))).take i ++ [(p1 ||| P, p2)] := by
                    rw [take_getD (by rw [List.length_map]; exact hil), map_getD _ hil, hp1, hp2]
                  have stpA : Aside ((lx.map (fun p => (p.1 ||| P, p.2))).take (i + 1) = (lx.map (fun p => (p.1 ||| P, p.2))).take i ++ [(p1 ||| P, p2)]) := stp
                  rw [hp1, hp2] at mem
                  rw [hp1] at q0
                  rw [hp2] at q1
                  have or1 : bits .or .u8 (p1 : Int) (P : Int) = ((p1 ||| P : Nat) : Int) := u8_or_nat p1 P mem.1 P8
                  have oln : ((lx.map (fun p => (p.1 ||| P, p.2))).take i).length ≤ 1000000 := by rw [List.length_take]; omega
                  obtain ⟨r1, hr1⟩ : ∃ r, p1 ||| P = r := ⟨_, rfl⟩
                  rw [hr1] at or1
                  have hr1A : Aside (p1 ||| P = r1) := hr1
                  generalize (lx.map (fun p => (p.1 ||| P, p.2))).take i = out at own oln stpA ⊢
                  have szA : Aside (w9.heap.size ≤ wr.heap.size) := Bw.size
                  have BwA : Aside (Below w9.heap.size w9 wr) := Bw
                  clear stp hi hil hp1 hp2 ownX mem hr1 I Bw
                  go_upto_region 14 with fail
                  have C7 : wr.drew.cell? ⟨g8, i * 2, none⟩ = some (.int .u8 (p1 : Int)) ∧ wr.drew.cell? ⟨g8, i * 2 + 1, none⟩ = some (.int .u8 (p2 : Int)) := ⟨q0, q1⟩
                  have nw := (nb wr (.cells #[.int .u8 (r1 : Int), .int .u8 (p2 : Int)] 49))
                  have g8w : g8 < wr.heap.size := Nat.lt_of_lt_of_le g8lt.out szA.out
                  have C8 : (wr.alloc (.cells #[.int .u8 (r1 : Int), .int .u8 (p2 : Int)] 49)).drew.cell? ⟨g8, i * 2, none⟩ = some (.int .u8 (p1 : Int)) ∧ (wr.alloc (.cells #[.int .u8 (r1 : Int), .int .u8 (p2 : Int)] 49)).drew.cell? ⟨g8, i * 2 + 1, none⟩ = some (.int .u8 (p2 : Int)) := ⟨(nw.cell g8w).trans q0, (nw.cell g8w).trans q1⟩
                  have own8 : OwnP (wr.alloc (.cells #[.int .u8 (r1 : Int), .int .u8 (p2 : Int)] 49)).drew w9.heap.size ad7 out cap7 := own.new _
                  have is8 : Is2 49 (wr.alloc (.cells #[.int .u8 (r1 : Int), .int .u8 (p2 : Int)] 49)).drew wr.heap.size (.int .u8 (r1 : Int)) (.int .u8 (p2 : Int)) := Is2.new _ _ _ _
                  have sz8 : w9.heap.size ≤ (wr.alloc (.cells #[.int .u8 (r1 : Int), .int .u8 (p2 : Int)] 49)).drew.heap.size := Nat.le_trans szA.out nw.size
                  have B8 : Aside (Below w9.heap.size w9 (wr.alloc (.cells #[.int .u8 (r1 : Int), .int .u8 (p2 : Int)] 49)).drew) := (BwA.out.alloc szA.out _).drew
                  clear nw
                  go_region_held3 (fun u => u.cell? ⟨g8, i * 2, none⟩ = some (.int .u8 (p1 : Int)) ∧ u.cell? ⟨g8, i * 2 + 1, none⟩ = some (.int .u8 (p2 : Int))) (first | assumption) (first
                    | (refine step_append_pair own8 (r1, p2) wr.heap.size is8 oln sz8 rfl (.tmp 62) (.tmp 76) rfl (by simp [Act.eval]) (by simp [Act.eval]) ?_; intro g' cap' w' o' ap; have bw := ap.below sz8 (fun k e => (own8.blockGe k e).1); have C9 : w'.cell? ⟨g8, i * 2, none⟩ = some (.int .u8 (p1 : Int)) ∧ w'.cell? ⟨g8, i * 2 + 1, none⟩ = some (.int .u8 (p2 : Int)) := ⟨(bw.cell g8lt.out).trans C8.1, (bw.cell g8lt.out).trans C8.2⟩))
                  go_wp2_with fail
                  go_roundg (gk - 1)
                  case measure => have := hIA.out; have := hilA.out; omega
                  case rel =>
                    have := hIA.out
                    have := hilA.out
                    exact ⟨i + 1, some ⟨g', 0, none⟩, cap', by omega, by rw [stpA.out, List.length_append]; rfl, by go_num, ⟨B8.out.trans bw, by rw [stpA.out, hr1A.out]; exact o'⟩⟩
                · obtain rfl : i = lx.length := by omega
                  obtain ⟨Bw, own⟩ := I.out
                  rw [List.take_of_length_le (by rw [List.length_map]; exact Nat.le_refl _)] at own ⊢
                  have lA : (lx.map (fun p => (p.1 ||| P, p.2))).length ≤ 256 := by rw [List.length_map]; exact lX
                  generalize lx.map (fun p => (p.1 ||| P, p.2)) = A at own hLA2 lA ⊢
                  have I0 : Aside (Below w9.heap.size w9 wr ∧ OwnP wr w9.heap.size ad7 A cap7) := ⟨Bw, own⟩
                  have nlt : ¬ (lx.length : Int) < (lx.length : Int) := by omega
                  clear hi hil I Bw own hIA
                  go_upto_region 16 with fail
                  go_loopg [7, 12] ly.length (fun gg s7 s12 wr2 => ∃ (i : Nat) (ad7 : Option Addr) (cap7 : Nat), i + gg = ly.length ∧ s7 = .slice ad7 (A ++ (ly.map (fun p => (p.1 ||| P, p.2 ||| P))).take i).length cap7 ∧ s12 = .int .i64 (i : Int) ∧ Aside (Below w9.heap.size w9 wr2 ∧ OwnP wr2 w9.heap.size ad7 (A ++ (ly.map (fun p => (p.1 ||| P, p.2 ||| P))).take i) cap7))
                  case atStart =>
                    refine ⟨0, ad7, cap7, by omega, ?_, rfl, ?_⟩
                    · rw [List.take_zero, List.append_nil]
                    · rw [List.take_zero, List.append_nil]; exact I0
                  case round =>
                    clear I0
                    obtain ⟨i, ad7, cap7, hi, rfl, rfl, I⟩ := hrel
                    have hIA : Aside (i + gk = ly.length) := hi
                    by_cases hil : i < ly.length
                    · have hil' : (i : Int) < (ly.length : Int) := by omega
                      have hilA : Aside (i < ly.length) := hil
                      obtain ⟨Bw, own⟩ := I.out
                      have ownY := oYA.out.below Bw
                      obtain ⟨g9, hg9, q0, q1⟩ := ownY.read hil
                      subst hg9
                      have g9lt : Aside (g9 < w9.heap.size) := (oYA.out.block _ rfl).2
                      have mem := bY.out _ (getDP_mem' hil)
                      obtain ⟨p1, hp1⟩ : ∃ p, (ly.getD i (0, 0)).1 = p := ⟨_, rfl⟩
                      obtain ⟨p2, hp2⟩ : ∃ p, (ly.getD i (0, 0)).2 = p := ⟨_, rfl⟩
                      have stp : A ++ (ly.map (fun p => (p.1 ||| P, p.2 ||| P))).take (i + 1) = (A ++ (ly.map (fun p => (p.1 ||| P, p.2 ||| P))).take i) ++ [(p1 ||| P, p2 ||| P)] := by
                        rw [take_getD (by rw [List.length_map]; exact hil), map_getD _ hil, hp1, hp2, List.append_assoc]
                      have stpA : Aside (A ++ (ly.map (fun p => (p.1 ||| P, p.2 ||| P))).take (i + 1) = (A ++ (ly.map (fun p => (p.1 ||| P, p.2 ||| P))).take i) ++ [(p1 ||| P, p2 ||| P)]) := stp
                      rw [hp1, hp2] at mem
                      rw [hp1] at q0
                      rw [hp2] at q1
                      have or1 : bits .or .u8 (p1 : Int) (P : Int) = ((p1 ||| P : Nat) : Int) := u8_or_nat p1 P mem.1 P8
                      have or2 : bits .or .u8 (p2 : Int) (P : Int) = ((p2 ||| P : Nat) : Int) := u8_or_nat p2 P mem.2 P8
                      have oln : (A ++ (ly.map (fun p => (p.1 ||| P, p.2 ||| P))).take i).length ≤ 1000000 := by rw [List.length_append, List.length_take]; omega
                      obtain ⟨r1, hr1⟩ : ∃ r, p1 ||| P = r := ⟨_, rfl⟩
                      obtain ⟨r2, hr2⟩ : ∃ r, p2 ||| P = r := ⟨_, rfl⟩
                      rw [hr1] at or1
                      rw [hr2] at or2
                      have hr1A : Aside (p1 ||| P = r1) := hr1
                      have hr2A : Aside (p2 ||| P = r2) := hr2
                      generalize A ++ (ly.map (fun p => (p.1 ||| P, p.2 ||| P))).take i = out at own oln stpA ⊢
                      have szA : Aside (w9.heap.size ≤ wr.heap.size) := Bw.size
                      have BwA : Aside (Below w9.heap.size w9 wr) := Bw
                      clear stp hi hil hp1 hp2 ownY mem hr1 hr2 I Bw
                      go_upto_region 18 with fail
                      have C7 : wr.drew.cell? ⟨g9, i * 2, none⟩ = some (.int .u8 (p1 : Int)) ∧ wr.drew.cell? ⟨g9, i * 2 + 1, none⟩ = some (.int .u8 (p2 : Int)) := ⟨q0, q1⟩
                      have nw := (nb wr (.cells #[.int .u8 (r1 : Int), .int .u8 (r2 : Int)] 49))
                      have g9w : g9 < wr.heap.size := Nat.lt_of_lt_of_le g9lt.out szA.out
                      have C8 : (wr.alloc (.cells #[.int .u8 (r1 : Int), .int .u8 (r2 : Int)] 49)).drew.cell? ⟨g9, i * 2, none⟩ = some (.int .u8 (p1 : Int)) ∧ (wr.alloc (.cells #[.int .u8 (r1 : Int), .int .u8 (r2 : Int)] 49)).drew.cell? ⟨g9, i * 2 + 1, none⟩ = some (.int .u8 (p2 : Int)) := ⟨(nw.cell g9w).trans q0, (nw.cell g9w).trans q1⟩
                      have own8 : OwnP (wr.alloc (.cells #[.int .u8 (r1 : Int), .int .u8 (r2 : Int)] 49)).drew w9.heap.size ad7 out cap7 := own.new _
                      have is8 : Is2 49 (wr.alloc (.cells #[.int .u8 (r1 : Int), .int .u8 (r2 : Int)] 49)).drew wr.heap.size (.int .u8 (r1 : Int)) (.int .u8 (r2 : Int)) := Is2.new _ _ _ _
                      have sz8 : w9.heap.size ≤ (wr.alloc (.cells #[.int .u8 (r1 : Int), .int .u8 (r2 : Int)] 49)).drew.heap.size := Nat.le_trans szA.out nw.size
                      have B8 : Aside (Below w9.heap.size w9 (wr.alloc (.cells #[.int .u8 (r1 : Int), .int .u8 (r2 : Int)] 49)).drew) := (BwA.out.alloc szA.out _).drew
                      clear nw
                      go_region_held3 (fun u => u.cell? ⟨g9, i * 2, none⟩ = some (.int .u8 (p1 : Int)) ∧ u.cell? ⟨g9, i * 2 + 1, none⟩ = some (.int .u8 (p2 : Int))) (first | assumption) (first
                        | (refine step_append_pair own8 (r1, r2) wr.heap.size is8 oln sz8 rfl (.tmp 84) (.tmp 100) rfl (by simp [Act.eval]) (by simp [Act.eval]) ?_; intro g' cap' w' o' ap; have bw := ap.below sz8 (fun k e => (own8.blockGe k e).1); have C9 : w'.cell? ⟨g9, i * 2, none⟩ = some (.int .u8 (p1 : Int)) ∧ w'.cell? ⟨g9, i * 2 + 1, none⟩ = some (.int .u8 (p2 : Int)) := ⟨(bw.cell g9lt.out).trans C8.1, (bw.cell g9lt.out).trans C8.2⟩))
                      go_wp2_with fail
                      go_roundg (gk - 1)
                      case measure => have := hIA.out; have := hilA.out; omega
                      case rel =>
                        have := hIA.out
                        have := hilA.out
                        exact ⟨i + 1, some ⟨g', 0, none⟩, cap', by omega, by rw [stpA.out, List.length_append]; rfl, by go_num, ⟨B8.out.trans bw, by rw [stpA.out, hr1A.out, hr2A.out]; exact o'⟩⟩
                    · obtain rfl : i = ly.length := by omega
                      obtain ⟨Bw, own⟩ := I.out
                      rw [List.take_of_length_le (by rw [List.length_map]; exact Nat.le_refl _)] at own ⊢
                      rw [← hLA2.out] at own ⊢
                      have nlt2 : ¬ (ly.length : Int) < (ly.length : Int) := by omega
                      have fin : Aside (OwnP wr w.heap.size ad7 L cap7 ∧ Below w.heap.size w wr) := ⟨own.mono B9.out.size, B9.out.trans (Bw.mono B9.out.size)⟩
                      clear hi hil I Bw own hIA
                      go_wp2_with fail
                      go_ret
                      exact ⟨ad7, cap7, rfl, fin.out.1, fin.out.2⟩
theorem rcubes_any {v : Nat → Nat} (hv8 : ∀ i, v i < 8) (j : Nat) : ∀ {w : World} {k : Nat} {F : Nat → Bool} {ad : Option Addr} {cap : Nat}, j ≤ 8 → j ≤ cap → IntsAt w ad j (fun i => (v (k + i) : Int)) →
    Calls Tryz.prog 16 #[tab F, .slice ad j cap] w (RcC w (cubesR v j k F)) := by
  induction j with
  | zero => intro w k F ad cap hj hc hI; exact rcubes_step hv8 hj hc hI fun j' e => by omega
  | succ j ih =>
    intro w k F ad cap hj hc hI
    exact rcubes_step hv8 hj hc hI fun j' e {u X ad' cap'} hc' hI' => by
      obtain rfl : j = j' := by omega
      exact ih (by omega) hc' hI'
end Go.Proofs.YtfaccdnnjkkcfaaGreatDoor
