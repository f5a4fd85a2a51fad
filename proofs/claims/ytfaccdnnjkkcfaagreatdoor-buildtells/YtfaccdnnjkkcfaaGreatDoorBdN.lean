/-
  Package build: a function's node (node, From).
-/
import Derived.Test.YtfaccdnnjkkcfaaGreatDoorBdT
import Derived.Test.YtfaccdnnjkkcfaaGreatDoorBdR
namespace Go.Proofs.YtfaccdnnjkkcfaaGreatDoor
open Go Go.RowKit
open Rf (fixAt fixF tab word same IsTab Cols)
open Rf (does_val does_call vok_plain x_move x_load x_bin x_call x_assign wp_region_vals run_load24)

/-! ## Two tables in one block -/
def tab2 (c : (Nat → Bool) × (Nat → Bool)) : Value := .agg #[.int .u64 (word c.1 0 : Int), .int .u64 (word c.1 1 : Int), .int .u64 (word c.1 2 : Int), .int .u64 (word c.1 3 : Int), .int .u64 (word c.2 0 : Int), .int .u64 (word c.2 1 : Int), .int .u64 (word c.2 2 : Int), .int .u64 (word c.2 3 : Int)]
def IsT2 (w : World) (b : Nat) (c : (Nat → Bool) × (Nat → Bool)) : Prop := w.heap[b]? = some (.cells #[.int .u64 (word c.1 0 : Int), .int .u64 (word c.1 1 : Int), .int .u64 (word c.1 2 : Int), .int .u64 (word c.1 3 : Int), .int .u64 (word c.2 0 : Int), .int .u64 (word c.2 1 : Int), .int .u64 (word c.2 2 : Int), .int .u64 (word c.2 3 : Int)] 129 (0, 0))
section
variable {w w' : World} {b : Nat} {c d : (Nat → Bool) × (Nat → Bool)}
theorem IsT2.lt (h : IsT2 w b c) : b < w.heap.size := (Array.getElem?_eq_some_iff.1 h).1
theorem IsT2.below (h : IsT2 w b c) (k : Below w.heap.size w w') : IsT2 w' b c := (k.block b h.lt).trans h
theorem IsT2.cells (h : IsT2 w b c) : (w.cell? ⟨b, 0, none⟩ = some (.int .u64 (word c.1 0 : Int)) ∧ w.cell? ⟨b, 1, none⟩ = some (.int .u64 (word c.1 1 : Int)) ∧ w.cell? ⟨b, 2, none⟩ = some (.int .u64 (word c.1 2 : Int)) ∧ w.cell? ⟨b, 3, none⟩ = some (.int .u64 (word c.1 3 : Int))) ∧ w.cell? ⟨b, 4, none⟩ = some (.int .u64 (word c.2 0 : Int)) ∧ w.cell? ⟨b, 5, none⟩ = some (.int .u64 (word c.2 1 : Int)) ∧ w.cell? ⟨b, 6, none⟩ = some (.int .u64 (word c.2 2 : Int)) ∧ w.cell? ⟨b, 7, none⟩ = some (.int .u64 (word c.2 3 : Int)) := by
  unfold IsT2 at h
  refine ⟨⟨?_, ?_, ?_, ?_⟩, ?_, ?_, ?_, ?_⟩ <;> simp [World.cell?, h]
theorem IsT2.free (h : IsT2 w b c) (k : Nat) : w.frozen? ⟨b, k, none⟩ = false := by
  unfold IsT2 at h
  simp [World.frozen?, h]
def laid2 (w : World) (b : Nat) (c : (Nat → Bool) × (Nat → Bool)) : World := (((((((w.setCell ⟨b, 0, none⟩ (.int .u64 (word c.1 0 : Int))).setCell ⟨b, 1, none⟩ (.int .u64 (word c.1 1 : Int))).setCell ⟨b, 2, none⟩ (.int .u64 (word c.1 2 : Int))).setCell ⟨b, 3, none⟩ (.int .u64 (word c.1 3 : Int))).setCell ⟨b, 4, none⟩ (.int .u64 (word c.2 0 : Int))).setCell ⟨b, 5, none⟩ (.int .u64 (word c.2 1 : Int))).setCell ⟨b, 6, none⟩ (.int .u64 (word c.2 2 : Int))).setCell ⟨b, 7, none⟩ (.int .u64 (word c.2 3 : Int))
theorem laid2_is (h : IsT2 w b c) (d : (Nat → Bool) × (Nat → Bool)) : IsT2 (laid2 w b d) b d := by
  unfold laid2 IsT2 at *
  simp [World.setCell, Array.getElem?_modify, h]
theorem turned_set (w : World) (b k : Nat) (v : Value) : Rf.Turned b w (w.setCell ⟨b, k, none⟩ v) := ⟨rfl, rfl, rfl, by simp [World.setCell], fun _ _ hj => Below.heap_setCell _ _ _ _ hj⟩
theorem turned_trans {w w' w'' : World} {b : Nat} (h : Rf.Turned b w w') (k : Rf.Turned b w' w'') : Rf.Turned b w w'' :=
  ⟨k.os.trans h.os, k.tape.trans h.tape, k.output.trans h.output, Nat.le_trans h.size k.size, fun j hj hne => (k.block j (Nat.lt_of_lt_of_le hj h.size) hne).trans (h.block j hj hne)⟩
theorem laid2_turned (w : World) (b : Nat) (c : (Nat → Bool) × (Nat → Bool)) : Rf.Turned b w (laid2 w b c) :=
  turned_trans (turned_trans (turned_trans (turned_trans (turned_trans (turned_trans (turned_trans (turned_set _ _ _ _) (turned_set _ _ _ _)) (turned_set _ _ _ _)) (turned_set _ _ _ _)) (turned_set _ _ _ _)) (turned_set _ _ _ _)) (turned_set _ _ _ _)) (turned_set _ _ _ _)
set_option maxHeartbeats 800000 in
theorem run_store2 (h : IsT2 w b c) (d : (Nat → Bool) × (Nat → Bool)) : (Instr.storeAt 129 (.pointer (some ⟨b, 0, none⟩)) (tab2 d)).run Tryz.prog w = .ok () (laid2 w b d) := by
  obtain ⟨⟨c0, c1, c2, c3⟩, c4, c5, c6, c7⟩ := h.cells
  have y0 := h.free 0
  have y1 := h.free 1
  have y2 := h.free 2
  have y3 := h.free 3
  have y4 := h.free 4
  have y5 := h.free 5
  have y6 := h.free 6
  have y7 := h.free 7
  unfold tab2
  go_simp
  rfl
theorem run_alloc2 (w : World) : (Instr.alloc 129 true (.tuple #[])).run Tryz.prog w = .ok (.pointer (some ⟨w.heap.size, 0, none⟩)) (w.alloc (.cells #[.int .u64 0, .int .u64 0, .int .u64 0, .int .u64 0, .int .u64 0, .int .u64 0, .int .u64 0, .int .u64 0] 129)) := by
  go_simp
theorem IsT2.zero (w : World) : IsT2 (w.alloc (.cells #[.int .u64 0, .int .u64 0, .int .u64 0, .int .u64 0, .int .u64 0, .int .u64 0, .int .u64 0, .int .u64 0] 129)) w.heap.size (fun _ => false, fun _ => false) := by
  unfold IsT2
  simp only [Rf.zero_int]
  exact Go.Deep.blk_alloc_new _ _
theorem run_build2 (F G : Nat → Bool) (w : World) : (Instr.build 129 #[(0, tab F), (1, tab G)]).run Tryz.prog w = .ok (tab2 (F, G)) w := by
  unfold tab tab2
  go_simp
end
theorem x_build {w : World} {o : Oper} {a : Act} {t : TypeId} {parts : Array (Nat × Operand)} {vs : Array (Nat × Value)} {v : Value} (hop : o.op = .build t parts) (hx : (parts.map fun p => (p.1, a.eval p.2)) = vs) (hb : (Instr.build t vs).run Tryz.prog w = .ok v w) : (execOp a.eval o).run Tryz.prog w = .ok (.value v) w := by
  subst hx
  simp only [execOp, hop, Sem.run_bind]
  show (Result.andThen ((Instr.build t (parts.map fun p => (p.1, a.eval p.2))).run Tryz.prog w) _) = _
  rw [hb]
  rfl
theorem index2 (a b c d e f g h : Value) (w : World) :
    (Instr.index 129 (.agg #[a, b, c, d, e, f, g, h]) (.int .i64 0)).run Tryz.prog w = .ok (.agg #[a, b, c, d]) w ∧ (Instr.index 129 (.agg #[a, b, c, d, e, f, g, h]) (.int .i64 1)).run Tryz.prog w = .ok (.agg #[e, f, g, h]) w := ⟨by kernel_rfl, by kernel_rfl⟩
theorem callPConst (vs : Array Value) (w : World) : (callFunc 72 vs).run Tryz.prog w = .ok (.enter 72 vs) w := by
  have h := Tryz.func72
  go_simp
theorem callPFix (vs : Array Value) (w : World) : (callFunc 73 vs).run Tryz.prog w = .ok (.enter 73 vs) w := by
  have h := Tryz.func73
  go_simp

/-! ## Room -/
section
variable {M M1 M2 : Mdl} {k a c : Nat} {F X Y : Nat → Bool}
theorem Much.low (h : Much M k F) : Much M (k + 1) X := by
  unfold Much at *
  have pw : (2 : Nat) ^ (M.n - 2 - (k + 1)) ≤ 2 ^ (M.n - 2 - k) := Nat.pow_le_pow_right (by omega) (by omega)
  omega
theorem Much.high (hk : k < M.n) (h : Much M k F) (g : Got M (k + 1) X a M1) : Much M1 (k + 1) Y := by
  unfold Much at *
  have := much_two hk g.up (Nat.le_refl _)
  rw [g.grew.n, g.grew.room]
  omega
theorem Much.fits (hk : k < M.n) (o2 : M2.Ok) (h : Much M k F) (g1 : Got M (k + 1) X a M1) (g2 : Got M1 (k + 1) Y c M2) : M2.hs.length < M2.room := by
  unfold Much at h
  have u2 := g2.up
  rw [g1.grew.n] at u2
  have := much_two hk g1.up u2
  have := Mdl.len_le o2
  have r2 := g2.grew.room
  have r1 := g1.grew.room
  omega
end
/-- The variables' table stays as it is. -/
theorem Cols.wf {w w' : World} {F F' : Nat → Prop} (h : Cols w) (n : ¬ F 0) (g : Wf F F' w w') : Cols w' ∧ ¬ F' 0 :=
  ⟨h.same g.size (g.block 0 h.1 n), fun q => (g.new 0 q).elim n fun e => by have := h.1; omega⟩
theorem Is2.neRow {w : World} {T t : TypeId} {b g n : Nat} {x y : Value} {V : Nat → Value} (h : Is2 T w b x y) (r : w.rowIs g t n V) (ht : T ≠ t) : g ≠ b := fun e => by
  obtain ⟨cs, hb, _⟩ := r
  unfold Is2 at h
  rw [e, h] at hb
  simp at hb
  exact ht hb.2
theorem Is2.ne {w : World} {T U : TypeId} {b c : Nat} {x y x' y' : Value} (h : Is2 T w b x y) (k : Is2 U w c x' y') (ht : T ≠ U) : b ≠ c := fun e => by
  unfold Is2 at h k
  rw [e, k] at h
  simp at h
  exact ht h.2.symm
theorem Wf.set {F F' : Nat → Prop} {w w' : World} (h : Wf F F' w w') {c : Addr} (hc : w.heap.size ≤ c.block) (v : Value) : Wf F F' w (w'.setCell c v) :=
  ⟨h.os, h.tape, h.output, by simpa [World.setCell] using h.size, fun k hk hn => (Below.heap_setCell _ _ _ _ (by omega)).trans (h.block k hk hn), h.new⟩
theorem St.set {w : World} {S : Nat} {F : Nat → Prop} {M : Mdl} (h : St w S F M) {c : Addr} (hc : ¬ F c.block) (v : Value) : St (w.setCell c v) S F M := h.kept fun _ hk => Below.heap_setCell _ _ _ _ fun e => hc (e ▸ hk)
theorem Cols.set {w : World} (h : Cols w) {c : Addr} (hc : 0 < c.block) (v : Value) : Cols (w.setCell c v) := h.same (by simp [World.setCell]) (Below.heap_setCell _ _ _ _ (by omega))
/-- What making a node leaves where there is room. -/
def Made1 (S : Nat) (F0 : Nat → Prop) (w : World) (M : Mdl) (k : Nat) (X : Nat → Bool) (e : Ending) (w' : World) : Prop :=
  ∃ (x : Nat) (M' : Mdl) (F' : Nat → Prop), e = .returned (.tuple #[.int .u32 (x : Int), .int .i64 0]) ∧ Got M k X x M' ∧ St w' S F' M' ∧ Wf F0 F' w w'

set_option maxRecDepth 100000 in
set_option maxHeartbeats 4000000 in
theorem node_step {w : World} {S : Nat} {F0 : Nat → Prop} {M : Mdl} {k : Nat} {F : Nat → Bool} {g : Nat} (h : St w S F0 M) (hk : k ≤ M.n) (dep : Dep M k F) (row : w.rowIs g 3 M.n (fun i => .int .i64 (M.v i : Int))) (hC : Cols w) (hF : ¬ F0 0) (room : Much M k F)
    (ih : k < M.n → ∀ {w : World} {F0 : Nat → Prop} {M' : Mdl} {F : Nat → Bool}, St w S F0 M' → M'.n = M.n → Dep M' (k + 1) F → w.rowIs g 3 M'.n (fun i => .int .i64 (M'.v i : Int)) → Cols w → ¬ F0 0 → Much M' (k + 1) F → Calls Tryz.prog 45 #[wkv S g M'.n, tab F, .int .i64 ((k + 1 : Nat) : Int)] w (Made1 S F0 w M' (k + 1) F)) :
    Calls Tryz.prog 45 #[wkv S g M.n, tab F, .int .i64 (k : Int)] w (Made1 S F0 w M k F) := by
  obtain ⟨c0, hc0⟩ : ∃ c0, same F (fun _ => false) = c0 := ⟨_, rfl⟩
  obtain ⟨c1, hc1⟩ : ∃ c1, same F (fun _ => true) = c1 := ⟨_, rfl⟩
  have c0A : Aside (same F (fun _ => false) = c0) := hc0
  have c1A : Aside (same F (fun _ => true) = c1) := hc1
  have r0 : ∀ w, (binOp .eql 24 (tab F) (tab (fun _ => false))).run Tryz.prog w = .ok (.bool c0) w := fun w => by rw [← hc0]; exact run_eqT _ _ w
  have r1 : ∀ w, (binOp .eql 24 (tab F) (tab (fun _ => true))).run Tryz.prog w = .ok (.bool c1) w := fun w => by rw [← hc1]; exact run_eqT _ _ w
  clear hc0 hc1
  conv in #[wkv S g M.n, tab F, Value.int .i64 (k : Int)] => unfold wkv tab
  have o := h.ok
  have B0 := ((Below.refl _ w).alloc (Nat.le_refl _) (.cells #[.pointer (some ⟨S, 0, none⟩), .slice (some ⟨g, 0, none⟩) M.n M.n] 94)).alloc (by simp) (.cells #[.int .u64 (word F 0 : Int), .int .u64 (word F 1 : Int), .int .u64 (word F 2 : Int), .int .u64 (word F 3 : Int)] 24)
  have TW : IsBk _ w.heap.size S g M.n := (Is2.new 94 w (.pointer (some ⟨S, 0, none⟩)) (.slice (some ⟨g, 0, none⟩) M.n M.n)).alloc (.cells #[.int .u64 (word F 0 : Int), .int .u64 (word F 1 : Int), .int .u64 (word F 2 : Int), .int .u64 (word F 3 : Int)] 24)
  have TF := IsTab.newAt (w := w.alloc (.cells #[.pointer (some ⟨S, 0, none⟩), .slice (some ⟨g, 0, none⟩) M.n M.n] 94)) (n := w.heap.size + 1) (by simp) F
  go_enter Tryz.func45, Tryz.ntmps45
  go_upto_region 1 with fail
  generalize (w.alloc (.cells #[.pointer (some ⟨S, 0, none⟩), .slice (some ⟨g, 0, none⟩) M.n M.n] 94)).alloc (.cells #[.int .u64 (word F 0 : Int), .int .u64 (word F 1 : Int), .int .u64 (word F 2 : Int), .int .u64 (word F 3 : Int)] 24) = w4 at B0 TW TF ⊢
  have B0A : Aside (Below w.heap.size w w4) := B0
  obtain ⟨b, hb⟩ : ∃ b, w.heap.size = b := ⟨_, rfl⟩
  rw [hb] at TW TF ⊢
  clear hb B0
  refine wp_region_vals (fun u => Below w4.heap.size w4 u) [(15, tab F), (16, tab (fun _ => false)), (17, .bool c0), (14, .bool c0)] [15, 16, 17, 14] 79 (by kernel_rfl) (by kernel_rfl) rfl rfl (by decide) rfl (by decide) ((Below.refl _ _).drew) ?_ ?_
  · intro i kk hkk
    match i, hkk with
    | 0, hk => obtain rfl := Option.some.inj hk; exact vok_plain _ rfl rfl rfl (does_val rfl fun ac u hG hL => x_load rfl ((hG.other 4 (by decide)).trans rfl) (run_load24 (kept TF hG.here)))
    | 1, hk => obtain rfl := Option.some.inj hk; exact vok_plain _ rfl rfl rfl (does_call #[.bool false] rfl (fun ac u hG hL => x_call rfl (by simp [Act.eval]) (fun w => callPConst _ w)) (fun u hu => (Rf.pconst_any false u).mono fun e w' q => ⟨q.1, Rf.below_far hu q.2⟩))
    | 2, hk => obtain rfl := Option.some.inj hk; exact vok_plain _ rfl rfl rfl (does_val rfl fun ac u hG hL => x_bin rfl (hL ⟨0, .data⟩ (by simp) rfl _ rfl) (hL ⟨1, .data⟩ (by simp) rfl _ rfl) (guard_eqT _ _ _ _ _) (r0 u))
    | 3, hk => obtain rfl := Option.some.inj hk; exact vok_plain _ rfl rfl rfl (does_val rfl fun ac u hG hL => x_assign rfl (hL ⟨2, .data⟩ (by simp) rfl _ rfl))
    | i + 4, hk => simp at hk
  · intro w5 s5
    simp only [Rf.vfin, Act.put, List.setIfInBounds_toArray, List.set_cons_succ, List.set_cons_zero]
    have TF5 := kept TF s5
    have TW5 := TW.below s5
    have B5 : Aside (Below w.heap.size w w5) := Rf.below_far B0A.out s5
    clear r0 s5 TF TW
    cases c0 with
    | true =>
      have e0 : Aside (Got M k F 0 M) := Got.here o (.inl (by omega)) (by rw [Mdl.lev_const (by omega)]; exact hk) ((tbl_zero M).trans (Eqt.symm ((Rf.same_iff _ _).1 c0A.out)))
      go_wp2_with fail
      go_ret2
      exact ⟨0, M, F0, rfl, e0.out, h.below B5.out, Wf.of_below B5.out F0⟩
    | false =>
      go_upto_region 3 with fail
      refine wp_region_vals (fun u => Below w5.heap.size w5 u) [(19, tab F), (20, tab (fun _ => true)), (21, .bool c1), (18, .bool c1)] [19, 20, 21, 18] 79 (by kernel_rfl) (by kernel_rfl) rfl rfl (by decide) rfl (by decide) ((Below.refl _ _).drew) ?_ ?_
      · intro i kk hkk
        match i, hkk with
        | 0, hk => obtain rfl := Option.some.inj hk; exact vok_plain _ rfl rfl rfl (does_val rfl fun ac u hG hL => x_load rfl ((hG.other 4 (by decide)).trans rfl) (run_load24 (kept TF5 hG.here)))
        | 1, hk => obtain rfl := Option.some.inj hk; exact vok_plain _ rfl rfl rfl (does_call #[.bool true] rfl (fun ac u hG hL => x_call rfl (by simp [Act.eval]) (fun w => callPConst _ w)) (fun u hu => (Rf.pconst_any true u).mono fun e w' q => ⟨q.1, Rf.below_far hu q.2⟩))
        | 2, hk => obtain rfl := Option.some.inj hk; exact vok_plain _ rfl rfl rfl (does_val rfl fun ac u hG hL => x_bin rfl (hL ⟨0, .data⟩ (by simp) rfl _ rfl) (hL ⟨1, .data⟩ (by simp) rfl _ rfl) (guard_eqT _ _ _ _ _) (r1 u))
        | 3, hk => obtain rfl := Option.some.inj hk; exact vok_plain _ rfl rfl rfl (does_val rfl fun ac u hG hL => x_assign rfl (hL ⟨2, .data⟩ (by simp) rfl _ rfl))
        | i + 4, hk => simp at hk
      · intro w6 s6
        simp only [Rf.vfin, Act.put, List.setIfInBounds_toArray, List.set_cons_succ, List.set_cons_zero]
        have TF6 := kept TF5 s6
        have TW6 := TW5.below s6
        have B6 : Aside (Below w.heap.size w w6) := Rf.below_far B5.out s6
        clear r1 s6 TF5 TW5 B5
        cases c1 with
        | true =>
          have e1 : Aside (Got M k F 1 M) := Got.here o (.inl (by omega)) (by rw [Mdl.lev_const (by omega)]; exact hk) ((tbl_one M).trans (Eqt.symm ((Rf.same_iff _ _).1 c1A.out)))
          go_wp2_with fail
          go_ret2
          exact ⟨1, M, F0, rfl, e1.out, h.below B6.out, Wf.of_below B6.out F0⟩
        | false =>
          have nc : ¬ Cst F := fun c => by
            rcases c with c | c
            · have := same_true c; rw [c0A.out] at this; cases this
            · have := same_true c; rw [c1A.out] at this; cases this
          have hkn : k < M.n := by
            refine Nat.lt_of_le_of_ne hk fun e => nc ?_
            rw [e] at dep
            have := dep.const
            cases q : F 0 with
            | false => rw [q] at this; exact .inl this
            | true => rw [q] at this; exact .inr this
          have hv : M.v k < 8 := by have := o.vlt k hkn; have := o.le8; omega
          have h6 := h.below B6.out
          have row6 := row.of_block (B6.out.block g row.lt)
          have C6 := hC.kept B6.out
          have cv : ∀ u, Below w6.heap.size w6 u → u.cell? ⟨g, 0 + k, none⟩ = some (.int .i64 (M.v k : Int)) := fun u hu => by
            rw [Nat.zero_add, hu.cell row6.lt]
            exact row6.cell hkn
          obtain ⟨X, hX⟩ : ∃ X, fixF F (M.v k) false = X := ⟨_, rfl⟩
          obtain ⟨Y, hY⟩ : ∃ Y, fixF F (M.v k) true = Y := ⟨_, rfl⟩
          have KX : ∀ u, Below w6.heap.size w6 u → Calls Tryz.prog 73 #[tab F, .int .i64 (M.v k : Int), .bool false] u fun e w' => e = .returned (tab X) ∧ Below u.heap.size u w' := fun u hu => by rw [← hX]; exact Rf.pfix_any F (M.v k) hv false u (C6.kept hu)
          have KY : ∀ u, Below w6.heap.size w6 u → Calls Tryz.prog 73 #[tab F, .int .i64 (M.v k : Int), .bool true] u fun e w' => e = .returned (tab Y) ∧ Below u.heap.size u w' := fun u hu => by rw [← hY]; exact Rf.pfix_any F (M.v k) hv true u (C6.kept hu)
          have hXA : Aside (fixF F (M.v k) false = X) := hX
          have hYA : Aside (fixF F (M.v k) true = Y) := hY
          clear hX hY nc c0A c1A
          go_upto_region 5 with fail
          refine Rf.wp_region_box 129 IsT2 tab2 _ (fun _ => false, fun _ => false) (fun _ _ _ _ q k => q.below k) IsT2.zero run_alloc2 (fun w b c0 c q => ⟨_, run_store2 q c, laid2_is q c, laid2_turned _ _ _⟩) (X, Y) 8 36 [(22, tab F), (23, .pointer (some ⟨b, 1, none⟩)), (24, .slice (some ⟨g, 0, none⟩) M.n M.n), (25, .int .i64 (k : Int)), (26, .pointer (some ⟨g, 0 + k, none⟩)), (27, .int .i64 (M.v k : Int)), (28, tab X), (29, tab F), (30, .pointer (some ⟨b, 1, none⟩)), (31, .slice (some ⟨g, 0, none⟩) M.n M.n), (32, .int .i64 (k : Int)), (33, .pointer (some ⟨g, 0 + k, none⟩)), (34, .int .i64 (M.v k : Int)), (35, tab Y), (36, tab2 (X, Y))] [22, 23, 24, 25, 26, 27, 28, 29, 30, 31, 32, 33, 34, 35, 36] 79 (by kernel_rfl) (by kernel_rfl) rfl rfl (by decide) rfl (by decide) ?_ ⟨_, rfl, rfl, rfl, rfl⟩ ⟨_, rfl, rfl, rfl, rfl, ⟨⟨14, .data⟩, by simp, rfl, rfl⟩, ⟨⟨15, .data⟩, by simp, rfl, rfl⟩⟩ ?_
          · intro i kk hkk
            match i, hkk with
            | 0, hk => obtain rfl := Option.some.inj hk; exact ⟨_, rfl, rfl, rfl, fun ac u hG hpre K hK => Rf.wp_load (b := b + 1) rfl rfl ((hG.other 4 (by decide)).trans rfl) (kept TF6 hG.below) hK⟩
            | 1, hk => obtain rfl := Option.some.inj hk; exact ⟨_, rfl, rfl, rfl, fun ac u hG hpre K hK => Rf.wp_val rfl (x_field rfl ((hG.other 3 (by decide)).trans rfl) (fieldW1 b u)) (hK u (Below.refl _ _))⟩
            | 2, hk => obtain rfl := Option.some.inj hk; exact ⟨_, rfl, rfl, rfl, fun ac u hG hpre K hK => Rf.wp_val rfl (x_load rfl (hpre ⟨1, .data⟩ (by simp) rfl _ rfl) (loadS (TW6.below hG.below).c1)) (hK u (Below.refl _ _))⟩
            | 3, hk => obtain rfl := Option.some.inj hk; exact ⟨_, rfl, rfl, rfl, fun ac u hG hpre K hK => Rf.wp_move rfl rfl ((hG.other 2 (by decide)).trans rfl) hK⟩
            | 4, hk => obtain rfl := Option.some.inj hk; exact ⟨_, rfl, rfl, rfl, fun ac u hG hpre K hK => Rf.wp_val rfl (Rf.x_index rfl (hpre ⟨2, .data⟩ (by simp) rfl _ rfl) (hpre ⟨3, .data⟩ (by simp) rfl _ rfl) (idxI g 0 k M.n M.n hkn u)) (hK u (Below.refl _ _))⟩
            | 5, hk => obtain rfl := Option.some.inj hk; exact ⟨_, rfl, rfl, rfl, fun ac u hG hpre K hK => Rf.wp_val rfl (x_load rfl (hpre ⟨4, .data⟩ (by simp) rfl _ rfl) (loadI (cv u hG.below))) (hK u (Below.refl _ _))⟩
            | 6, hk =>
              obtain rfl := Option.some.inj hk
              refine ⟨_, rfl, rfl, rfl, fun ac u hG hpre K hK => ?_⟩
              have e0 : ac.eval (.tmp 22) = tab F := hpre ⟨0, .data⟩ (by simp) rfl _ rfl
              have e1 : ac.eval (.tmp 27) = .int .i64 (M.v k : Int) := hpre ⟨5, .data⟩ (by simp) rfl _ rfl
              have e2 : ac.eval (.const (.bool false)) = .bool false := rfl
              exact Rf.wp_call rfl (Rf.run_call rfl #[tab F, .int .i64 (M.v k : Int), .bool false] (fun vs => callPFix vs u) (by simp only [List.map_toArray, List.map_cons, List.map_nil, e0, e1, e2])) (KX u hG.below) hK
            | 7, hk => obtain rfl := Option.some.inj hk; exact ⟨_, rfl, rfl, rfl, fun ac u hG hpre K hK => Rf.wp_load (b := b + 1) rfl rfl ((hG.other 4 (by decide)).trans rfl) (kept TF6 hG.below) hK⟩
            | 8, hk => obtain rfl := Option.some.inj hk; exact ⟨_, rfl, rfl, rfl, fun ac u hG hpre K hK => Rf.wp_val rfl (x_field rfl ((hG.other 3 (by decide)).trans rfl) (fieldW1 b u)) (hK u (Below.refl _ _))⟩
            | 9, hk => obtain rfl := Option.some.inj hk; exact ⟨_, rfl, rfl, rfl, fun ac u hG hpre K hK => Rf.wp_val rfl (x_load rfl (hpre ⟨8, .data⟩ (by simp) rfl _ rfl) (loadS (TW6.below hG.below).c1)) (hK u (Below.refl _ _))⟩
            | 10, hk => obtain rfl := Option.some.inj hk; exact ⟨_, rfl, rfl, rfl, fun ac u hG hpre K hK => Rf.wp_move rfl rfl ((hG.other 2 (by decide)).trans rfl) hK⟩
            | 11, hk => obtain rfl := Option.some.inj hk; exact ⟨_, rfl, rfl, rfl, fun ac u hG hpre K hK => Rf.wp_val rfl (Rf.x_index rfl (hpre ⟨9, .data⟩ (by simp) rfl _ rfl) (hpre ⟨10, .data⟩ (by simp) rfl _ rfl) (idxI g 0 k M.n M.n hkn u)) (hK u (Below.refl _ _))⟩
            | 12, hk => obtain rfl := Option.some.inj hk; exact ⟨_, rfl, rfl, rfl, fun ac u hG hpre K hK => Rf.wp_val rfl (x_load rfl (hpre ⟨11, .data⟩ (by simp) rfl _ rfl) (loadI (cv u hG.below))) (hK u (Below.refl _ _))⟩
            | 13, hk =>
              obtain rfl := Option.some.inj hk
              refine ⟨_, rfl, rfl, rfl, fun ac u hG hpre K hK => ?_⟩
              have e0 : ac.eval (.tmp 29) = tab F := hpre ⟨7, .data⟩ (by simp) rfl _ rfl
              have e1 : ac.eval (.tmp 34) = .int .i64 (M.v k : Int) := hpre ⟨12, .data⟩ (by simp) rfl _ rfl
              have e2 : ac.eval (.const (.bool true)) = .bool true := rfl
              exact Rf.wp_call rfl (Rf.run_call rfl #[tab F, .int .i64 (M.v k : Int), .bool true] (fun vs => callPFix vs u) (by simp only [List.map_toArray, List.map_cons, List.map_nil, e0, e1, e2])) (KY u hG.below) hK
            | 14, hk =>
              obtain rfl := Option.some.inj hk
              refine ⟨_, rfl, rfl, rfl, fun ac u hG hpre K hK => ?_⟩
              have e0 : ac.eval (.tmp 28) = tab X := hpre ⟨6, .data⟩ (by simp) rfl _ rfl
              have e1 : ac.eval (.tmp 35) = tab Y := hpre ⟨13, .data⟩ (by simp) rfl _ rfl
              exact Rf.wp_val rfl (x_build rfl (by simp only [List.map_toArray, List.map_cons, List.map_nil, e0, e1]) (run_build2 X Y u)) (hK u (Below.refl _ _))
            | i + 15, hk => simp at hk
          · intro p8 w7 s7 _ T8
            simp only [Rf.vfin, Act.put, List.setIfInBounds_toArray, List.set_cons_succ, List.set_cons_zero]
            have TF7 := kept TF6 s7
            have TW7 := TW6.below s7
            have B7 : Aside (Below w.heap.size w w7) := Rf.below_far B6.out s7
            have h7 := h6.below s7
            have row7 := row6.of_block (s7.block g row6.lt)
            have C7 := C6.kept s7
            have depA : Aside (Dep M k F) := dep
            have roomA : Aside (Much M k F) := room
            have kb : (k : Int) ≤ 8 := by have := o.le8; omega
            obtain ⟨⟨p0, p1, p2, p3⟩, p4, p5, p6, p7⟩ := T8.cells
            simp only at p0 p1 p2 p3 p4 p5 p6 p7
            obtain ⟨z, hz⟩ : ∃ z, same X Y = z := ⟨_, rfl⟩
            have hzA : Aside (same X Y = z) := hz
            have heq : ∀ w, (Op.equalIn 10000 24 (tab X) (tab Y)).run Tryz.prog w = .ok z w := fun w => by rw [← hz]; exact Rf.equal_tab _ _ w
            unfold tab at heq
            clear hz s7 TF6 TW6 h6 row6 C6 KX KY cv h row hC dep room B0A B6
            cases z with
            | true =>
              have eXY : Eqt X Y := (Rf.same_iff _ _).1 hzA.out
              have eF : Eqt (fixF F (M.v k) false) F := fix_same hv (by rw [hXA.out, hYA.out]; exact eXY)
              have KA := ih hkn h7 rfl (Dep.congr (depA.out.fix o hkn false) eF) row7 C7 hF (Much.low roomA.out)
              rw [show ((k + 1 : Nat) : Int) = (k : Int) + 1 by omega] at KA
              unfold wkv tab at KA
              obtain ⟨t0, t1, t2, t3⟩ := TF7.copy
              have d0 := TW7.c0
              have d1 := TW7.c1
              clear eXY eF
              go_wp2_with (first
                | (go_at_call 45; refine KA.mono ?_; clear KA; rintro e w8 ⟨x, M8, F8, rfl, g8, s8, b8⟩))
              go_ret2
              exact ⟨x, M8, F8, rfl, g8.raise (by omega), s8, (Wf.of_below B7.out F0).trans b8⟩
            | false =>
              have neXY : Aside (¬ Eqt X Y) := fun e => by have := same_true e; rw [hzA.out] at this; cases this
              go_upto_region 9 with fail
              have N8 := nb w7 (.cells #[.int .u32 0, .int .u32 0] 130)
              have CH8 := Is2.new 130 w7 (.int .u32 0) (.int .u32 0)
              generalize w7.alloc (.cells #[.int .u32 0, .int .u32 0] 130) = w8 at N8 CH8 ⊢
              have ch0 : Aside (0 < w7.heap.size) := C7.1
              have ch1 : Aside (w.heap.size ≤ w7.heap.size) := B7.out.size
              generalize w7.heap.size = ch at CH8 ch0 ch1 ⊢
              have T88 := T8.below N8
              clear p0 p1 p2 p3 p4 p5 p6 p7
              obtain ⟨⟨p0, p1, p2, p3⟩, p4, p5, p6, p7⟩ := T88.cells
              simp only at p0 p1 p2 p3 p4 p5 p6 p7
              have h8 := h7.below N8
              have row8 := row7.of_block (N8.block g row7.lt)
              have C8 := C7.kept N8
              have TW8 := TW7.below N8
              have B8 : Aside (Below w.heap.size w w8) := Rf.below_far B7.out N8
              clear h7 row7 C7 TW7 B7 TF7 heq T8 N8
              go_upto_region 10 with fail
              have ix0 : ∀ w : World, _ := fun w => (index2 (.int .u64 (word X 0 : Int)) (.int .u64 (word X 1 : Int)) (.int .u64 (word X 2 : Int)) (.int .u64 (word X 3 : Int)) (.int .u64 (word Y 0 : Int)) (.int .u64 (word Y 1 : Int)) (.int .u64 (word Y 2 : Int)) (.int .u64 (word Y 3 : Int)) w).1
              have ix1 : ∀ w : World, _ := fun w => (index2 (.int .u64 (word X 0 : Int)) (.int .u64 (word X 1 : Int)) (.int .u64 (word X 2 : Int)) (.int .u64 (word X 3 : Int)) (.int .u64 (word Y 0 : Int)) (.int .u64 (word Y 1 : Int)) (.int .u64 (word Y 2 : Int)) (.int .u64 (word Y 3 : Int)) w).2
              clear p0 p1 p2 p3 p4 p5 p6 p7 T88
              refine wp_loop_rounds 3 ?_
              rw [rounds_succ]
              go_upto_region 12 with fail
              have N9 := nb w8 (.cells #[.int .u64 (word X 0 : Int), .int .u64 (word X 1 : Int), .int .u64 (word X 2 : Int), .int .u64 (word X 3 : Int)] 24)
              have TX := IsTab.new w8 X
              generalize w8.alloc (.cells #[.int .u64 (word X 0 : Int), .int .u64 (word X 1 : Int), .int .u64 (word X 2 : Int), .int .u64 (word X 3 : Int)] 24) = w9 at N9 TX ⊢
              generalize w8.heap.size = px at TX ⊢
              have h9 := h8.below N9
              have row9 := row8.of_block (N9.block g row8.lt)
              have C9 := C8.kept N9
              have TW9 := TW8.below N9
              have CH9 := CH8.below N9
              have B9 : Aside (Below w.heap.size w w9) := Rf.below_far B8.out N9
              have dX : Dep M (k + 1) X := hXA.out ▸ depA.out.fix o hkn false
              have dYA : Aside (Dep M (k + 1) Y) := hYA.out ▸ depA.out.fix o hkn true
              have KA := ih hkn h9 rfl dX row9 C9 hF (Much.low roomA.out)
              have KB : Aside (∀ {u : World} {F9 : Nat → Prop} {M9 : Mdl} {a : Nat}, St u S F9 M9 → Got M (k + 1) X a M9 → u.rowIs g 3 M.n (fun i => .int .i64 (M.v i : Int)) → Cols u → ¬ F9 0 → Calls Tryz.prog 45 #[wkv S g M.n, tab Y, .int .i64 ((k : Int) + 1)] u (Made1 S F9 u M9 (k + 1) Y)) := fun {u F9 M9 a} su gu ru cu fu => by
                have n8 := gu.grew.n
                have v8 := gu.grew.v
                have := ih hkn (M' := M9) (F := Y) su n8 (dYA.out.grew gu.grew) (by rw [n8, v8]; exact ru) cu fu (Much.high hkn roomA.out gu)
                rw [n8, show ((k + 1 : Nat) : Int) = (k : Int) + 1 by omega] at this
                exact this
              rw [show ((k + 1 : Nat) : Int) = (k : Int) + 1 by omega] at KA
              unfold wkv tab at KA
              obtain ⟨t0, t1, t2, t3⟩ := TX.copy
              have d0 := TW9.c0
              have d1 := TW9.c1
              have hFA : Aside (¬ F0 0) := hF
              clear ih h8 row8 C8 TW8 CH8 B8 dX N9 hF
              go_upto_region 15 with (first
                | (go_at_call 45; refine KA.mono ?_; clear KA; rintro e u1 ⟨a, M1, F1, rfl, g1, s1, b1⟩))
              have CH1 := CH9.wf h9 b1 (by decide)
              have TW1 := TW9.wf h9 b1 (by decide)
              have row1 := b1.row h9 row9 (by decide)
              obtain ⟨C1, n1⟩ := Cols.wf C9 hFA.out b1
              have q0 := CH1.c0
              have q1 := CH1.free 0
              clear d0 d1 t0 t1 t2 t3 TX
              go_wp2_with fail
              have CH2 := CH1.set0 (.int .u32 (a : Int))
              have TW2 := TW1.other (c := ⟨ch, 0, none⟩) (TW1.ne CH1 (by decide)) (.int .u32 (a : Int))
              have row2 := row1.setOther (a := ⟨ch, 0, none⟩) (CH1.neRow row1 (by decide)) (.int .u32 (a : Int))
              have C2 := Cols.set C1 (c := ⟨ch, 0, none⟩) ch0.out (.int .u32 (a : Int))
              have s2 := s1.set (c := ⟨ch, 0, none⟩) (s1.row CH1 (by decide)) (.int .u32 (a : Int))
              have f2 : Aside (Wf F0 F1 w (u1.setCell ⟨ch, 0, none⟩ (.int .u32 (a : Int)))) := ((Wf.of_below B9.out F0).trans b1).set (c := ⟨ch, 0, none⟩) ch1.out (.int .u32 (a : Int))
              generalize u1.setCell ⟨ch, 0, none⟩ (.int .u32 (a : Int)) = u2 at CH2 TW2 row2 C2 s2 f2 ⊢
              have o1A : Aside M1.Ok := s1.ok
              clear CH1 TW1 row1 C1 q0 q1 b1 h9 row9 C9 TW9 CH9 B9 s1
              rw [rounds_succ]
              go_upto_region 12 with fail
              have N3 := nb u2 (.cells #[.int .u64 (word Y 0 : Int), .int .u64 (word Y 1 : Int), .int .u64 (word Y 2 : Int), .int .u64 (word Y 3 : Int)] 24)
              have TY := IsTab.new u2 Y
              generalize u2.alloc (.cells #[.int .u64 (word Y 0 : Int), .int .u64 (word Y 1 : Int), .int .u64 (word Y 2 : Int), .int .u64 (word Y 3 : Int)] 24) = u3 at N3 TY ⊢
              generalize u2.heap.size = py at TY ⊢
              have s3 := s2.below N3
              have CH3 := CH2.below N3
              have TW3 := TW2.below N3
              have f3 : Aside (Wf F0 F1 w u3) := f2.out.trans (Wf.of_below N3 F1)
              have KY := KB.out s3 g1 (row2.of_block (N3.block g row2.lt)) (C2.kept N3) n1
              unfold wkv tab at KY
              obtain ⟨t0, t1, t2, t3⟩ := TY.copy
              have d0 := TW3.c0
              have d1 := TW3.c1
              clear KB s2 CH2 TW2 row2 C2 f2 N3
              go_upto_region 15 with (first
                | (go_at_call 45; refine KY.mono ?_; clear KY; rintro e u4 ⟨c, M4, F4, rfl, g4, s4, b4⟩))
              have CH4 := CH3.wf s3 b4 (by decide)
              have TW4 := TW3.wf s3 b4 (by decide)
              have f4 : Aside (Wf F0 F4 w u4) := f3.out.trans b4
              have q0 := CH4.c1
              have q1 := CH4.free 1
              clear d0 d1 t0 t1 t2 t3 TY CH3 TW3 b4
              go_wp2_with fail
              have CH5 := CH4.set1 (.int .u32 (c : Int))
              have TW5 := TW4.other (c := ⟨ch, 1, none⟩) (TW4.ne CH4 (by decide)) (.int .u32 (c : Int))
              have s5 := s4.set (c := ⟨ch, 1, none⟩) (s4.row CH4 (by decide)) (.int .u32 (c : Int))
              have f5 : Aside (Wf F0 F4 w (u4.setCell ⟨ch, 1, none⟩ (.int .u32 (c : Int)))) := f4.out.set (c := ⟨ch, 1, none⟩) ch1.out (.int .u32 (c : Int))
              generalize u4.setCell ⟨ch, 1, none⟩ (.int .u32 (c : Int)) = u5 at CH5 TW5 s5 f5 ⊢
              have o4A : Aside M4.Ok := s4.ok
              rw [← hXA.out] at g1
              rw [← hYA.out] at g4
              have neac : a ≠ c := fun e => neXY.out fun y hy => by
                have e1 := g1.tbl y hy
                have e2 := g4.tbl y hy
                rw [hXA.out] at e1
                rw [hYA.out] at e2
                rw [← e1, ← e2, ← e, g4.grew.tbl o1A.out g1.node]
              have fit := Got.fits hkn g1 g4 neac
              have rL := Much.fits hkn s4.ok roomA.out g1 g4
              have d0 := TW5.c0
              have e0 := CH5.c0
              have e1 := CH5.c1
              clear q0 q1 CH4 TW4 f4 s4
              by_cases hth : ∃ y ∈ M4.hs, M4.nd y = (k, a, c)
              · obtain ⟨y, ym, ye⟩ := hth
                have Km := s_mk_there s5 k a c fit y ym ye
                have fin : Aside (Got M k F y M4) := Got.join o o1A.out o4A.out hkn depA.out g1 g4 neac o4A.out (.inl ⟨ym, ye, rfl⟩)
                clear ye
                rw [rounds_succ]
                go_wp2_with (first
                  | (go_at_call 74; refine Km.mono ?_; clear Km; rintro e u6 ⟨rfl, F6, s6, b6⟩))
                go_ret2
                exact ⟨y, M4, F6, rfl, fin.out, s6, f5.out.trans b6⟩
              · have Km := s_mk_new s5 k a c fit (fun y ym ye => hth ⟨y, ym, ye⟩) rL
                have fin : Aside (∀ {y : Nat} {M' : Mdl}, M'.Ok → M4.Adds y (k, a, c) M' → Got M k F y M') := fun o' ad => Got.join o o1A.out o4A.out hkn depA.out g1 g4 neac o' (.inr ad)
                clear hth
                rw [rounds_succ]
                go_wp2_with (first
                  | (go_at_call 74; refine Km.mono ?_; clear Km; rintro e u6 ⟨y, rfl, F6, M6, ad6, s6, b6, y6⟩; have adA : Aside (M4.Adds y (k, a, c) M6) := ad6; clear ad6 y6))
                go_ret2
                exact ⟨y, M6, F6, rfl, fin.out s6.ok adA.out, s6, f5.out.trans b6⟩
theorem node_any (d : Nat) : ∀ {w : World} {S : Nat} {F0 : Nat → Prop} {M : Mdl} {k : Nat} {F : Nat → Bool} {g : Nat}, St w S F0 M → M.n - k ≤ d → k ≤ M.n → Dep M k F → w.rowIs g 3 M.n (fun i => .int .i64 (M.v i : Int)) → Cols w → ¬ F0 0 → Much M k F →
    Calls Tryz.prog 45 #[wkv S g M.n, tab F, .int .i64 (k : Int)] w (Made1 S F0 w M k F) := by
  induction d with
  | zero =>
    intro w S F0 M k F g h hd hk dep row hC hF room
    exact node_step h hk dep row hC hF room fun e => by omega
  | succ d ih =>
    intro w S F0 M k F g h hd hk dep row hC hF room
    exact node_step h hk dep row hC hF room fun e {w' F' M' G} s n dp r c f m => ih s (by omega) (by omega) dp r c f m
end Go.Proofs.YtfaccdnnjkkcfaaGreatDoor
