/-
  For SwapKeeps: single operations by their values; what is in hand between two swaps.
-/
import Derived.Test.YteickckgljlacaaGreatSkA
import Derived.Test.YteickckgljlacaaGreatSOneW
namespace Go.Proofs.YteickckgljlacaaGreat.Sw
open Go Go.RowKit
open Rf (tab word same IsTab)

theorem r_idxH (b : Nat) {j : Nat} (hj : j < 3) (w : World) : (Instr.indexAt 39 (.pointer (some ⟨b, 0, none⟩)) (.int .i64 (j : Int))).run Tryz.prog w = .ok (.pointer (some ⟨b, j, none⟩)) w := by
  have h1 : (j : Int) < 3 := by omega
  go_simp
theorem r_idxF (b : Nat) {j : Nat} (hj : j < 3) (w : World) : (Instr.indexAt 25 (.pointer (some ⟨b, 0, none⟩)) (.int .i64 (j : Int))).run Tryz.prog w = .ok (.pointer (some ⟨b, j * 4, none⟩)) w := by
  have h1 : (j : Int) < 3 := by omega
  go_simp
theorem r_loadH {w : World} {ad : Addr} {v : Int} (h : w.cell? ad = some (.int .u32 v)) : (Instr.loadAt 38 (.pointer (some ad))).run Tryz.prog w = .ok (.int .u32 v) w := by
  go_simp
theorem r_loadF {w : World} {b o : Nat} {F : Nat → Bool} (c : w.cell? ⟨b, o, none⟩ = some (.int .u64 (word F 0 : Int)) ∧ w.cell? ⟨b, o + 1, none⟩ = some (.int .u64 (word F 1 : Int)) ∧ w.cell? ⟨b, o + 2, none⟩ = some (.int .u64 (word F 2 : Int)) ∧ w.cell? ⟨b, o + 3, none⟩ = some (.int .u64 (word F 3 : Int))) : (Instr.loadAt 24 (.pointer (some ⟨b, o, none⟩))).run Tryz.prog w = .ok (tab F) w := by
  obtain ⟨c0, c1, c2, c3⟩ := c
  go_simp
  rfl
theorem r_not (b : Bool) (w : World) : (Op.unary .not (.bool b)).run Tryz.prog w = .ok (.bool !b) w := by
  go_simp
theorem callIs (vs : Array Value) (w : World) : (callFunc 22 vs).run Tryz.prog w = .ok (.enter 22 vs) w := by
  have h := Tryz.func22
  go_simp
theorem run_eqH {a b : Int} (h : a = b) (w : World) : (binOp .eql 38 (.int .u32 a) (.int .u32 b)).run Tryz.prog w = .ok (.bool true) w := by
  subst h
  go_simp
theorem run_neH {a b : Int} (h : a ≠ b) (w : World) : (binOp .eql 38 (.int .u32 a) (.int .u32 b)).run Tryz.prog w = .ok (.bool false) w := by
  go_simp
theorem grd_eqH (x y : Operand) (a b : Int) (w : World) : (eqGuard .eql 38 x y (.int .u32 a) (.int .u32 b)).run Tryz.prog w = .ok () w := by
  go_simp
theorem grd_eqB (op : BinOp) (x y : Operand) (a b : Bool) (w : World) : (eqGuard op 4 x y (.bool a) (.bool b)).run Tryz.prog w = .ok () w := by
  go_simp
theorem run_neB (a : Bool) (w : World) : (binOp .neq 4 (.bool a) (.bool a)).run Tryz.prog w = .ok (.bool false) w := by
  go_simp
theorem row_far {w : World} {S : Nat} {F : Nat → Prop} {M : Mdl} (s : St w S F M) {b n : Nat} {t : TypeId} {f : Nat → Value} (h : w.rowIs b t n f) (ht : t ≠ 94 ∧ t ≠ 131 ∧ t ≠ 228 ∧ t ≠ 22 ∧ t ≠ 38) : ¬ F b := by
  obtain ⟨c, hb, _, _⟩ := h
  exact s.row hb ht
theorem row_apart {w : World} {b b' n n' : Nat} {t t' : TypeId} {f g : Nat → Value} (h : w.rowIs b t n f) (k : w.rowIs b' t' n' g) (ne : t ≠ t') : b ≠ b' := fun e => by
  subst e
  obtain ⟨c, hb, _, _⟩ := h
  obtain ⟨d, hd, _, _⟩ := k
  rw [hb] at hd
  injection hd with hd
  injection hd with _ ht
  exact ne ht
/-- One handle more. -/
def putN (h : Nat → Nat) (j x : Nat) : Nat → Nat := fun i => if i = j then x else h i
theorem putN_new (h : Nat → Nat) (j x : Nat) : putN h j x j = x := if_pos rfl
theorem putN_old (h : Nat → Nat) {j i : Nat} (x : Nat) (e : i ≠ j) : putN h j x i = h i := if_neg e
/-- A store; the first m of three handles are nodes of these functions; three tables, three handles, an order, all outside the store. -/
structure Kq (W w : World) (S n r m : Nat) (T : Nat → Nat → Bool) (h : Nat → Nat) (bt bh bo : Nat) (v : Nat → Nat) (F : Nat → Prop) (M : Mdl) : Prop where
  st : St w S F M
  en : M.n = n
  er : M.room = r
  kn : ∀ i, i < m → M.isNode (h i) ∧ Eqt (M.tbl (h i)) (T i)
  base : Below W.heap.size W w
  far : ∀ k, F k → W.heap.size ≤ k
  t3 : IsT3 w bt T
  h3 : w.rowIs bh 39 3 (fun i => .int .u32 (h i : Int))
  ord : w.rowIs bo 3 n (fun i => .int .i64 (v i : Int))
  lt : W.heap.size ≤ bt
  lh : W.heap.size ≤ bh
  lo : W.heap.size ≤ bo
namespace Kq
variable {W w w' : World} {S n r m : Nat} {T : Nat → Nat → Bool} {h : Nat → Nat} {bt bh bo : Nat} {v : Nat → Nat} {F F' : Nat → Prop} {M M' : Mdl}
theorem below (q : Kq W w S n r m T h bt bh bo v F M) (b : Below w.heap.size w w') : Kq W w' S n r m T h bt bh bo v F M :=
  ⟨q.st.below b, q.en, q.er, q.kn, Rf.below_far q.base b, q.far, q.t3.kept b, q.h3.of_block (b.block _ q.h3.lt), q.ord.of_block (b.block _ q.ord.lt), q.lt, q.lh, q.lo⟩
/-- A call that turns the store. -/
theorem wf (q : Kq W w S n r m T h bt bh bo v F M) (g : Wf F F' w w') (s : St w' S F' M') (k : Kept M M') : Kq W w' S n r m T h bt bh bo v F' M' :=
  ⟨s, k.n.trans q.en, k.room.trans q.er, fun i hi => ⟨k.node _ (q.kn i hi).1, by rw [k.tbl (q.kn i hi).1]; exact (q.kn i hi).2⟩, Wf.far q.base g q.base.size q.far, g.after q.base.size q.far,
   q.t3.of_block (g.block _ q.t3.lt (row_far q.st q.t3 (by decide))), q.h3.of_block (g.block _ q.h3.lt (row_far q.st q.h3 (by decide))), q.ord.of_block (g.block _ q.ord.lt (row_far q.st q.ord (by decide))), q.lt, q.lh, q.lo⟩
theorem ap_th (q : Kq W w S n r m T h bt bh bo v F M) : bt ≠ bh := row_apart q.t3 q.h3 (by decide)
theorem ap_to (q : Kq W w S n r m T h bt bh bo v F M) : bt ≠ bo := row_apart q.t3 q.ord (by decide)
theorem ap_ho (q : Kq W w S n r m T h bt bh bo v F M) : bh ≠ bo := row_apart q.h3 q.ord (by decide)
theorem st_set (q : Kq W w S n r m T h bt bh bo v F M) {a : Addr} (ha : ¬ F a.block) (x : Value) : St (w.setCell a x) S F M :=
  q.st.kept fun _ hi => Below.heap_setCell _ _ _ _ (fun e => ha (e ▸ hi))
theorem base_set (q : Kq W w S n r m T h bt bh bo v F M) {a : Addr} (ha : W.heap.size ≤ a.block) (x : Value) : Below W.heap.size W (w.setCell a x) := q.base.setCell ha x
/-- A handle laid. -/
theorem hand (q : Kq W w S n r m T h bt bh bo v F M) (x : Nat) (nx : M.isNode x) (ex : Eqt (M.tbl x) (T m)) : Kq W (w.setCell ⟨bh, m, none⟩ (.int .u32 (x : Int))) S n r (m + 1) T (putN h m x) bt bh bo v F M :=
  ⟨q.st_set (row_far q.st q.h3 (by decide)) _, q.en, q.er, fun i hi => by
    by_cases e : i = m
    · rw [e, putN_new]; exact ⟨nx, ex⟩
    · rw [putN_old _ _ e]; exact q.kn i (by omega),
   q.base_set q.lh _, q.far, q.t3.setOther q.ap_th _, (q.h3.set m _).congr (fun i _ => by
    by_cases e : i = m
    · rw [if_pos e, e, putN_new]
    · rw [if_neg e, putN_old _ _ e]), q.ord.setOther (fun e => q.ap_ho e.symm) _, q.lt, q.lh, q.lo⟩
/-- A table laid anew. -/
theorem table (q : Kq W w S n r m T h bt bh bo v F M) (hm : m < 3) (H : Nat → Bool) : Kq W ((((w.setCell ⟨bt, m * 4, none⟩ (.int .u64 (word H 0 : Int))).setCell ⟨bt, m * 4 + 1, none⟩ (.int .u64 (word H 1 : Int))).setCell ⟨bt, m * 4 + 2, none⟩ (.int .u64 (word H 2 : Int))).setCell ⟨bt, m * 4 + 3, none⟩ (.int .u64 (word H 3 : Int))) S n r m (putT T m H) h bt bh bo v F M := by
  have nf := row_far q.st q.t3 (by decide)
  refine ⟨?_, q.en, q.er, fun i hi => ?_, ?_, q.far, q.t3.set hm H, ?_, ?_, q.lt, q.lh, q.lo⟩
  · refine q.st.kept fun i hi => ?_
    have ne : i ≠ bt := fun e => nf (e ▸ hi)
    rw [Below.heap_setCell _ _ _ _ ne, Below.heap_setCell _ _ _ _ ne, Below.heap_setCell _ _ _ _ ne, Below.heap_setCell _ _ _ _ ne]
  · rw [putT_old _ _ (by omega)]; exact q.kn i hi
  · exact (((q.base.setCell q.lt _).setCell q.lt _).setCell q.lt _).setCell q.lt _
  · exact (((q.h3.setOther (fun e => q.ap_th e.symm) _).setOther (fun e => q.ap_th e.symm) _).setOther (fun e => q.ap_th e.symm) _).setOther (fun e => q.ap_th e.symm) _
  · exact (((q.ord.setOther (fun e => q.ap_to e.symm) _).setOther (fun e => q.ap_to e.symm) _).setOther (fun e => q.ap_to e.symm) _).setOther (fun e => q.ap_to e.symm) _
/-- Two places of the order change. -/
theorem turn (q : Kq W w S n r m T h bt bh bo v F M) (k : Nat) : Kq W (((w.setCell ⟨bo, k, none⟩ (.int .i64 (v (k + 1) : Int))).setCell ⟨bo, k + 1, none⟩ (.int .i64 (v k : Int))).drew) S n r m T h bt bh bo (swv v k) F M := by
  have nf := row_far q.st q.ord (by decide)
  have ne : ∀ i : Nat, F i → i ≠ bo := fun i hi e => nf (e ▸ hi)
  have s1 : St ((w.setCell ⟨bo, k, none⟩ (.int .i64 (v (k + 1) : Int))).setCell ⟨bo, k + 1, none⟩ (.int .i64 (v k : Int))) S F M := q.st.kept fun i hi => by
    rw [Below.heap_setCell _ _ _ _ (ne i hi), Below.heap_setCell _ _ _ _ (ne i hi)]
  have b1 : Below W.heap.size W ((w.setCell ⟨bo, k, none⟩ (.int .i64 (v (k + 1) : Int))).setCell ⟨bo, k + 1, none⟩ (.int .i64 (v k : Int))) := (q.base.setCell q.lo _).setCell q.lo _
  refine ⟨s1.drew, q.en, q.er, q.kn, ⟨b1.os, b1.tape, b1.output, b1.size, b1.block⟩, q.far, ?_, ?_, ?_, q.lt, q.lh, q.lo⟩
  · exact World.rowIs.drew ((q.t3.setOther q.ap_to _).setOther q.ap_to _)
  · exact World.rowIs.drew ((q.h3.setOther q.ap_ho _).setOther q.ap_ho _)
  · refine World.rowIs.drew (((q.ord.set k _).set (k + 1) _).congr fun i _ => ?_)
    by_cases e1 : i = k + 1
    · rw [if_pos e1, e1, swv_k1]
    · rw [if_neg e1]
      by_cases e0 : i = k
      · rw [if_pos e0, e0, swv_k]
      · rw [if_neg e0, swv_far e0 e1]
end Kq
end Go.Proofs.YteickckgljlacaaGreat.Sw
