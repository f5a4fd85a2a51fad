/-
  Single operations that Parts of the reference makes.
-/
import Derived.Test.YtdmfbfbebcneeaaRfParts
import Derived.Test.YtdmfbfbebcneeaaRfSmall
import Derived.Test.YtdmfbfbebcneeaaRfValsq
namespace Go.Proofs.Ytdmfbfbebcneeaa.Rf
open Go Go.RowKit

theorem run_neT (F G : Nat → Bool) (w : World) : (binOp .neq 46 (tab F) (tab G)).run Try.prog w = .ok (.bool (!same F G)) w := by
  have h : (Op.equalIn 10000 46 (tab F) (tab G)).run Try.prog w = .ok (same F G) w := equal_tab F G w
  unfold tab at h ⊢
  go_simp
theorem guard_ne (x y : Operand) (F G : Nat → Bool) (w : World) : (eqGuard .neq 46 x y (tab F) (tab G)).run Try.prog w = .ok () w := run_eqGuard_agg (P := Try.prog) w .neq 46 x y _ _ (by kernel_rfl)
theorem run_idx38 (bv ov k n cap : Nat) (h : k < n) (w : World) : (Instr.indexAt 47 (.slice (some ⟨bv, ov, none⟩) n cap) (.int .i64 (k : Int))).run Try.prog w = .ok (.pointer (some ⟨bv, ov + k, none⟩)) w := by
  have h1 : (k : Int) < (n : Int) := by omega
  go_simp
theorem run_load3 {w : World} {ad : Addr} {v : Int} (h : w.cell? ad = some (.int .i64 v)) : (Instr.loadAt 3 (.pointer (some ad))).run Try.prog w = .ok (.int .i64 v) w := by
  go_simp
theorem call11 (vs : Array Value) (w : World) : (callFunc 53 vs).run Try.prog w = .ok (.enter 53 vs) w := by
  have h := Try.func53
  go_simp
theorem call27 (vs : Array Value) (w : World) : (callFunc 42 vs).run Try.prog w = .ok (.enter 42 vs) w := by
  have h := Try.func42
  go_simp
theorem call56 (vs : Array Value) (w : World) : (callFunc 54 vs).run Try.prog w = .ok (.enter 54 vs) w := by
  have h := Try.func54
  go_simp
theorem wp_val {o : Oper} {a : Act} {w : World} {K : Act → World → Prop} {Q : Exit → Act → World → Prop} {d : Tmp} {v : Value} (hd : o.dst = some d) (hrun : (execOp a.eval o).run Try.prog w = .ok (.value v) w) (h : K (a.put (some d) v) w) : o.wp Try.prog a w K Q := by
  unfold Oper.wp
  rw [hrun, Oper.upon_value, hd]
  exact h
theorem x_index {o : Oper} {a : Act} {w : World} {t : TypeId} {x ix : Operand} {vx vi v : Value} (hop : o.op = .indexAddr t x ix) (hx : a.eval x = vx) (hi : a.eval ix = vi) (hb : (Instr.indexAt t vx vi).run Try.prog w = .ok v w) : (execOp a.eval o).run Try.prog w = .ok (.value v) w := by
  simp only [execOp, hop, hx, hi, Sem.run_bind, hb, Result.andThen_ok]; rfl
theorem callS {f : FuncId} {vs : Array Value} {v : Value} {w6 : World} (h : ∀ u, Below w6.heap.size w6 u → Calls Try.prog f vs u fun e w' => e = .returned v ∧ Below u.heap.size u w') : ∀ u, Below w6.heap.size w6 u → Calls Try.prog f vs u fun e w' => e = .returned v ∧ Below w6.heap.size w6 w' :=
  fun u s => (h u s).mono fun _ _ ⟨he, hb⟩ => ⟨he, below_far s hb⟩
end Go.Proofs.Ytdmfbfbebcneeaa.Rf
