/-
  Single operations that Parts of the reference makes.
-/
import Derived.Test.YtmfocngdobcfcaaDoorRingW
import Derived.Test.YtmfocngdobcfcaaDoorSmall
import Derived.Test.YtmfocngdobcfcaaDoorValsq
namespace Go.Proofs.YtmfocngdobcfcaaDoor
open Go Go.RowKit

theorem run_neT (F G : Nat → Bool) (w : World) : (binOp .neq 24 (tab F) (tab G)).run Tryd.prog w = .ok (.bool (!same F G)) w := by
  have h : (Op.equalIn 10000 24 (tab F) (tab G)).run Tryd.prog w = .ok (same F G) w := equal_tab F G w
  unfold tab at h ⊢
  go_simp
theorem guard_ne (x y : Operand) (F G : Nat → Bool) (w : World) : (eqGuard .neq 24 x y (tab F) (tab G)).run Tryd.prog w = .ok () w := run_eqGuard_agg (P := Tryd.prog) w .neq 24 x y _ _ (by kernel_rfl)
theorem run_idx38 (bv ov k n cap : Nat) (h : k < n) (w : World) : (Instr.indexAt 38 (.slice (some ⟨bv, ov, none⟩) n cap) (.int .i64 (k : Int))).run Tryd.prog w = .ok (.pointer (some ⟨bv, ov + k, none⟩)) w := by
  have h1 : (k : Int) < (n : Int) := by omega
  go_simp
theorem run_load3 {w : World} {ad : Addr} {v : Int} (h : w.cell? ad = some (.int .i64 v)) : (Instr.loadAt 3 (.pointer (some ad))).run Tryd.prog w = .ok (.int .i64 v) w := by
  go_simp
theorem call11 (vs : Array Value) (w : World) : (callFunc 11 vs).run Tryd.prog w = .ok (.enter 11 vs) w := by
  have h := Tryd.func11
  go_simp
theorem call27 (vs : Array Value) (w : World) : (callFunc 27 vs).run Tryd.prog w = .ok (.enter 27 vs) w := by
  have h := Tryd.func27
  go_simp
theorem call56 (vs : Array Value) (w : World) : (callFunc 56 vs).run Tryd.prog w = .ok (.enter 56 vs) w := by
  have h := Tryd.func56
  go_simp
theorem wp_val {o : Oper} {a : Act} {w : World} {K : Act → World → Prop} {Q : Exit → Act → World → Prop} {d : Tmp} {v : Value} (hd : o.dst = some d) (hrun : (execOp a.eval o).run Tryd.prog w = .ok (.value v) w) (h : K (a.put (some d) v) w) : o.wp Tryd.prog a w K Q := by
  unfold Oper.wp
  rw [hrun, Oper.upon_value, hd]
  exact h
theorem x_index {o : Oper} {a : Act} {w : World} {t : TypeId} {x ix : Operand} {vx vi v : Value} (hop : o.op = .indexAddr t x ix) (hx : a.eval x = vx) (hi : a.eval ix = vi) (hb : (Instr.indexAt t vx vi).run Tryd.prog w = .ok v w) : (execOp a.eval o).run Tryd.prog w = .ok (.value v) w := by
  simp only [execOp, hop, hx, hi, Sem.run_bind, hb, Result.andThen_ok]; rfl
end Go.Proofs.YtmfocngdobcfcaaDoor
