/-
  What single operations yield: lengths, places of elements, comparisons.
-/
import Derived.Test.YtnekhfpccmnaiaaVals
import Derived.Test.YtnekhfpccmnaiaaTab
namespace Go.Proofs.Ytnekhfpccmnaiaa
open Go Go.RowKit

section
variable {o : Oper} {a : Act} {w : World}
theorem x_len39 {x : Operand} {ad : Option Addr} {n cap : Nat} (hop : o.op = .call { callee := .builtin .len, args := #[x], argTypes := #[39] }) (hx : a.eval x = .slice ad n cap) : (execOp a.eval o).run Try.prog w = .ok (.value (.int .i64 (n : Int))) w := by
  simp only [execOp, hop, resolve, invoke, builtin, List.map_toArray, List.map_cons, List.map_nil, hx]
  go_simp
theorem x_index39 {x i : Operand} {b off n cap k : Nat} (hop : o.op = .indexAddr 39 x i) (hx : a.eval x = .slice (some ⟨b, off, none⟩) n cap) (hi : a.eval i = .int .i64 (k : Int)) (hk : k < n) : (execOp a.eval o).run Try.prog w = .ok (.value (.pointer (some ⟨b, off + k, none⟩))) w := by
  have hk' : (k : Int) < (n : Int) := by omega
  simp only [execOp, hop, hx, hi]
  go_simp
theorem x_index45 {x i : Operand} {b off n cap k : Nat} (hop : o.op = .indexAddr 45 x i) (hx : a.eval x = .slice (some ⟨b, off, none⟩) n cap) (hi : a.eval i = .int .i64 (k : Int)) (hk : k < n) : (execOp a.eval o).run Try.prog w = .ok (.value (.pointer (some ⟨b, off + k, none⟩))) w := by
  have hk' : (k : Int) < (n : Int) := by omega
  simp only [execOp, hop, hx, hi]
  go_simp
theorem r_load5 {w : World} {b p : Nat} {z : Int} (h : w.cell? ⟨b, p, none⟩ = some (.int .u8 z)) : (Instr.loadAt 5 (.pointer (some ⟨b, p, none⟩))).run Try.prog w = .ok (.int .u8 z) w := by
  go_simp
theorem r_load22 {w : World} {b p : Nat} {z : Int} (h : w.cell? ⟨b, p, none⟩ = some (.int .u64 z)) : (Instr.loadAt 22 (.pointer (some ⟨b, p, none⟩))).run Try.prog w = .ok (.int .u64 z) w := by
  go_simp
theorem r_sub1 (l : Nat) (w : World) (hl : l ≤ 1000) : (binOp .sub 3 (.int .i64 ((l + 1 : Nat) : Int)) (.int .i64 1)).run Try.prog w = .ok (.int .i64 (l : Int)) w := by
  have hw : IntKind.i64.wrap (l : Int) = (l : Int) := by rw [IntKind.wrap_i64]; omega
  go_simp
theorem r_eq64 (x y : Int) (b : Bool) (w : World) (h : (x == y) = b) : (binOp .eql 22 (.int .u64 x) (.int .u64 y)).run Try.prog w = .ok (.bool b) w := by
  subst h
  go_simp
theorem r_ne64 (x y : Int) (b : Bool) (w : World) (h : (x != y) = b) : (binOp .neq 22 (.int .u64 x) (.int .u64 y)).run Try.prog w = .ok (.bool b) w := by
  subst h
  go_simp
theorem r_eqi (x y : Int) (b : Bool) (w : World) (h : (x == y) = b) : (binOp .eql 3 (.int .i64 x) (.int .i64 y)).run Try.prog w = .ok (.bool b) w := by
  subst h
  go_simp
theorem r_eqe (x y : Int) (b : Bool) (w : World) (h : (x == y) = b) : (binOp .eql 27 (.int .i64 x) (.int .i64 y)).run Try.prog w = .ok (.bool b) w := by
  subst h
  go_simp
theorem r_nee (x y : Int) (b : Bool) (w : World) (h : (x != y) = b) : (binOp .neq 27 (.int .i64 x) (.int .i64 y)).run Try.prog w = .ok (.bool b) w := by
  subst h
  go_simp
theorem r_neb (x y : Bool) (b : Bool) (w : World) (h : (x != y) = b) : (binOp .neq 4 (.bool x) (.bool y)).run Try.prog w = .ok (.bool b) w := by
  subst h
  go_simp
  cases x <;> cases y <;> rfl
theorem r_not (x : Bool) (w : World) : (Op.unary .not (.bool x)).run Try.prog w = .ok (.bool (!x)) w := by
  go_simp
end
theorem call15 (vs : Array Value) (w : World) : (callFunc 15 vs).run Try.prog w = .ok (.enter 15 vs) w := by
  have h := Try.func15
  go_simp
theorem call16 (vs : Array Value) (w : World) : (callFunc 16 vs).run Try.prog w = .ok (.enter 16 vs) w := by
  have h := Try.func16
  go_simp
theorem call17 (vs : Array Value) (w : World) : (callFunc 17 vs).run Try.prog w = .ok (.enter 17 vs) w := by
  have h := Try.func17
  go_simp
theorem call18 (vs : Array Value) (w : World) : (callFunc 18 vs).run Try.prog w = .ok (.enter 18 vs) w := by
  have h := Try.func18
  go_simp
theorem call20 (vs : Array Value) (w : World) : (callFunc 20 vs).run Try.prog w = .ok (.enter 20 vs) w := by
  have h := Try.func20
  go_simp
theorem call14 (vs : Array Value) (w : World) : (callFunc 14 vs).run Try.prog w = .ok (.enter 14 vs) w := by
  have h := Try.func14
  go_simp
theorem call13 (vs : Array Value) (w : World) : (callFunc 13 vs).run Try.prog w = .ok (.enter 13 vs) w := by
  have h := Try.func13
  go_simp
theorem call19 (vs : Array Value) (w : World) : (callFunc 19 vs).run Try.prog w = .ok (.enter 19 vs) w := by
  have h := Try.func19
  go_simp
theorem call21 (vs : Array Value) (w : World) : (callFunc 21 vs).run Try.prog w = .ok (.enter 21 vs) w := by
  have h := Try.func21
  go_simp
theorem call25 (vs : Array Value) (w : World) : (callFunc 25 vs).run Try.prog w = .ok (.enter 25 vs) w := by
  have h := Try.func25
  go_simp
end Go.Proofs.Ytnekhfpccmnaiaa
