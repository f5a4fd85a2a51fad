/-
  Single operations on small numbers and truth values, as rules.
-/
import Derived.Test.YtdmfbfbebcneeaaRfVals
namespace Go.Proofs.Ytdmfbfbebcneeaa.Rf
open Go Go.RowKit

theorem run_or8 {a b c : Int} (h : bits .or .u8 a b = c) (w : World) : (binOp .or 5 (.int .u8 a) (.int .u8 b)).run Try.prog w = .ok (.int .u8 c) w := by
  subst h; go_simp
theorem run_and8 {a b c : Int} (h : bits .and .u8 a b = c) (w : World) : (binOp .and 5 (.int .u8 a) (.int .u8 b)).run Try.prog w = .ok (.int .u8 c) w := by
  subst h; go_simp
theorem run_andNot8 {a b c : Int} (h : bits .andNot .u8 a b = c) (w : World) : (binOp .andNot 5 (.int .u8 a) (.int .u8 b)).run Try.prog w = .ok (.int .u8 c) w := by
  subst h; go_simp
theorem run_eq8 (a b : Int) (w : World) : (binOp .eql 5 (.int .u8 a) (.int .u8 b)).run Try.prog w = .ok (.bool (a == b)) w := by
  go_simp
theorem run_eq64 (a b : Int) (w : World) : (binOp .eql 3 (.int .i64 a) (.int .i64 b)).run Try.prog w = .ok (.bool (a == b)) w := by
  go_simp
theorem run_eqB (a b : Bool) (w : World) : (binOp .eql 4 (.bool a) (.bool b)).run Try.prog w = .ok (.bool (a == b)) w := by
  cases a <;> cases b <;> go_simp
theorem run_eqT {a b : Bool} (h : a = b) (w : World) : (binOp .eql 4 (.bool a) (.bool b)).run Try.prog w = .ok (.bool true) w := by
  subst h; cases a <;> go_simp
theorem run_neB (a b : Bool) (w : World) : (binOp .neq 4 (.bool a) (.bool b)).run Try.prog w = .ok (.bool (a != b)) w := by
  cases a <;> cases b <;> go_simp
theorem run_notB (a : Bool) (w : World) : (Op.unary .not (.bool a)).run Try.prog w = .ok (.bool (!a)) w := by
  go_simp
theorem grd_or8 (x y : Operand) (a b : Value) (w : World) : (eqGuard .or 5 x y a b).run Try.prog w = .ok () w := by
  go_simp
theorem grd_and8 (x y : Operand) (a b : Value) (w : World) : (eqGuard .and 5 x y a b).run Try.prog w = .ok () w := by
  go_simp
theorem grd_andNot8 (x y : Operand) (a b : Value) (w : World) : (eqGuard .andNot 5 x y a b).run Try.prog w = .ok () w := by
  go_simp
theorem grd_shr8 (x y : Operand) (a b : Value) (w : World) : (eqGuard .shr 5 x y a b).run Try.prog w = .ok () w := by
  go_simp
theorem grd_eq8 (x y : Operand) (a b : Int) (w : World) : (eqGuard .eql 5 x y (.int .u8 a) (.int .u8 b)).run Try.prog w = .ok () w := by
  go_simp
theorem grd_eq64 (x y : Operand) (a b : Int) (w : World) : (eqGuard .eql 3 x y (.int .i64 a) (.int .i64 b)).run Try.prog w = .ok () w := by
  go_simp
theorem grd_eqB (x y : Operand) (a b : Bool) (w : World) : (eqGuard .eql 4 x y (.bool a) (.bool b)).run Try.prog w = .ok () w := by
  go_simp
theorem grd_neB (x y : Operand) (a b : Bool) (w : World) : (eqGuard .neq 4 x y (.bool a) (.bool b)).run Try.prog w = .ok () w := by
  go_simp
theorem run_shr8 (x k : Nat) (hk : k < 8) (w : World) : (binOp .shr 5 (.int .u8 (x : Int)) (.int .u8 (k : Int))).run Try.prog w = .ok (.int .u8 ((x : Int) / 2 ^ k)) w := by
  have h : min k 8 = k := by omega
  go_simp
theorem run_conv8 (k : Nat) (hk : k < 256) (w : World) : (convert 5 3 (.int .u8 (k : Int))).run Try.prog w = .ok (.int .i64 (k : Int)) w := by
  have h : IntKind.i64.wrap (k : Int) = (k : Int) := by rw [IntKind.wrap_i64]; omega
  go_simp
theorem call47 (vs : Array Value) (w : World) : (callFunc 25 vs).run Try.prog w = .ok (.enter 25 vs) w := by
  have h := Try.func25
  go_simp
end Go.Proofs.Ytdmfbfbebcneeaa.Rf
