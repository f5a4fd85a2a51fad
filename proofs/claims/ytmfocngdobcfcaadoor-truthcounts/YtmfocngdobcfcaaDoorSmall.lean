/-
  Single operations on small numbers and truth values, as rules.
-/
import Derived.Test.YtmfocngdobcfcaaDoorVals
namespace Go.Proofs.YtmfocngdobcfcaaDoor
open Go Go.RowKit

theorem run_or8 {a b c : Int} (h : bits .or .u8 a b = c) (w : World) : (binOp .or 5 (.int .u8 a) (.int .u8 b)).run Tryd.prog w = .ok (.int .u8 c) w := by
  subst h; go_simp
theorem run_and8 {a b c : Int} (h : bits .and .u8 a b = c) (w : World) : (binOp .and 5 (.int .u8 a) (.int .u8 b)).run Tryd.prog w = .ok (.int .u8 c) w := by
  subst h; go_simp
theorem run_andNot8 {a b c : Int} (h : bits .andNot .u8 a b = c) (w : World) : (binOp .andNot 5 (.int .u8 a) (.int .u8 b)).run Tryd.prog w = .ok (.int .u8 c) w := by
  subst h; go_simp
theorem run_eq8 (a b : Int) (w : World) : (binOp .eql 5 (.int .u8 a) (.int .u8 b)).run Tryd.prog w = .ok (.bool (a == b)) w := by
  go_simp
theorem run_eq64 (a b : Int) (w : World) : (binOp .eql 3 (.int .i64 a) (.int .i64 b)).run Tryd.prog w = .ok (.bool (a == b)) w := by
  go_simp
theorem run_eqB (a b : Bool) (w : World) : (binOp .eql 4 (.bool a) (.bool b)).run Tryd.prog w = .ok (.bool (a == b)) w := by
  cases a <;> cases b <;> go_simp
theorem run_eqT {a b : Bool} (h : a = b) (w : World) : (binOp .eql 4 (.bool a) (.bool b)).run Tryd.prog w = .ok (.bool true) w := by
  subst h; cases a <;> go_simp
theorem run_neB (a b : Bool) (w : World) : (binOp .neq 4 (.bool a) (.bool b)).run Tryd.prog w = .ok (.bool (a != b)) w := by
  cases a <;> cases b <;> go_simp
theorem run_notB (a : Bool) (w : World) : (Op.unary .not (.bool a)).run Tryd.prog w = .ok (.bool (!a)) w := by
  go_simp
theorem grd_or8 (x y : Operand) (a b : Value) (w : World) : (eqGuard .or 5 x y a b).run Tryd.prog w = .ok () w := by
  go_simp
theorem grd_and8 (x y : Operand) (a b : Value) (w : World) : (eqGuard .and 5 x y a b).run Tryd.prog w = .ok () w := by
  go_simp
theorem grd_andNot8 (x y : Operand) (a b : Value) (w : World) : (eqGuard .andNot 5 x y a b).run Tryd.prog w = .ok () w := by
  go_simp
theorem grd_shr8 (x y : Operand) (a b : Value) (w : World) : (eqGuard .shr 5 x y a b).run Tryd.prog w = .ok () w := by
  go_simp
theorem grd_eq8 (x y : Operand) (a b : Int) (w : World) : (eqGuard .eql 5 x y (.int .u8 a) (.int .u8 b)).run Tryd.prog w = .ok () w := by
  go_simp
theorem grd_eq64 (x y : Operand) (a b : Int) (w : World) : (eqGuard .eql 3 x y (.int .i64 a) (.int .i64 b)).run Tryd.prog w = .ok () w := by
  go_simp
theorem grd_eqB (x y : Operand) (a b : Bool) (w : World) : (eqGuard .eql 4 x y (.bool a) (.bool b)).run Tryd.prog w = .ok () w := by
  go_simp
theorem grd_neB (x y : Operand) (a b : Bool) (w : World) : (eqGuard .neq 4 x y (.bool a) (.bool b)).run Tryd.prog w = .ok () w := by
  go_simp
theorem run_shr8 (x k : Nat) (hk : k < 8) (w : World) : (binOp .shr 5 (.int .u8 (x : Int)) (.int .u8 (k : Int))).run Tryd.prog w = .ok (.int .u8 ((x : Int) / 2 ^ k)) w := by
  have h : min k 8 = k := by omega
  go_simp
theorem run_conv8 (k : Nat) (hk : k < 256) (w : World) : (convert 5 3 (.int .u8 (k : Int))).run Tryd.prog w = .ok (.int .i64 (k : Int)) w := by
  have h : IntKind.i64.wrap (k : Int) = (k : Int) := by rw [IntKind.wrap_i64]; omega
  go_simp
theorem call10 (vs : Array Value) (w : World) : (callFunc 10 vs).run Tryd.prog w = .ok (.enter 10 vs) w := by
  have h := Tryd.func10
  go_simp
theorem call12 (vs : Array Value) (w : World) : (callFunc 12 vs).run Tryd.prog w = .ok (.enter 12 vs) w := by
  have h := Tryd.func12
  go_simp
theorem call22 (vs : Array Value) (w : World) : (callFunc 22 vs).run Tryd.prog w = .ok (.enter 22 vs) w := by
  have h := Tryd.func22
  go_simp
theorem call24 (vs : Array Value) (w : World) : (callFunc 24 vs).run Tryd.prog w = .ok (.enter 24 vs) w := by
  have h := Tryd.func24
  go_simp
theorem call34 (vs : Array Value) (w : World) : (callFunc 34 vs).run Tryd.prog w = .ok (.enter 34 vs) w := by
  have h := Tryd.func34
  go_simp
theorem call40 (vs : Array Value) (w : World) : (callFunc 40 vs).run Tryd.prog w = .ok (.enter 40 vs) w := by
  have h := Tryd.func40
  go_simp
theorem call41 (vs : Array Value) (w : World) : (callFunc 41 vs).run Tryd.prog w = .ok (.enter 41 vs) w := by
  have h := Tryd.func41
  go_simp
theorem call42 (vs : Array Value) (w : World) : (callFunc 42 vs).run Tryd.prog w = .ok (.enter 42 vs) w := by
  have h := Tryd.func42
  go_simp
theorem call43 (vs : Array Value) (w : World) : (callFunc 43 vs).run Tryd.prog w = .ok (.enter 43 vs) w := by
  have h := Tryd.func43
  go_simp
theorem call44 (vs : Array Value) (w : World) : (callFunc 44 vs).run Tryd.prog w = .ok (.enter 44 vs) w := by
  have h := Tryd.func44
  go_simp
theorem call45 (vs : Array Value) (w : World) : (callFunc 45 vs).run Tryd.prog w = .ok (.enter 45 vs) w := by
  have h := Tryd.func45
  go_simp
theorem call46 (vs : Array Value) (w : World) : (callFunc 46 vs).run Tryd.prog w = .ok (.enter 46 vs) w := by
  have h := Tryd.func46
  go_simp
theorem call47 (vs : Array Value) (w : World) : (callFunc 47 vs).run Tryd.prog w = .ok (.enter 47 vs) w := by
  have h := Tryd.func47
  go_simp
end Go.Proofs.YtmfocngdobcfcaaDoor
