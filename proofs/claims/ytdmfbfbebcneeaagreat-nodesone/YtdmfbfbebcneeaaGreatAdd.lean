/-
  A number added to a cell (Mem.Add).
-/
import Derived.Test.YtdmfbfbebcneeaaGreatMem
namespace Go.Proofs.YtdmfbfbebcneeaaGreat
open Go Go.RowKit
theorem add_u64 (x y : Int) (w : World) : (Op.intArith .add .u64 x y).run Tryz.prog w = .ok (.int .u64 (IntKind.u64.wrap (x + y))) w := by
  simp [go_sem]
theorem cadd_any (b o : Nat) (x y : Int) (w : World) (hc : w.cell? ⟨b, o, none⟩ = some (.int .u64 x)) (hf : w.frozen? ⟨b, o, none⟩ = false) :
    Calls Tryz.prog 64 #[.pointer (some ⟨b, o, none⟩), .int .u64 y] w fun e w' => e = .returned (.int .u64 (IntKind.u64.wrap (x + y))) ∧ w' = w.setCell ⟨b, o, none⟩ (.int .u64 (IntKind.u64.wrap (x + y))) := by
  have h := run_call_add (P := Tryz.prog) Tryz.func80 (by kernel_rfl) (by kernel_rfl) (by kernel_rfl) .u64 (by kernel_rfl) hc hf (add_u64 x y w)
  go_enter Tryz.func64, Tryz.ntmps64
  go_wp2
  go_ret
  exact ⟨rfl, rfl⟩
theorem addw_any (b o : Nat) (x y : Int) (w : World) (hc : w.cell? ⟨b, o, none⟩ = some (.int .u64 x)) (hf : w.frozen? ⟨b, o, none⟩ = false) :
    Calls Tryz.prog 47 #[.int .u64 y, .pointer (some ⟨b, o, none⟩)] w fun e w' => e = .returned (.int .u64 (IntKind.u64.wrap (x + y))) ∧ w' = w.setCell ⟨b, o, none⟩ (.int .u64 (IntKind.u64.wrap (x + y))) := by
  go_enter Tryz.func47, Tryz.ntmps47
  go_wp2_with (go_at_call 64; refine (cadd_any b o x y w hc hf).mono ?_; rintro e w' ⟨rfl, rfl⟩)
  go_ret
  exact ⟨rfl, rfl⟩
section
variable (P R n : Nat) (c : Nat → Int) (ops fails : Int) (w : World)
theorem add_in (i : Nat) (v : Int) (hi : i < n) (h : IsMem w P R n c ops fails) :
    Calls Tryz.prog 34 #[.pointer (some ⟨P, 0, none⟩), .int .i64 (i : Int), .int .u64 v] w fun e w' => e = .returned (.int .u64 (IntKind.u64.wrap (c i + v))) ∧ IsMem w' P R n (upd c i (IntKind.u64.wrap (c i + v))) (wrap64 (ops + 1)) fails ∧ Moved P R w w' := by
  have c0 := h.cell0
  have hm := h.setOps (wrap64 (ops + 1))
  have c0' := hm.cell0
  have r0 := hm.row.cell hi
  have f0 := hm.row.frozen i
  have hne := h.ne
  have hmf : ∀ (fn : Fn) (first cap : Array Value) (w : World), (Instr.makeFunc fn first cap).run Tryz.prog w = .ok (.func fn first cap) w := fun _ _ _ _ => rfl
  go_enter Tryz.func34, Tryz.ntmps34
  go_wp2_with (first
    | (go_at_call 46; go_in)
    | (go_at_call 63; refine (count_any P 1 ops 1 _ h.cell1 (h.free 1)).mono ?_; rintro e w' ⟨rfl, rfl⟩)
    | (go_at_call 47; refine (addw_any R i _ v _ r0 f0).mono ?_; rintro e w' ⟨rfl, rfl⟩))
  go_ret
  exact ⟨rfl, hm.setNum i _, (Moved.setP _ _ _).trans (Moved.setR _ _ _)⟩
end
end Go.Proofs.YtdmfbfbebcneeaaGreat
