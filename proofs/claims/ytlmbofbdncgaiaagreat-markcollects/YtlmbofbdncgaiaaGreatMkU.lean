/-
  For MarkCollects: single operations, by their values.
-/
import Derived.Test.YtlmbofbdncgaiaaGreatMkT
namespace Go.Proofs.YtlmbofbdncgaiaaGreat.Mk
open Go Go.RowKit
open Rf (tab word IsTab TabsAt)

theorem r_conv {j : Nat} (hj : j < 4) (w : World) : (convert 3 40 (.int .i64 (j : Int))).run Tryz.prog w = .ok (.int .u64 (j : Int)) w := by
  have h1 : (j : Int) < 4 := by omega
  have h2 : IntKind.u64.wrap (j : Int) = (j : Int) := by rw [IntKind.wrap_u64]; omega
  go_simp
theorem r_shr (z : Int) {j : Nat} (hj : j < 4) (w : World) : (binOp .shr 5 (.int .u8 z) (.int .u64 (j : Int))).run Tryz.prog w = .ok (.int .u8 (z / 2 ^ j)) w := by
  have h1 : (j : Int) < 4 := by omega
  go_simp
theorem r_and (x : Int) (w : World) : (binOp .and 5 (.int .u8 x) (.int .u8 1)).run Tryz.prog w = .ok (.int .u8 (bits .and .u8 x 1)) w := by
  go_simp
theorem r_eql (x : Int) (w : World) : (binOp .eql 5 (.int .u8 x) (.int .u8 1)).run Tryz.prog w = .ok (.bool (x == 1)) w := by
  go_simp
theorem g_bin (op : BinOp) (x y : Operand) (v u : Int) (k1 k2 : IntKind) (w : World) : (eqGuard op 5 x y (.int k1 v) (.int k2 u)).run Tryz.prog w = .ok () w := by
  go_simp
theorem r_idxH (b : Nat) {j : Nat} (hj : j < 4) (w : World) : (Instr.indexAt 33 (.pointer (some ⟨b, 0, none⟩)) (.int .i64 (j : Int))).run Tryz.prog w = .ok (.pointer (some ⟨b, j, none⟩)) w := by
  have h1 : (j : Int) < 4 := by omega
  go_simp
theorem r_idxF (b : Nat) {j : Nat} (hj : j < 4) (w : World) : (Instr.indexAt 25 (.pointer (some ⟨b, 0, none⟩)) (.int .i64 (j : Int))).run Tryz.prog w = .ok (.pointer (some ⟨b, j * 4, none⟩)) w := by
  have h1 : (j : Int) < 4 := by omega
  go_simp
theorem r_loadH {w : World} {ad : Addr} {v : Int} (h : w.cell? ad = some (.int .u32 v)) : (Instr.loadAt 32 (.pointer (some ad))).run Tryz.prog w = .ok (.int .u32 v) w := by
  go_simp
theorem r_loadF {w : World} {b o : Nat} {F : Nat → Bool} (c : w.cell? ⟨b, o, none⟩ = some (.int .u64 (word F 0 : Int)) ∧ w.cell? ⟨b, o + 1, none⟩ = some (.int .u64 (word F 1 : Int)) ∧ w.cell? ⟨b, o + 2, none⟩ = some (.int .u64 (word F 2 : Int)) ∧ w.cell? ⟨b, o + 3, none⟩ = some (.int .u64 (word F 3 : Int))) : (Instr.loadAt 24 (.pointer (some ⟨b, o, none⟩))).run Tryz.prog w = .ok (tab F) w := by
  obtain ⟨c0, c1, c2, c3⟩ := c
  go_simp
  rfl
theorem r_not (b : Bool) (w : World) : (Op.unary .not (.bool b)).run Tryz.prog w = .ok (.bool !b) w := by
  go_simp
theorem callIs (vs : Array Value) (w : World) : (callFunc 23 vs).run Tryz.prog w = .ok (.enter 23 vs) w := by
  have h := Tryz.func23
  go_simp
/-- One table more, in a drawn statement. -/
theorem step_app_k {w : World} {B cap : Nat} {ad : Option Addr} {ts : List (Nat → Bool)} (hown : Rf.Own w B ad ts cap) (F : Nat → Bool) (src : Nat) (hsrc : IsTab w src F) (hn : ts.length ≤ 1000000) (hB : B ≤ w.heap.size)
    {ops : Array Oper} {o : Oper} {a : Act} {K : Act → World → Prop} {Q : Exit → Act → World → Prop} {E : Prop} (hw : Region.wanted o (yielded ops a.tmps) = true) (s x : Operand)
    (ho : o.op = .call { callee := .builtin .append, args := #[s, x], argTypes := #[35, 35] }) (hty : o.type = 35) (hs : a.eval s = .slice ad ts.length cap) (hx : a.eval x = .slice (some ⟨src, 0, none⟩) 1 1)
    (h : ∀ g cap' w', Rf.Own w' B (some ⟨g, 0, none⟩) (ts ++ [F]) cap' → TabsAt w' ad ts.length (tl ts) → Went (At ad) w w' → K (a.put o.dst (.slice (some ⟨g, 0, none⟩) (ts.length + 1) cap')) w') :
    if Region.wanted o (yielded ops a.tmps) = true then Oper.wp Tryz.prog o a w K Q else E := by
  obtain ⟨g, cap', w', hr, o1, t1, q, _⟩ := run_app_k hown F src hsrc hn hB
  rw [if_pos hw]
  refine op_app_p s x ho _ _ _ hs hx (by rw [hty]; exact hr) ?_
  exact h g cap' w' o1 t1 q
/-- Behind the second making: the store, what is held, what was kept. -/
def Fin (v1 : World) (S R m : Nat) (M : Mdl) (P : Int → Option Int) (X : Nat → Prop) (adk adt : Option Addr) (ts : List (Nat → Bool)) (H : Nat → Nat) (u : World) : Prop := Rfx v1 u S R m 1 M P (fun _ => []) X ∧ HsAt u adk ts.length H ∧ TabsAt u adt ts.length (tl ts)
section
variable {v1 w w' : World} {S R m : Nat} {M M' : Mdl} {P : Int → Option Int} {X : Nat → Prop} {adk adt : Option Addr} {ts : List (Nat → Bool)} {H : Nat → Nat}
theorem Rfx.in_lt {B : World} {n : Nat} {T : Nat → List Int} (h : Rfx B w S R m n M P T X) {b : Nat} (hb : X b) : b < w.heap.size := by
  obtain ⟨F, G, s, r, d, q, f, g, x⟩ := h
  exact (x b hb).2.2.1
theorem Fin.below (h : Fin v1 S R m M P X adk adt ts H w) (k : Below w.heap.size w w') : Fin v1 S R m M P X adk adt ts H w' :=
  ⟨(h.1.below k).1, h.2.1.kept k, h.2.2.kept k⟩
theorem Fin.drew (h : Fin v1 S R m M P X adk adt ts H w) : Fin v1 S R m M P X adk adt ts H w.drew := h.below ⟨rfl, rfl, rfl, Nat.le_refl _, fun _ _ => rfl⟩
theorem Fin.move (h : Fin v1 S R m M P X adk adt ts H w) (kk : ∀ b, At adk b → X b) (kt : ∀ b, At adt b → X b) (x : Rfx v1 w' S R m 1 M' P (fun _ => []) X) (s : Stay X w w') : Fin v1 S R m M' P X adk adt ts H w' :=
  ⟨x, h.2.1.stay fun b hb => s b (kk b hb), tabs_stay h.2.2 fun b hb => s b (kt b hb)⟩
theorem Fin.start (x : Rfx v1 w S R m 1 M P (fun _ => []) X) (q : Went (At adt) w w') (kk : ∀ b, At adk b → X b) (kt : ∀ b, At adt b → X b) (ap : ∀ b, At adk b → ¬ At adt b) (h : HsAt w adk ts.length H) (t : TabsAt w' adt ts.length (tl ts)) : Fin v1 S R m M P X adk adt ts H w' :=
  ⟨x.turn q kt (fun _ e => .inl e), h.stay fun b hb => q.block b (x.in_lt (kk b hb)) (ap b hb), t⟩
end
end Go.Proofs.YtlmbofbdncgaiaaGreat.Mk
