/-
  Two tables compared, as arrays are.
-/
import Derived.Test.YtdmfbfbebcneeaaRfRef
namespace Go.Proofs.Ytdmfbfbebcneeaa.Rf
open Go Go.RowKit

theorem size22 : (sizeOf 44).run Try.prog = fun w => .ok 1 w := by
  funext w
  have h : (Try.prog.info? 44).map (·.size) = some 1 := by kernel_rfl
  obtain ⟨i, hi, hs⟩ := Option.map_eq_some_iff.1 h
  simp [sizeOf, typeInfo, hi, hs]

theorem part22 (xs : Array Value) (k : Nat) (a : Int) (hx : xs[k]? = some (.int .u64 a)) (w : World) : (part 44 xs k).run Try.prog w = .ok (.int .u64 a) w := by
  simp [part, hx]

theorem equal_words (a0 a1 a2 a3 b0 b1 b2 b3 : Int) (w : World) :
    (Op.equalIn 10000 46 (.agg #[.int .u64 a0, .int .u64 a1, .int .u64 a2, .int .u64 a3]) (.agg #[.int .u64 b0, .int .u64 b1, .int .u64 b2, .int .u64 b3])).run Try.prog w
      = .ok (a0 == b0 && (a1 == b1 && (a2 == b2 && a3 == b3))) w := by
  have hi : ∀ (a b : Int) (w : World), (Op.equalIn 9999 44 (.int .u64 a) (.int .u64 b)).run Try.prog w = .ok (a == b) w := fun a b w => run_equalIn_int w 9998 44 .u64 .u64 a b Try.underlying44
  rw [show (10000 : Nat) = 9999 + 1 from rfl]
  generalize 9999 = d at hi
  have h1 := size22
  simp only [Op.equalIn, Sem.run_bind, run_underlying Try.underlying46, Result.andThen_ok, h1]
  have hr : (List.range' 0 4 1) = [0, 1, 2, 3] := rfl
  rw [Std.Legacy.Range.forIn_eq_forIn_range', show Std.Legacy.Range.size [:4] = 4 from rfl, hr]
  have p0 := fun w => part22 #[.int .u64 a0, .int .u64 a1, .int .u64 a2, .int .u64 a3] 0 a0 rfl w
  have p1 := fun w => part22 #[.int .u64 a0, .int .u64 a1, .int .u64 a2, .int .u64 a3] 1 a1 rfl w
  have p2 := fun w => part22 #[.int .u64 a0, .int .u64 a1, .int .u64 a2, .int .u64 a3] 2 a2 rfl w
  have p3 := fun w => part22 #[.int .u64 a0, .int .u64 a1, .int .u64 a2, .int .u64 a3] 3 a3 rfl w
  have q0 := fun w => part22 #[.int .u64 b0, .int .u64 b1, .int .u64 b2, .int .u64 b3] 0 b0 rfl w
  have q1 := fun w => part22 #[.int .u64 b0, .int .u64 b1, .int .u64 b2, .int .u64 b3] 1 b1 rfl w
  have q2 := fun w => part22 #[.int .u64 b0, .int .u64 b1, .int .u64 b2, .int .u64 b3] 2 b2 rfl w
  have q3 := fun w => part22 #[.int .u64 b0, .int .u64 b1, .int .u64 b2, .int .u64 b3] 3 b3 rfl w
  simp only [List.forIn_cons, List.forIn_nil, Sem.run_bind, Nat.mul_one, p0, q0, hi, Result.andThen_ok, Sem.run_ite, Sem.run_pure]
  cases e0 : a0 == b0 <;> cases e1 : a1 == b1 <;> cases e2 : a2 == b2 <;> cases e3 : a3 == b3 <;> simp [Result.andThen, p1, p2, p3, q1, q2, q3, hi, e1, e2, e3]

/-- Whether two tables are one. -/
def same (F G : Nat → Bool) : Bool := ((word F 0 : Int) == (word G 0 : Int)) && (((word F 1 : Int) == (word G 1 : Int)) && (((word F 2 : Int) == (word G 2 : Int)) && ((word F 3 : Int) == (word G 3 : Int))))
theorem same_iff (F G : Nat → Bool) : same F G = true ↔ ∀ x, x < 256 → F x = G x := by
  unfold same
  simp only [Bool.and_eq_true, beq_iff_eq, Int.natCast_inj]
  constructor
  · rintro ⟨h0, h1, h2, h3⟩
    exact tab_inj h0 h1 h2 h3
  · intro h
    exact ⟨word_ext h (by decide), word_ext h (by decide), word_ext h (by decide), word_ext h (by decide)⟩
theorem equal_tab (F G : Nat → Bool) (w : World) : (Op.equalIn 10000 46 (tab F) (tab G)).run Try.prog w = .ok (same F G) w := equal_words _ _ _ _ _ _ _ _ w
end Go.Proofs.Ytdmfbfbebcneeaa.Rf
