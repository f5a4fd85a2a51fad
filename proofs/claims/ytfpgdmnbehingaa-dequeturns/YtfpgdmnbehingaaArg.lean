/-
  Arguments that are rows of bytes, as the walks take them.
-/
import Derived.Test.YtfpgdmnbehingaaView
import Derived.Deep.Slices
namespace Go.Proofs.Ytfpgdmnbehingaa
open Go.ChangeShapes Go.WideShapes Go.ChangeAt Go.RowKit Go.Deep Go

structure Bytes (W : World) (ad : Option Addr) (len b off : Nat) (Z : Nat → Int) : Prop where
  ad_ : 0 < len → ad = some ⟨b, off, none⟩
  lt : 0 < len → b < W.heap.size
  cell : ∀ k, k < len → W.cell? ⟨b, off + k, none⟩ = some (.int .u8 (Z k))
  val : ∀ k, k < len → 0 ≤ Z k ∧ Z k ≤ 255
theorem Bytes.kept {W w : World} {ad : Option Addr} {len b off : Nat} {Z : Nat → Int} (h : Bytes W ad len b off Z) (k : Below W.heap.size W w) {i : Nat} (hi : i < len) : w.cell? ⟨b, off + i, none⟩ = some (.int .u8 (Z i)) := by
  rw [k.cell (h.lt (by omega))]
  exact h.cell i hi

theorem view_bytes {H : Type} {enc : TypeId × Value → H} {W : World} {base : Nat} {r : Reach} {v : Value} {d : DataW H} {p : List MemPlace}
    (hv : Value.okWide Try.prog W r base 22 v) (h : DataW.Trod enc Try.prog W 0 (fun _ => true) true 22 v d p) :
    ∃ (ad : Option Addr) (len cap b off : Nat) (Z : Nat → Int), v = .slice ad len cap ∧ Bytes W ad len b off Z := by
  obtain ⟨ad, len, cap, rfl, hcase⟩ := view_ints Try.underlying22 Try.underlying5 (by kernel_rfl) hv h
  rcases hcase with rfl | ⟨b, off, Z, rfl, hb, hz⟩
  · exact ⟨ad, 0, cap, 0, 0, fun _ => 0, rfl, ⟨fun h => absurd h (by omega), fun h => absurd h (by omega), fun k hk => absurd hk (by omega), fun k hk => absurd hk (by omega)⟩⟩
  · exact ⟨_, len, cap, b, off, Z, rfl, ⟨fun _ => rfl, fun _ => hb, fun k hk => (hz k hk).1, fun k hk => wf_u8 (hz k hk).2⟩⟩
end Go.Proofs.Ytfpgdmnbehingaa
