/-
  An argument that is a row of bytes, as the walks take it.
-/
import Derived.Test.YtnekhfpccmnaiaaView
import Derived.Test.YtnekhfpccmnaiaaBasesW
namespace Go.Proofs.Ytnekhfpccmnaiaa
open Go.ChangeShapes Go.WideShapes Go.ChangeAt Go.RowKit

theorem view_bytes {H : Type} {enc : TypeId × Value → H} {W : World} {base : Nat} {r : Reach} {v : Value} {d : DataW H} {p : List MemPlace}
    (hv : Value.okWide Try.prog W r base 39 v) (h : DataW.Trod enc Try.prog W 0 (fun _ => true) true 39 v d p) :
    ∃ (ad : Option Addr) (len cap b off : Nat) (Z : Nat → Int), v = .slice ad len cap ∧ Bytes W ad len b off Z := by
  obtain ⟨ad, len, cap, rfl, hcase⟩ := view_ints Try.underlying39 Try.underlying5 (by kernel_rfl) hv h
  rcases hcase with rfl | ⟨b, off, Z, rfl, hb, hz⟩
  · exact ⟨ad, 0, cap, 0, 0, fun _ => 0, rfl, ⟨fun h => absurd h (by omega), fun h => absurd h (by omega), fun k hk => absurd hk (by omega), fun k hk => absurd hk (by omega)⟩⟩
  · exact ⟨_, len, cap, b, off, Z, rfl, ⟨fun _ => rfl, fun _ => hb, fun k hk => (hz k hk).1, fun k hk => wf_u8 (hz k hk).2⟩⟩
end Go.Proofs.Ytnekhfpccmnaiaa
