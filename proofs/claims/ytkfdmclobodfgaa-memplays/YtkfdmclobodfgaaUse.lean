/-
  The calls of package mem once more, each with what its cell holds as a premise: as the walks meet them.
-/
import Derived.Test.YtkfdmclobodfgaaBoundsWalk
import Derived.Deep.LoopGhost
namespace Go.Proofs.Ytkfdmclobodfgaa
open Go Go.RowKit

section
variable {w : World} {P R n : Nat} {c : Nat → Int} {ops fails : Int}

theorem load_at (h : IsMem w P R n c ops fails) (i : Nat) (x : Int) (hx : c i = x) (hi : i < n) (h0 : 0 ≤ ops ∧ ops ≤ 1000000000) :
    Calls Try.prog 10 #[.pointer (some ⟨P, 0, none⟩), .int .i64 (i : Int)] w fun e w' => e = .returned (.int .u64 x) ∧ IsMem w' P R n c (ops + 1) fails ∧ Moved P R w w' := by
  subst hx
  exact load_in P R n c ops fails w i hi h0 h

theorem hit_at (h : IsMem w P R n c ops fails) (i : Nat) (x y : Int) (hx : c i = x) (hi : i < n) (h0 : 0 ≤ ops ∧ ops ≤ 1000000000) :
    Calls Try.prog 12 #[.pointer (some ⟨P, 0, none⟩), .int .i64 (i : Int), .int .u64 x, .int .u64 y] w fun e w' => e = .returned (.bool true) ∧ IsMem w' P R n (upd c i y) (ops + 1) fails ∧ Moved P R w w' := by
  subst hx
  exact cas_hit P R n c ops fails w i y hi h0 h

theorem add_at (h : IsMem w P R n c ops fails) (i : Nat) (x v s : Int) (hx : c i = x) (hs : IntKind.u64.wrap (x + v) = s) (hi : i < n) (h0 : 0 ≤ ops ∧ ops ≤ 1000000000) :
    Calls Try.prog 13 #[.pointer (some ⟨P, 0, none⟩), .int .i64 (i : Int), .int .u64 v] w fun e w' => e = .returned (.int .u64 s) ∧ IsMem w' P R n (upd c i s) (ops + 1) fails ∧ Moved P R w w' := by
  subst hx
  subst hs
  exact add_in P R n c ops fails w i v hi h0 h
end

end Go.Proofs.Ytkfdmclobodfgaa
