/-
  For MarkCollects: handles that are the same; as many nodes as the document's tables tell; how much room there is behind a collection.
-/
import Derived.Test.YtlmbofbdncgaiaaGreatMkN
namespace Go.Proofs.YtlmbofbdncgaiaaGreat.Mk
open Go Go.RowKit
open Rf (fixAt fixF tab word)

/-- Two slices of the same handles are the same. -/
theorem handles_true {w : World} {ad ad' : Option Addr} {n c d : Nat} {H : Nat → Nat} (h1 : HsAt w ad n H) (h2 : HsAt w ad' n H) (hn : n ≤ 1000000) :
    Calls Tryz.prog 20 #[.slice ad n c, .slice ad' n d] w fun e w' => e = .returned (.bool true) ∧ Below w.heap.size w w' := by
  have hA : Aside (∀ u, Below w.heap.size w u → HsAt u ad n H ∧ HsAt u ad' n H) := fun u k => ⟨h1.kept k, h2.kept k⟩
  clear h1 h2
  go_enter Tryz.func20, Tryz.ntmps20
  go_wp2_with fail
  go_loopg [4, 5] n (fun g s4 si wr => ∃ j : Nat, j + g = n ∧ s4 = .bool false ∧ si = .int .i64 (j : Int) ∧ Below w.heap.size w wr)
  case atStart => exact ⟨0, by omega, rfl, rfl, Below.refl _ _⟩
  case round =>
    obtain ⟨j, hj, rfl, rfl, hb⟩ := hrel
    have hJ : Aside (j + gk = n) := hj
    by_cases hlt : j < n
    · have hlt' : (j : Int) < (n : Int) := by omega
      obtain ⟨q1, q2⟩ := hA.out wr hb
      obtain ⟨p, o1, rfl, _⟩ := q1.some (by omega)
      obtain ⟨q, o2, rfl, _⟩ := q2.some (by omega)
      have k1 := q1.get hlt
      have k2 := q2.get hlt
      generalize H j = y at k1 k2
      clear hj q1 q2
      go_wp2_with fail
      go_region
      go_wp2_with fail
      go_roundg (gk - 1)
      case measure => have := hJ.out; omega
      case rel =>
        have hj := hJ.out
        exact ⟨j + 1, by omega, rfl, by go_num, hb.drew⟩
    · obtain rfl : j = n := by omega
      clear hj
      go_wp2_with fail
      go_ret
      exact ⟨rfl, hb⟩
section
variable {M : Mdl} {H : Nat → Nat} {n : Nat} {xs : List Nat} {T : Nat → Nat → Bool}
/-- As many nodes are reached as the functions have together. -/
theorem reached_size (o : M.Ok) (r : Rch M H n xs) (up : xs.Pairwise (· < ·)) (d : ∀ i, i < n → Dep M 0 (T i)) (e : ∀ i, i < n → Eqt (M.tbl (H i)) (T i)) : xs.length = sizeN M T n := by
  have o' := (r.shut up).ok o
  have g := only_grew r
  have h := size_len (M := only M xs) o' (T := T) (L := n) d fun X => by
    rw [has_only o r up, ← PrtT.grew_iff g]
    constructor
    · rintro ⟨i, hi, p⟩
      exact ⟨i, hi, (Prt.like o (d i hi) (e i hi).symm).2 p⟩
    · rintro ⟨i, hi, p⟩
      exact ⟨i, hi, (Prt.like o (d i hi) (e i hi).symm).1 p⟩
  rw [← sizeN_grew g] at h
  exact h
/-- No more nodes lie high than before. -/
theorem only_up (r : Rch M H n xs) : (only M xs).up ≤ M.up := by
  unfold Mdl.up
  refine nodup_lenN _ _ (r.once.filter _) fun x hx => ?_
  obtain ⟨h1, h2⟩ := List.mem_filter.1 hx
  exact List.mem_filter.2 ⟨r.inn x h1, h2⟩
end
end Go.Proofs.YtlmbofbdncgaiaaGreat.Mk
