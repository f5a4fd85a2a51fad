/-
  The library's keys of a map of handles, gathered into a slice of the call's own: each once.
-/
import Derived.Test.YteickckgljlacaaGreatRsMap
import Derived.RangeFuncBox
import Derived.RangeFuncNested
import Derived.RangeFuncLeaves
import Derived.Shelf.Abstract
import Derived.OwnWalkIn
import Derived.TacticsInMore
import Derived.LoopNIn
import Derived.LoopIn
import Derived.Sort.LoopGhostIn
import Derived.Maps.AppendAt
namespace Go.Proofs.YteickckgljlacaaGreat.Rs
open Go Go.RowKit Go.Shelf
attribute [local go_sem] Oper.semAt_some

theorem nodup_len : ∀ (a b : List Int), a.Nodup → (∀ x ∈ a, x ∈ b) → a.length ≤ b.length
  | [], b, _, _ => Nat.zero_le _
  | x :: a, b, hn, h => by
    have hx : x ∈ b := h x (by simp)
    have hxa : x ∉ a := (List.nodup_cons.1 hn).1
    have := nodup_len a (b.erase x) (List.nodup_cons.1 hn).2 fun y hy => (List.mem_erase_of_ne (show y ≠ x from fun e => hxa (e ▸ hy))).2 (h y (by simp [hy]))
    rw [List.length_erase_of_mem hx] at this
    have : 0 < b.length := List.length_pos_of_mem hx
    simp only [List.length_cons]
    omega
theorem grown_of_went {w w' : World} {r : Nat} (h : Went (fun k => k = r) w w') : w.grownBy w' (some r) :=
  ⟨h.os, h.tape, h.output, h.size, fun k hk hne => h.block k hk fun e => hne (by rw [e])⟩
theorem look_some {k : Int} : ∀ {l : List (Int × Int)}, (look l k).isSome = true ↔ ∃ p ∈ l, p.1 = k
  | [] => by simp [look]
  | p :: l => by
    have := look_some (k := k) (l := l)
    by_cases h : p.1 = k
    · simp [look, h]
    · simp [look, h, this]

/-- What the keys of P are. -/
def Keys (P : Int → Option Int) (xs : List Int) : Prop := xs.Nodup ∧ ∀ x, x ∈ xs ↔ (P x).isSome = true

/-- The map that a value names: none tells nothing. -/
def MapV (w : World) (mb : Option Nat) (P : Int → Option Int) (m : Nat) : Prop :=
  match mb with
  | none => ∀ k, P k = none
  | some b => IsMap w b P m
theorem MapV.kept {w u : World} {mb : Option Nat} {P : Int → Option Int} {m : Nat} (h : MapV w mb P m) (e : ∀ b, mb = some b → u.heap[b]? = w.heap[b]?) : MapV u mb P m := by
  cases mb with
  | none => exact h
  | some b => exact IsMap.same h (e b rfl)
theorem MapV.lt {w : World} {mb : Option Nat} {P : Int → Option Int} {m : Nat} (h : MapV w mb P m) : ∀ b, mb = some b → b < w.heap.size := by
  rintro b rfl
  exact IsMap.lt h

theorem info29 : (Tryz.prog.info? 38).map (fun i => (i.zero, i.size, i.bytes)) = some (some (.int .u32 0), 1, 4) := by kernel_rfl

end Go.Proofs.YteickckgljlacaaGreat.Rs
