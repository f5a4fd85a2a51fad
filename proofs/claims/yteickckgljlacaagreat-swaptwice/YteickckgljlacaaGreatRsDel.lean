/-
  The library's deleting by a test and its compacting, over a row of handles.
-/
import Derived.Test.YteickckgljlacaaGreatRsRow
import Derived.Lib.SliceRun
import Derived.Deep.CutRange
namespace Go.Proofs.YteickckgljlacaaGreat.Rs
open Go Go.RowKit

/-- The first n of a row. -/
def lst (d : Array Int) (n : Nat) : List Int := (List.range n).map fun k => d[k]!
theorem lst_succ (d : Array Int) (n : Nat) : lst d (n + 1) = lst d n ++ [d[n]!] := by simp [lst, List.range_succ]
theorem lst_congr {d D : Array Int} {n : Nat} (h : ∀ k, k < n → d[k]! = D[k]!) : lst d n = lst D n := by
  unfold lst
  apply List.map_congr_left
  intro k hk
  exact h k (List.mem_range.1 hk)
theorem lst_all (d : Array Int) : lst d d.size = d.toList := by
  apply List.ext_getElem
  · simp [lst]
  · intro i h1 h2
    have hi : i < d.size := by simpa using h2
    simp [lst, hi]
theorem lst_mem {d : Array Int} {n : Nat} {x : Int} : x ∈ lst d n ↔ ∃ k, k < n ∧ d[k]! = x := by simp [lst]
theorem lst_len (d : Array Int) (n : Nat) : (lst d n).length = n := by simp [lst]
theorem get_cut (D : Array Int) (k i : Nat) (hk : k ≤ D.size) (hi : i < k) : (D.extract 0 k)[i]! = D[i]! := by
  rw [getElem!_pos _ i (by simp; omega), getElem!_pos D i (by omega)]
  simp
theorem cut_list (D : Array Int) (k : Nat) (hk : k ≤ D.size) : (D.extract 0 k).toList = lst D k := by
  rw [← lst_all, show (D.extract 0 k).size = k by simp; omega]
  exact lst_congr fun i hi => get_cut D k i hk hi

theorem row_setCells {t : TypeId} {n b : Nat} : ∀ (vs : List Value) (o : Nat) (w : World) (f : Nat → Value), w.rowIs b t n f → ∃ f', (∀ j, j < o → f' j = f j) ∧ (w.setCells b o vs).rowIs b t n f' ∧ Went (fun k => k = b) w (w.setCells b o vs)
  | [], o, w, f, h => ⟨f, fun _ _ => rfl, h, Went.refl _ _⟩
  | v :: vs, o, w, f, h => by
    obtain ⟨f', h1, h2, h3⟩ := row_setCells vs (o + 1) (w.setCell ⟨b, o, none⟩ v) _ (h.set o v)
    refine ⟨f', fun j hj => ?_, h2, (Went.set (S := fun k => k = b) rfl w v).trans h3⟩
    rw [h1 j (by omega), if_neg (by omega)]
theorem zero29 (w : World) : (zeroValue 38).run Tryz.prog w = .ok (.int .u32 0) w := by kernel_rfl
section
variable {w0 w : World} {blk cap n : Nat} {U : Nat → Value} {d : Array Int}
/-- The row cut off at k, whatever lies behind. -/
theorem Rw.cut (h : Rw w0 blk cap U d w) (k : Nat) (hk : k ≤ d.size) : ∃ U', Rw w0 blk cap U' (d.extract 0 k) w := by
  refine ⟨rowf d U, ⟨h.row.congr fun j hj => ?_, by have := h.le; simp; omega, h.went, h.old⟩⟩
  show rowf d U j = rowf (d.extract 0 k) (rowf d U) j
  rw [rowf.eq_def (d.extract 0 k)]
  have hs : (d.extract 0 k).size = k := by simp; omega
  rw [hs]
  split
  · rename_i hj
    rw [rowf, if_pos (by omega), get_cut d k j hk hj]
  · rfl
theorem clear_any (h : Rw w0 blk cap U d w) (hn : d.size = n) (k : Nat) (hk : k < n) :
    ∃ w', (∀ ty c, (Builtin.clear_ #[44] ty #[.slice (some ⟨blk, k, none⟩) (n - k) c]).run Tryz.prog w = .ok (.tuple #[]) w') ∧ ∃ U', Rw w0 blk cap U' (d.extract 0 k) w' := by
  obtain ⟨U', h'⟩ := h.cut k (by omega)
  obtain ⟨f', h1, h2, h3⟩ := row_setCells (List.replicate (n - k) (.int .u32 0)) k w _ h'.row
  refine ⟨_, fun ty c => Lib.run_clear_slice w 44 38 ty _ Tryz.underlying44 zero29 rfl rfl blk k (n - k) c (by omega) (fun t ht => ?_) (fun t ht => ?_), f', ⟨h2.congr fun j hj => ?_, h'.le, h'.went.trans h3, h.old⟩⟩
  · rw [h.cell (i := k + t) (by omega)]; rfl
  · exact h.free (k + t)
  · have hs : (d.extract 0 k).size = k := by simp; omega
    by_cases c : j < k
    · rw [h1 j c, rowf, rowf, hs, if_pos c, if_pos c]
    · rw [rowf, hs, if_neg c]
end

/-- The constants. -/
def cst (x : Int) : Bool := decide (x = 0 ∨ x = 1)
def nc (x : Int) : Bool := !cst x
theorem filter_lst {d : Array Int} : ∀ {n : Nat}, (∀ i, i < n → cst d[i]! = false) → (lst d n).filter nc = lst d n := by
  intro n h
  rw [List.filter_eq_self]
  intro x hx
  obtain ⟨k, hk, rfl⟩ := lst_mem.1 hx
  simp [nc, h k hk]

end Go.Proofs.YteickckgljlacaaGreat.Rs
