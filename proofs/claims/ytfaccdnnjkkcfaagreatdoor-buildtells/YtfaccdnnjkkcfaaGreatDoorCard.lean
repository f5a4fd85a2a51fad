/-
  What the rows' list gives: the program's table of the variables.
-/
import Derived.Test.YtfaccdnnjkkcfaaGreatDoorCards
import Derived.Test.YtfaccdnnjkkcfaaGreatDoorTie
import Derived.Test.YtfaccdnnjkkcfaaGreatDoorTrc
import Derived.Test.YtfaccdnnjkkcfaaGreatDoorBaseG
import Derived.WalkKit
import Derived.ProofKit
import Derived.OpenShut
import Derived.Deep.DeepHandedRow
import Derived.Lib.LaidTab
import Derived.WideKeyArr2
namespace Go.Proofs.YtfaccdnnjkkcfaaGreatDoor
open Go.ChangeShapes Go.WideShapes Go.ChangeAt Go.RowKit
open Rf (word Cols)

theorem gCol : Tryz.prog.globalNamed "spinney/truth.columns" = some 0 := by kernel_rfl
theorem gColType : (Tryz.prog.globals[0]?).map (·.type) = some 142 := by kernel_rfl
theorem cellsCol : Tryz.prog.cellsOf 142 = 32 := by kernel_rfl
theorem cells24c : Tryz.prog.cellsOf 24 = 4 := by kernel_rfl
theorem cells22c : Tryz.prog.cellsOf 22 = 1 := by kernel_rfl
def colZ (v : Nat) : List Int := (List.range 4).map fun k => ((word (Rf.M v) k : Nat) : Int)
theorem size_of_cell {w : World} {a : Addr} {v : Value} (h : w.cell? a = some v) : a.block < w.heap.size := by
  unfold World.cell? at h
  rcases Nat.lt_or_ge a.block w.heap.size with q | q
  · exact q
  · simp [Array.getElem?_eq_none q] at h
/-- The table of the variables. -/
theorem cols_of {W : World} (h : laidMet Tryz.prog (("spinney/truth.columns", Rows.laid_spinney_truth_columns) :: []) W) : Cols W := by
  obtain ⟨ps, ⟨g', t', cs, fuel, p, q, hg', ht', hvar, hd, _, _⟩, _⟩ := h
  obtain rfl := Option.some.inj (gCol.symm.trans hg')
  obtain rfl := Option.some.inj (gColType.symm.trans ht')
  cases fuel with
  | zero => simp [DataW.trod] at hd
  | succ fuel =>
    simp only [DataW.trod, Tryz.underlying142, cells24c, cellsCol] at hd
    split at hd
    · obtain ⟨xs, hm, hx⟩ := Option.map_eq_some_iff.1 hd
      have hxs := congrArg Prod.fst hx
      have key : ∀ v, v < 8 → (cs.toList.drop (v * 4)).take 4 = (colZ v).map fun z => Value.int .u64 z := by
        intro v hv
        obtain ⟨b, hb, hf⟩ := Lib.mapM_at hm v v (by simp [hv])
        have hb1 : b.1 = Lib.tabData .u64 (colZ v) := by
          have h2 : (xs.map (·.1))[v]? = some b.1 := by simp [hb]
          have h3 : xs.map (·.1) = (List.range 8).map fun v => (Lib.tabData .u64 (colZ v) : DataW Unit) := by
            have h4 : (DataW.agg (xs.map (·.1)) : DataW Unit) = Rows.laid_spinney_truth_columns := hxs
            have h5 : (Rows.laid_spinney_truth_columns : DataW Unit) = .agg ((List.range 8).map fun v => (Lib.tabData .u64 (colZ v) : DataW Unit)) := by kernel_rfl
            rw [h5] at h4
            exact DataW.agg.inj h4
          rw [h3] at h2
          simp [hv] at h2
          exact h2.symm
        exact Lib.cells_of_tab (p := b.2) Tryz.underlying24 Tryz.underlying22 cells22c cells24c (hf.trans (by rw [← hb1]))
      have hcell : ∀ v k, v < 8 → k < 4 → W.cell? ⟨0, v * 4 + k, none⟩ = some (.int .u64 (word (Rf.M v) k : Int)) := by
        intro v k hv hk
        have h1 := World.var?_cell gCol hvar (v * 4 + k)
        rw [h1]
        have h2 := congrArg (·[k]?) (key v hv)
        simp only [List.getElem?_take, hk, if_true, List.getElem?_drop, colZ, List.map_map, List.getElem?_map, List.getElem?_range hk, Option.map_some] at h2
        simpa using h2
      exact ⟨size_of_cell (hcell 0 0 (by decide) (by decide)), hcell⟩
    · cases hd
/-- What the initialiser lays. -/
def lay0 : Obj → Obj
  | .cells _ t frozen => .cells #[.int .u64 12297829382473034410, .int .u64 12297829382473034410, .int .u64 12297829382473034410, .int .u64 12297829382473034410, .int .u64 14757395258967641292, .int .u64 14757395258967641292, .int .u64 14757395258967641292, .int .u64 14757395258967641292, .int .u64 17361641481138401520, .int .u64 17361641481138401520, .int .u64 17361641481138401520, .int .u64 17361641481138401520, .int .u64 18374966859414961920, .int .u64 18374966859414961920, .int .u64 18374966859414961920, .int .u64 18374966859414961920, .int .u64 18446462603027742720, .int .u64 18446462603027742720, .int .u64 18446462603027742720, .int .u64 18446462603027742720, .int .u64 18446744069414584320, .int .u64 18446744069414584320, .int .u64 18446744069414584320, .int .u64 18446744069414584320, .int .u64 0, .int .u64 18446744073709551615, .int .u64 0, .int .u64 18446744073709551615, .int .u64 0, .int .u64 0, .int .u64 18446744073709551615, .int .u64 18446744073709551615] t frozen
  | o => o
end Go.Proofs.YtfaccdnnjkkcfaaGreatDoor
