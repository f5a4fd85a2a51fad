/-
  What the rows' lists and readings give: the program's two tables, an argument that is a table.
-/
import Derived.Test.YtmfocngdobcfcabDoorCards
import Derived.Test.YtmfocngdobcfcabDoorTie
import Derived.Test.YtmfocngdobcfcabDoorKnown
import Derived.WalkKit
import Derived.ProofKit
import Derived.OpenShut
import Derived.Deep.DeepHandedRow
import Derived.Lib.LaidTab
import Derived.WideKeyArr2
namespace Go.Proofs.YtmfocngdobcfcabDoor
open Go.ChangeShapes Go.WideShapes Go.ChangeAt Go.RowKit

theorem own : ownKnob Tryd.prog.godebug = none := by kernel_rfl
theorem gGrp : Tryd.prog.globalNamed "spinney/bits.groups" = some 1 := by kernel_rfl
theorem gGrpType : (Tryd.prog.globals[1]?).map (·.type) = some 54 := by kernel_rfl
theorem gCol : Tryd.prog.globalNamed "spinney/truth.columns" = some 0 := by kernel_rfl
theorem gColType : (Tryd.prog.globals[0]?).map (·.type) = some 46 := by kernel_rfl
theorem cells62 : Tryd.prog.cellsOf 54 = 6 := by kernel_rfl
theorem cells53 : Tryd.prog.cellsOf 46 = 32 := by kernel_rfl
theorem cells24 : Tryd.prog.cellsOf 24 = 4 := by kernel_rfl
theorem cells22 : Tryd.prog.cellsOf 22 = 1 := by kernel_rfl

def colZ (v : Nat) : List Int := (List.range 4).map fun k => ((word (M v) k : Nat) : Int)

theorem size_of_cell {w : World} {a : Addr} {v : Value} (h : w.cell? a = some v) : a.block < w.heap.size := by
  unfold World.cell? at h
  rcases Nat.lt_or_ge a.block w.heap.size with q | q
  · exact q
  · simp [Array.getElem?_eq_none q] at h

/-- The table of masks. -/
theorem grp_of {W : World} {rest : List (String × DataW Unit)} (h : laidMet Tryd.prog (("spinney/bits.groups", Rows.laid_spinney_bits_groups) :: rest) W) : Grp W := by
  have t : Lib.TabIs Tryd.prog W "spinney/bits.groups" .u64 [6148914691236517205, 3689348814741910323, 1085102592571150095, 71777214294589695, 281470681808895, 4294967295] :=
    Lib.tabIs_of_head (rest := rest) gGrp gGrpType Tryd.underlying54 Tryd.underlying22 cells22 cells62 h
  have c0 := t.cell gGrp 0 (by decide)
  exact ⟨size_of_cell c0, c0, t.cell gGrp 1 (by decide), t.cell gGrp 2 (by decide), t.cell gGrp 3 (by decide), t.cell gGrp 4 (by decide), t.cell gGrp 5 (by decide)⟩

/-- The table of the variables. -/
theorem cols_of {W : World} {x : String × DataW Unit} (h : laidMet Tryd.prog (x :: ("spinney/truth.columns", Rows.laid_spinney_truth_columns) :: []) W) : Cols W := by
  obtain ⟨ps, ⟨_, _, _, _, _, q0, _, _, _, _, hrest, _⟩, _⟩ := h
  obtain ⟨g', t', cs, fuel, p, q, hg', ht', hvar, hd, _, _⟩ := hrest
  obtain rfl := Option.some.inj (gCol.symm.trans hg')
  obtain rfl := Option.some.inj (gColType.symm.trans ht')
  cases fuel with
  | zero => simp [DataW.trod] at hd
  | succ fuel =>
    simp only [DataW.trod, Tryd.underlying46, cells24, cells53] at hd
    split at hd
    · obtain ⟨xs, hm, hx⟩ := Option.map_eq_some_iff.1 hd
      have hxs := congrArg Prod.fst hx
      have key : ∀ v, v < 8 → (cs.toList.drop (v * 4)).take 4 = (colZ v).map fun z => Value.int .u64 z := by
        intro v hv
        obtain ⟨b, hb, hf⟩ := Lib.mapM_at hm v v (by simp [hv])
        have hb1 : b.1 = Lib.tabData .u64 (colZ v) := by
          have h2 : (xs.map (·.1))[v]? = some b.1 := by simp [hb]
          have h3 : xs.map (·.1) = (List.range 8).map fun v => (Lib.tabData .u64 (colZ v) : DataW Unit) := by
            have h4 : (DataW.agg (xs.map (·.1)) : DataW Unit) = Rows.laid_spinney_truth_columns := hxs
            have h5 : (Rows.laid_spinney_truth_columns : DataW Unit) = .agg ((List.range 8).map fun v => (Lib.tabData .u64 (colZ v) : DataW Unit)) := by kernel_rfl
            rw [h5] at h4
            exact DataW.agg.inj h4
          rw [h3] at h2
          simp [hv] at h2
          exact h2.symm
        exact Lib.cells_of_tab (p := b.2) Tryd.underlying24 Tryd.underlying22 cells22 cells24 (hf.trans (by rw [← hb1]))
      have hcell : ∀ v k, v < 8 → k < 4 → W.cell? ⟨0, v * 4 + k, none⟩ = some (.int .u64 (word (M v) k : Int)) := by
        intro v k hv hk
        have h1 := World.var?_cell gCol hvar (v * 4 + k)
        rw [h1]
        have h2 := congrArg (·[k]?) (key v hv)
        simp only [List.getElem?_take, hk, if_true, List.getElem?_drop, colZ, List.map_map, List.getElem?_map, List.getElem?_range hk, Option.map_some] at h2
        simpa using h2
      exact ⟨size_of_cell (hcell 0 0 (by decide) (by decide)), hcell⟩
    · cases hd

theorem arr24 : WideMaps.ArrKey Tryd.prog 24 22 4 := ⟨Tryd.underlying24, by kernel_rfl, cells22, cells24⟩
/-- An argument that is a table. -/
theorem open_tab {H : Type} {enc : TypeId × Value → H} {W : World} {b0 base : Nat} {sp : Nat → Bool} {held : Bool} {v : Value} {d : DataW H} {p : List MemPlace}
    (hok : Value.okWide Tryd.prog W .any b0 24 v) (h : DataW.Trod enc Tryd.prog W base sp held 24 v d p) : ∃ F, v = tab F ∧ p = [] := by
  obtain ⟨xs, rfl, hn⟩ := WideMaps.okWide_arr arr24 hok
  obtain ⟨ls, _, hp, _⟩ := WideMaps.open_arr arr24 Tryd.underlying22 ⟨_, rfl⟩ hn h
  obtain ⟨fuel, hf⟩ := h
  cases fuel with
  | zero => simp [DataW.trod] at hf
  | succ fuel =>
    simp only [DataW.trod, Tryd.underlying24, cells22, cells24, Value.cells] at hf
    split at hf
    · obtain ⟨ys, hm, hx⟩ := Option.map_eq_some_iff.1 hf
      have key : ∀ i, i < 4 → ∃ n : Nat, n < 18446744073709551616 ∧ xs.toList[i]? = some (.int .u64 (n : Int)) := by
        intro i hi
        obtain ⟨b, hb, hf2⟩ := Lib.mapM_at hm i i (by simp [hi])
        obtain ⟨z, hc, _, hwf⟩ := DataW.trod_int Tryd.underlying22 hf2
        have h1 : xs.toList[i]? = some (.int .u64 z) := by
          have := congrArg (·[0]?) hc
          simpa [List.getElem?_take, List.getElem?_drop] using this
        have hz := bounds_u64 hwf
        exact ⟨z.toNat, by omega, by rw [h1]; congr 2; omega⟩
      obtain ⟨n0, l0, e0⟩ := key 0 (by decide)
      obtain ⟨n1, l1, e1⟩ := key 1 (by decide)
      obtain ⟨n2, l2, e2⟩ := key 2 (by decide)
      obtain ⟨n3, l3, e3⟩ := key 3 (by decide)
      have hl : xs.toList = [.int .u64 (n0 : Int), .int .u64 (n1 : Int), .int .u64 (n2 : Int), .int .u64 (n3 : Int)] := by
        have hlen : xs.toList.length = 4 := by simpa using hn
        generalize xs.toList = l at hlen e0 e1 e2 e3
        match l, hlen, e0, e1, e2, e3 with
        | [a, b, c, d], _, e0, e1, e2, e3 => simp at e0 e1 e2 e3; rw [e0, e1, e2, e3]
      refine ⟨ofWords n0 n1 n2 n3, ?_, hp⟩
      obtain ⟨w0, w1, w2, w3⟩ := word_of n0 n1 n2 n3 l0 l1 l2 l3
      unfold tab
      rw [w0, w1, w2, w3, ← hl]
    · cases hf

/-- What the two initialisers lay. -/
def lay0 : Obj → Obj
  | .cells _ t frozen => .cells #[.int .u64 12297829382473034410, .int .u64 12297829382473034410, .int .u64 12297829382473034410, .int .u64 12297829382473034410, .int .u64 14757395258967641292, .int .u64 14757395258967641292, .int .u64 14757395258967641292, .int .u64 14757395258967641292, .int .u64 17361641481138401520, .int .u64 17361641481138401520, .int .u64 17361641481138401520, .int .u64 17361641481138401520, .int .u64 18374966859414961920, .int .u64 18374966859414961920, .int .u64 18374966859414961920, .int .u64 18374966859414961920, .int .u64 18446462603027742720, .int .u64 18446462603027742720, .int .u64 18446462603027742720, .int .u64 18446462603027742720, .int .u64 18446744069414584320, .int .u64 18446744069414584320, .int .u64 18446744069414584320, .int .u64 18446744069414584320, .int .u64 0, .int .u64 18446744073709551615, .int .u64 0, .int .u64 18446744073709551615, .int .u64 0, .int .u64 0, .int .u64 18446744073709551615, .int .u64 18446744073709551615] t frozen
  | o => o
def lay1 : Obj → Obj
  | .cells _ t frozen => .cells #[.int .u64 6148914691236517205, .int .u64 3689348814741910323, .int .u64 1085102592571150095, .int .u64 71777214294589695, .int .u64 281470681808895, .int .u64 4294967295] t frozen
  | o => o
end Go.Proofs.YtmfocngdobcfcabDoor
