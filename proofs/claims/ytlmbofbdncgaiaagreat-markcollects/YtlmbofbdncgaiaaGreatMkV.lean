/-
  Four tables among the arguments.
-/
import Derived.Test.YtlmbofbdncgaiaaGreatBaseG
import Derived.Test.YtlmbofbdncgaiaaGreatBaseD
namespace Go.Proofs.YtlmbofbdncgaiaaGreat
open Go.ChangeShapes Go.WideShapes Go.ChangeAt Go.RowKit Go
open Rf (tab word ofWords word_of IntsAt)

/-! ## An array of four functions -/
def tab4 (G : Nat → Nat → Bool) : Value := .agg #[.int .u64 (word (G 0) 0 : Int), .int .u64 (word (G 0) 1 : Int), .int .u64 (word (G 0) 2 : Int), .int .u64 (word (G 0) 3 : Int), .int .u64 (word (G 1) 0 : Int), .int .u64 (word (G 1) 1 : Int), .int .u64 (word (G 1) 2 : Int), .int .u64 (word (G 1) 3 : Int), .int .u64 (word (G 2) 0 : Int), .int .u64 (word (G 2) 1 : Int), .int .u64 (word (G 2) 2 : Int), .int .u64 (word (G 2) 3 : Int), .int .u64 (word (G 3) 0 : Int), .int .u64 (word (G 3) 1 : Int), .int .u64 (word (G 3) 2 : Int), .int .u64 (word (G 3) 3 : Int)]
def IsT4 (w : World) (b : Nat) (G : Nat → Nat → Bool) : Prop := w.heap[b]? = some (.cells #[.int .u64 (word (G 0) 0 : Int), .int .u64 (word (G 0) 1 : Int), .int .u64 (word (G 0) 2 : Int), .int .u64 (word (G 0) 3 : Int), .int .u64 (word (G 1) 0 : Int), .int .u64 (word (G 1) 1 : Int), .int .u64 (word (G 1) 2 : Int), .int .u64 (word (G 1) 3 : Int), .int .u64 (word (G 2) 0 : Int), .int .u64 (word (G 2) 1 : Int), .int .u64 (word (G 2) 2 : Int), .int .u64 (word (G 2) 3 : Int), .int .u64 (word (G 3) 0 : Int), .int .u64 (word (G 3) 1 : Int), .int .u64 (word (G 3) 2 : Int), .int .u64 (word (G 3) 3 : Int)] 25 (0, 0))
theorem IsT4.new (w : World) (G : Nat → Nat → Bool) : IsT4 (w.alloc (.cells #[.int .u64 (word (G 0) 0 : Int), .int .u64 (word (G 0) 1 : Int), .int .u64 (word (G 0) 2 : Int), .int .u64 (word (G 0) 3 : Int), .int .u64 (word (G 1) 0 : Int), .int .u64 (word (G 1) 1 : Int), .int .u64 (word (G 1) 2 : Int), .int .u64 (word (G 1) 3 : Int), .int .u64 (word (G 2) 0 : Int), .int .u64 (word (G 2) 1 : Int), .int .u64 (word (G 2) 2 : Int), .int .u64 (word (G 2) 3 : Int), .int .u64 (word (G 3) 0 : Int), .int .u64 (word (G 3) 1 : Int), .int .u64 (word (G 3) 2 : Int), .int .u64 (word (G 3) 3 : Int)] 25)) w.heap.size G := Go.Deep.blk_alloc_new _ _
theorem IsT4.lt {w : World} {b : Nat} {G : Nat → Nat → Bool} (h : IsT4 w b G) : b < w.heap.size := (Array.getElem?_eq_some_iff.1 h).1
theorem IsT4.cells {w : World} {b : Nat} {G : Nat → Nat → Bool} (h : IsT4 w b G) {i : Nat} (hi : i < 4) : w.cell? ⟨b, i * 4, none⟩ = some (.int .u64 (word (G i) 0 : Int)) ∧ w.cell? ⟨b, i * 4 + 1, none⟩ = some (.int .u64 (word (G i) 1 : Int)) ∧ w.cell? ⟨b, i * 4 + 2, none⟩ = some (.int .u64 (word (G i) 2 : Int)) ∧ w.cell? ⟨b, i * 4 + 3, none⟩ = some (.int .u64 (word (G i) 3 : Int)) := by
  unfold IsT4 at h
  have : i = 0 ∨ i = 1 ∨ i = 2 ∨ i = 3 := by omega
  rw [cell_of_row _ _ _ _ _ _ h, cell_of_row _ _ _ _ _ _ h, cell_of_row _ _ _ _ _ _ h, cell_of_row _ _ _ _ _ _ h]
  rcases this with rfl | rfl | rfl | rfl <;> exact ⟨rfl, rfl, rfl, rfl⟩
theorem cells4T : Tryz.prog.cellsOf 25 = 16 := by kernel_rfl
/-- A number out of a cell. -/
def numOf : Option Value → Nat
  | some (.int _ z) => z.toNat
  | _ => 0
theorem tab4_of {cs : Array Value} (hs : cs.size = 16) (key : ∀ k, k < 16 → ∃ n : Nat, n < 18446744073709551616 ∧ cs[k]? = some (.int .u64 (n : Int))) : ∃ G, Value.agg cs = tab4 G := by
  have N : ∀ k, k < 16 → cs[k]? = some (.int .u64 (numOf cs[k]? : Int)) ∧ numOf cs[k]? < 18446744073709551616 := fun k hk => by
    obtain ⟨n, hn, e⟩ := key k hk
    rw [e]
    exact ⟨by simp [numOf], by simpa [numOf] using hn⟩
  refine ⟨fun i => ofWords (numOf cs[i * 4]?) (numOf cs[i * 4 + 1]?) (numOf cs[i * 4 + 2]?) (numOf cs[i * 4 + 3]?), ?_⟩
  have w : ∀ i, i < 4 → word (ofWords (numOf cs[i * 4]?) (numOf cs[i * 4 + 1]?) (numOf cs[i * 4 + 2]?) (numOf cs[i * 4 + 3]?)) 0 = numOf cs[i * 4]? ∧ word (ofWords (numOf cs[i * 4]?) (numOf cs[i * 4 + 1]?) (numOf cs[i * 4 + 2]?) (numOf cs[i * 4 + 3]?)) 1 = numOf cs[i * 4 + 1]? ∧ word (ofWords (numOf cs[i * 4]?) (numOf cs[i * 4 + 1]?) (numOf cs[i * 4 + 2]?) (numOf cs[i * 4 + 3]?)) 2 = numOf cs[i * 4 + 2]? ∧ word (ofWords (numOf cs[i * 4]?) (numOf cs[i * 4 + 1]?) (numOf cs[i * 4 + 2]?) (numOf cs[i * 4 + 3]?)) 3 = numOf cs[i * 4 + 3]? := fun i hi =>
    word_of _ _ _ _ (N _ (by omega)).2 (N _ (by omega)).2 (N _ (by omega)).2 (N _ (by omega)).2
  unfold tab4
  congr 1
  obtain ⟨a0, a1, a2, a3⟩ := w 0 (by omega)
  obtain ⟨b0, b1, b2, b3⟩ := w 1 (by omega)
  obtain ⟨d0, d1, d2, d3⟩ := w 2 (by omega)
  obtain ⟨e0, e1, e2, e3⟩ := w 3 (by omega)
  rw [a0, a1, a2, a3, b0, b1, b2, b3, d0, d1, d2, d3, e0, e1, e2, e3]
  apply Array.ext_getElem?
  intro k
  by_cases hk : k < 16
  · rw [(N k hk).1]
    have c : k = 0 ∨ k = 1 ∨ k = 2 ∨ k = 3 ∨ k = 4 ∨ k = 5 ∨ k = 6 ∨ k = 7 ∨ k = 8 ∨ k = 9 ∨ k = 10 ∨ k = 11 ∨ k = 12 ∨ k = 13 ∨ k = 14 ∨ k = 15 := by omega
    rcases c with rfl | rfl | rfl | rfl | rfl | rfl | rfl | rfl | rfl | rfl | rfl | rfl | rfl | rfl | rfl | rfl <;> rfl
  · rw [Array.getElem?_eq_none (by omega), Array.getElem?_eq_none (by show 16 ≤ k; omega)]
set_option maxRecDepth 100000 in
theorem open_tab4 {H : Type} {enc : TypeId × Value → H} {W : World} {b0 base : Nat} {sp : Nat → Bool} {held : Bool} {v : Value} {d : DataW H} {p : List MemPlace}
    (hok : Value.okWide Tryz.prog W .any b0 25 v) (h : DataW.Trod enc Tryz.prog W base sp held 25 v d p) : ∃ G, v = tab4 G := by
  have hok' : ∃ cs, v = .agg cs ∧ cs.size = 16 := by
    simp only [Value.okWide, Tryz.underlying25] at hok
    obtain ⟨cs, e, hs, _⟩ := hok
    exact ⟨cs, e, hs.trans cells4T⟩
  obtain ⟨cs, rfl, hs⟩ := hok'
  obtain ⟨fuel, hf⟩ := h
  have key : ∀ k, k < 16 → ∃ n : Nat, n < 18446744073709551616 ∧ cs[k]? = some (.int .u64 (n : Int)) := by
    cases fuel with
    | zero => simp [DataW.trod] at hf
    | succ fuel =>
      simp only [DataW.trod, Tryz.underlying25, cellsT, cells4T, Value.cells] at hf
      split at hf
      · obtain ⟨ys, hm, hx⟩ := Option.map_eq_some_iff.1 hf
        intro k hk
        obtain ⟨y, _, hy⟩ := Lib.mapM_at hm (k / 4) (k / 4) (by rw [List.getElem?_range (by omega)])
        cases fuel with
        | zero => simp [DataW.trod] at hy
        | succ fuel =>
          simp only [DataW.trod, Tryz.underlying24, cellsW, cellsT] at hy
          split at hy
          · obtain ⟨zs, hm2, _⟩ := Option.map_eq_some_iff.1 hy
            obtain ⟨q, _, hq⟩ := Lib.mapM_at hm2 (k % 4) (k % 4) (by rw [List.getElem?_range (by omega)])
            obtain ⟨z, hc, _, hwf⟩ := DataW.trod_int Tryz.underlying22 hq
            have hz := wf_u64 hwf
            have h1 : cs[k]? = some (.int .u64 z) := by
              have := congrArg (·[0]?) hc
              simp only [List.getElem?_take, List.getElem?_drop, Nat.mul_one, Nat.add_zero] at this
              rw [if_pos (by omega), if_pos (by omega), Array.getElem?_toList, show k / 4 * 4 + k % 4 = k by omega] at this
              exact this
            exact ⟨z.toNat, by omega, by rw [h1]; congr 2; omega⟩
          · cases hy
      · cases hf
  exact tab4_of hs key
end Go.Proofs.YtlmbofbdncgaiaaGreat
