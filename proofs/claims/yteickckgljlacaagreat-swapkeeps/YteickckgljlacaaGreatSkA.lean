/-
  Three tables among the arguments, and in one block; three handles in one.
-/
import Derived.Test.YteickckgljlacaaGreatSwV
import Derived.Test.YteickckgljlacaaGreatBaseG
namespace Go.Proofs.YteickckgljlacaaGreat.Sw
open Go.ChangeShapes Go.WideShapes Go.ChangeAt Go.RowKit Go
open Rf (tab word ofWords word_of IsTab)

/-! ## An array of three functions -/
def tab3 (G : Nat → Nat → Bool) : Value := .agg #[.int .u64 (word (G 0) 0 : Int), .int .u64 (word (G 0) 1 : Int), .int .u64 (word (G 0) 2 : Int), .int .u64 (word (G 0) 3 : Int), .int .u64 (word (G 1) 0 : Int), .int .u64 (word (G 1) 1 : Int), .int .u64 (word (G 1) 2 : Int), .int .u64 (word (G 1) 3 : Int), .int .u64 (word (G 2) 0 : Int), .int .u64 (word (G 2) 1 : Int), .int .u64 (word (G 2) 2 : Int), .int .u64 (word (G 2) 3 : Int)]
def IsT3 (w : World) (b : Nat) (G : Nat → Nat → Bool) : Prop := w.rowIs b 25 12 (fun i => .int .u64 (word (G (i / 4)) (i % 4) : Int))
theorem IsT3.new (w : World) (G : Nat → Nat → Bool) : IsT3 (w.alloc (.cells #[.int .u64 (word (G 0) 0 : Int), .int .u64 (word (G 0) 1 : Int), .int .u64 (word (G 0) 2 : Int), .int .u64 (word (G 0) 3 : Int), .int .u64 (word (G 1) 0 : Int), .int .u64 (word (G 1) 1 : Int), .int .u64 (word (G 1) 2 : Int), .int .u64 (word (G 1) 3 : Int), .int .u64 (word (G 2) 0 : Int), .int .u64 (word (G 2) 1 : Int), .int .u64 (word (G 2) 2 : Int), .int .u64 (word (G 2) 3 : Int)] 25)) w.heap.size G :=
  World.rowIs_alloc w #[.int .u64 (word (G 0) 0 : Int), .int .u64 (word (G 0) 1 : Int), .int .u64 (word (G 0) 2 : Int), .int .u64 (word (G 0) 3 : Int), .int .u64 (word (G 1) 0 : Int), .int .u64 (word (G 1) 1 : Int), .int .u64 (word (G 1) 2 : Int), .int .u64 (word (G 1) 3 : Int), .int .u64 (word (G 2) 0 : Int), .int .u64 (word (G 2) 1 : Int), .int .u64 (word (G 2) 2 : Int), .int .u64 (word (G 2) 3 : Int)] 25 _ fun i hi => by
    have hi : i < 12 := hi
    have : i = 0 ∨ i = 1 ∨ i = 2 ∨ i = 3 ∨ i = 4 ∨ i = 5 ∨ i = 6 ∨ i = 7 ∨ i = 8 ∨ i = 9 ∨ i = 10 ∨ i = 11 := by omega
    rcases this with rfl | rfl | rfl | rfl | rfl | rfl | rfl | rfl | rfl | rfl | rfl | rfl <;> rfl
theorem IsT3.lt {w : World} {b : Nat} {G : Nat → Nat → Bool} (h : IsT3 w b G) : b < w.heap.size := World.rowIs.lt h
theorem IsT3.kept {w w' : World} {b : Nat} {G : Nat → Nat → Bool} (h : IsT3 w b G) (k : Below w.heap.size w w') : IsT3 w' b G := World.rowIs.of_block h (k.block _ h.lt)
theorem IsT3.cells {w : World} {b : Nat} {G : Nat → Nat → Bool} (h : IsT3 w b G) {i : Nat} (hi : i < 3) : w.cell? ⟨b, i * 4, none⟩ = some (.int .u64 (word (G i) 0 : Int)) ∧ w.cell? ⟨b, i * 4 + 1, none⟩ = some (.int .u64 (word (G i) 1 : Int)) ∧ w.cell? ⟨b, i * 4 + 2, none⟩ = some (.int .u64 (word (G i) 2 : Int)) ∧ w.cell? ⟨b, i * 4 + 3, none⟩ = some (.int .u64 (word (G i) 3 : Int)) := by
  have c := fun k (hk : k < 4) => World.rowIs.cell h (i := i * 4 + k) (by omega)
  have e1 := fun k (hk : k < 4) => (show (i * 4 + k) / 4 = i by omega)
  have e2 := fun k (hk : k < 4) => (show (i * 4 + k) % 4 = k by omega)
  refine ⟨?_, ?_, ?_, ?_⟩
  · have := c 0 (by omega); rw [e1 0 (by omega), e2 0 (by omega)] at this; exact this
  · have := c 1 (by omega); rw [e1 1 (by omega), e2 1 (by omega)] at this; exact this
  · have := c 2 (by omega); rw [e1 2 (by omega), e2 2 (by omega)] at this; exact this
  · have := c 3 (by omega); rw [e1 3 (by omega), e2 3 (by omega)] at this; exact this
/-- One of the three laid anew. -/
def putT (G : Nat → Nat → Bool) (j : Nat) (H : Nat → Bool) : Nat → Nat → Bool := fun i => if i = j then H else G i
theorem putT_new (G : Nat → Nat → Bool) (j : Nat) (H : Nat → Bool) : putT G j H j = H := if_pos rfl
theorem putT_old (G : Nat → Nat → Bool) {j i : Nat} (H : Nat → Bool) (h : i ≠ j) : putT G j H i = G i := if_neg h
theorem IsT3.set {w : World} {b j : Nat} {G : Nat → Nat → Bool} (h : IsT3 w b G) (_hj : j < 3) (H : Nat → Bool) : IsT3 ((((w.setCell ⟨b, j * 4, none⟩ (.int .u64 (word H 0 : Int))).setCell ⟨b, j * 4 + 1, none⟩ (.int .u64 (word H 1 : Int))).setCell ⟨b, j * 4 + 2, none⟩ (.int .u64 (word H 2 : Int))).setCell ⟨b, j * 4 + 3, none⟩ (.int .u64 (word H 3 : Int))) b (putT G j H) :=
  World.rowIs.congr ((((World.rowIs.set h (j * 4) _).set (j * 4 + 1) _).set (j * 4 + 2) _).set (j * 4 + 3) _) fun i _ => by
    by_cases q : i / 4 = j
    · rw [q, putT_new]
      have c : i = j * 4 ∨ i = j * 4 + 1 ∨ i = j * 4 + 2 ∨ i = j * 4 + 3 := by omega
      rcases c with rfl | rfl | rfl | rfl
      · rw [if_neg (by omega), if_neg (by omega), if_neg (by omega), if_pos rfl, show j * 4 % 4 = 0 by omega]
      · rw [if_neg (by omega), if_neg (by omega), if_pos rfl, show (j * 4 + 1) % 4 = 1 by omega]
      · rw [if_neg (by omega), if_pos rfl, show (j * 4 + 2) % 4 = 2 by omega]
      · rw [if_pos rfl, show (j * 4 + 3) % 4 = 3 by omega]
    · rw [putT_old _ _ q, if_neg (by omega), if_neg (by omega), if_neg (by omega), if_neg (by omega)]
theorem cells3T : Tryz.prog.cellsOf 25 = 12 := by kernel_rfl
/-- A number out of a cell. -/
def numOf : Option Value → Nat
  | some (.int _ z) => z.toNat
  | _ => 0
theorem tab3_of {cs : Array Value} (hs : cs.size = 12) (key : ∀ k, k < 12 → ∃ n : Nat, n < 18446744073709551616 ∧ cs[k]? = some (.int .u64 (n : Int))) : ∃ G, Value.agg cs = tab3 G := by
  have N : ∀ k, k < 12 → cs[k]? = some (.int .u64 (numOf cs[k]? : Int)) ∧ numOf cs[k]? < 18446744073709551616 := fun k hk => by
    obtain ⟨n, hn, e⟩ := key k hk
    rw [e]
    exact ⟨by simp [numOf], by simpa [numOf] using hn⟩
  refine ⟨fun i => ofWords (numOf cs[i * 4]?) (numOf cs[i * 4 + 1]?) (numOf cs[i * 4 + 2]?) (numOf cs[i * 4 + 3]?), ?_⟩
  have w : ∀ i, i < 3 → word (ofWords (numOf cs[i * 4]?) (numOf cs[i * 4 + 1]?) (numOf cs[i * 4 + 2]?) (numOf cs[i * 4 + 3]?)) 0 = numOf cs[i * 4]? ∧ word (ofWords (numOf cs[i * 4]?) (numOf cs[i * 4 + 1]?) (numOf cs[i * 4 + 2]?) (numOf cs[i * 4 + 3]?)) 1 = numOf cs[i * 4 + 1]? ∧ word (ofWords (numOf cs[i * 4]?) (numOf cs[i * 4 + 1]?) (numOf cs[i * 4 + 2]?) (numOf cs[i * 4 + 3]?)) 2 = numOf cs[i * 4 + 2]? ∧ word (ofWords (numOf cs[i * 4]?) (numOf cs[i * 4 + 1]?) (numOf cs[i * 4 + 2]?) (numOf cs[i * 4 + 3]?)) 3 = numOf cs[i * 4 + 3]? := fun i hi =>
    word_of _ _ _ _ (N _ (by omega)).2 (N _ (by omega)).2 (N _ (by omega)).2 (N _ (by omega)).2
  unfold tab3
  congr 1
  obtain ⟨a0, a1, a2, a3⟩ := w 0 (by omega)
  obtain ⟨b0, b1, b2, b3⟩ := w 1 (by omega)
  obtain ⟨d0, d1, d2, d3⟩ := w 2 (by omega)
  rw [a0, a1, a2, a3, b0, b1, b2, b3, d0, d1, d2, d3]
  apply Array.ext_getElem?
  intro k
  by_cases hk : k < 12
  · rw [(N k hk).1]
    have c : k = 0 ∨ k = 1 ∨ k = 2 ∨ k = 3 ∨ k = 4 ∨ k = 5 ∨ k = 6 ∨ k = 7 ∨ k = 8 ∨ k = 9 ∨ k = 10 ∨ k = 11 := by omega
    rcases c with rfl | rfl | rfl | rfl | rfl | rfl | rfl | rfl | rfl | rfl | rfl | rfl <;> rfl
  · rw [Array.getElem?_eq_none (by omega), Array.getElem?_eq_none (by show 12 ≤ k; omega)]
set_option maxRecDepth 100000 in
theorem open_tab3 {H : Type} {enc : TypeId × Value → H} {W : World} {b0 base : Nat} {sp : Nat → Bool} {held : Bool} {v : Value} {d : DataW H} {p : List MemPlace}
    (hok : Value.okWide Tryz.prog W .any b0 25 v) (h : DataW.Trod enc Tryz.prog W base sp held 25 v d p) : ∃ G, v = tab3 G := by
  have hok' : ∃ cs, v = .agg cs ∧ cs.size = 12 := by
    simp only [Value.okWide, Tryz.underlying25] at hok
    obtain ⟨cs, e, hs, _⟩ := hok
    exact ⟨cs, e, hs.trans cells3T⟩
  obtain ⟨cs, rfl, hs⟩ := hok'
  obtain ⟨fuel, hf⟩ := h
  have key : ∀ k, k < 12 → ∃ n : Nat, n < 18446744073709551616 ∧ cs[k]? = some (.int .u64 (n : Int)) := by
    cases fuel with
    | zero => simp [DataW.trod] at hf
    | succ fuel =>
      simp only [DataW.trod, Tryz.underlying25, cellsT, cells3T, Value.cells] at hf
      split at hf
      · obtain ⟨ys, hm, hx⟩ := Option.map_eq_some_iff.1 hf
        intro k hk
        obtain ⟨y, _, hy⟩ := Lib.mapM_at hm (k / 4) (k / 4) (by rw [List.getElem?_range (by omega)])
        cases fuel with
        | zero => simp [DataW.trod] at hy
        | succ fuel =>
          simp only [DataW.trod, Tryz.underlying24, cellsW, cellsT] at hy
          split at hy
          · obtain ⟨zs, hm2, _⟩ := Option.map_eq_some_iff.1 hy
            obtain ⟨q, _, hq⟩ := Lib.mapM_at hm2 (k % 4) (k % 4) (by rw [List.getElem?_range (by omega)])
            obtain ⟨z, hc, _, hwf⟩ := DataW.trod_int Tryz.underlying22 hq
            have hz := wf_u64 hwf
            have h1 : cs[k]? = some (.int .u64 z) := by
              have := congrArg (·[0]?) hc
              simp only [List.getElem?_take, List.getElem?_drop, Nat.mul_one, Nat.add_zero] at this
              rw [if_pos (by omega), if_pos (by omega), Array.getElem?_toList, show k / 4 * 4 + k % 4 = k by omega] at this
              exact this
            exact ⟨z.toNat, by omega, by rw [h1]; congr 2; omega⟩
          · cases hy
      · cases hf
  exact tab3_of hs key
end Go.Proofs.YteickckgljlacaaGreat.Sw
