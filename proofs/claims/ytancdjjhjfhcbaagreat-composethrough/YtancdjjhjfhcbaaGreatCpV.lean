/-
  Arguments: rows of numbers, of bytes; four tables.
-/
import Derived.Test.YtancdjjhjfhcbaaGreatCpN
import Derived.Test.YtancdjjhjfhcbaaGreatCpB
import Derived.Test.YtancdjjhjfhcbaaGreatBaseG
import Derived.Test.YtancdjjhjfhcbaaGreatBaseD
namespace Go.Proofs.YtancdjjhjfhcbaaGreat
open Go.ChangeShapes Go.WideShapes Go.ChangeAt Go.RowKit Go
open Rf (tab word ofWords word_of IntsAt)

theorem ints_of {W : World} {ad : Option Addr} {len : Nat} (h : len = 0 ∨ ∃ (b off : Nat) (Z : Nat → Int), ad = some ⟨b, off, none⟩ ∧ b < W.heap.size ∧ ∀ i, i < len → W.cell? ⟨b, off + i, none⟩ = some (.int .i64 (Z i)) ∧ (Lit.int .i64 (Z i)).wf = true) : ∃ Z, IntsAt W ad len Z := by
  rcases h with h | ⟨b, off, Z, e, hb, hc⟩
  · exact ⟨fun _ => 0, .inl h⟩
  · exact ⟨Z, .inr ⟨b, off, e, hb, fun i hi => (hc i hi).1⟩⟩
theorem bytes_of {W : World} {ad : Option Addr} {len : Nat} (h : len = 0 ∨ ∃ (b off : Nat) (Z : Nat → Int), ad = some ⟨b, off, none⟩ ∧ b < W.heap.size ∧ ∀ i, i < len → W.cell? ⟨b, off + i, none⟩ = some (.int .u8 (Z i)) ∧ (Lit.int .u8 (Z i)).wf = true) : ∃ V, BtAt W ad len V ∧ ∀ i, i < len → V i < 256 := by
  rcases h with h | ⟨b, off, Z, e, hb, hc⟩
  · exact ⟨fun _ => 0, .inl h, fun i _ => by show 0 < 256; omega⟩
  · refine ⟨fun i => (Z i).toNat, .inr ⟨b, off, e, hb, fun i hi => ?_⟩, fun i hi => ?_⟩
    · have w := wf_u8 (hc i hi).2
      rw [(hc i hi).1]
      congr 2
      show Z i = (((Z i).toNat : Nat) : Int)
      omega
    · have w := wf_u8 (hc i hi).2
      show (Z i).toNat < 256
      omega
theorem cells4T : Tryz.prog.cellsOf 46 = 16 := by kernel_rfl
/-- A number out of a cell. -/
def numOf : Option Value → Nat
  | some (.int _ z) => z.toNat
  | _ => 0
theorem tab4_of {cs : Array Value} (hs : cs.size = 16) (key : ∀ k, k < 16 → ∃ n : Nat, n < 18446744073709551616 ∧ cs[k]? = some (.int .u64 (n : Int))) : ∃ G, Value.agg cs = tab4 G := by
  have N : ∀ k, k < 16 → cs[k]? = some (.int .u64 (numOf cs[k]? : Int)) ∧ numOf cs[k]? < 18446744073709551616 := fun k hk => by
    obtain ⟨n, hn, e⟩ := key k hk
    rw [e]
    exact ⟨by simp [numOf], by simpa [numOf] using hn⟩
  refine ⟨fun i => ofWords (numOf cs[i * 4]?) (numOf cs[i * 4 + 1]?) (numOf cs[i * 4 + 2]?) (numOf cs[i * 4 + 3]?), ?_⟩
  have w : ∀ i, i < 4 → word (ofWords (numOf cs[i * 4]?) (numOf cs[i * 4 + 1]?) (numOf cs[i * 4 + 2]?) (numOf cs[i * 4 + 3]?)) 0 = numOf cs[i * 4]? ∧ word (ofWords (numOf cs[i * 4]?) (numOf cs[i * 4 + 1]?) (numOf cs[i * 4 + 2]?) (numOf cs[i * 4 + 3]?)) 1 = numOf cs[i * 4 + 1]? ∧ word (ofWords (numOf cs[i * 4]?) (numOf cs[i * 4 + 1]?) (numOf cs[i * 4 + 2]?) (numOf cs[i * 4 + 3]?)) 2 = numOf cs[i * 4 + 2]? ∧ word (ofWords (numOf cs[i * 4]?) (numOf cs[i * 4 + 1]?) (numOf cs[i * 4 + 2]?) (numOf cs[i * 4 + 3]?)) 3 = numOf cs[i * 4 + 3]? := fun i hi =>
    word_of _ _ _ _ (N _ (by omega)).2 (N _ (by omega)).2 (N _ (by omega)).2 (N _ (by omega)).2
  unfold tab4
  congr 1
  obtain ⟨a0, a1, a2, a3⟩ := w 0 (by omega)
  obtain ⟨b0, b1, b2, b3⟩ := w 1 (by omega)
  obtain ⟨d0, d1, d2, d3⟩ := w 2 (by omega)
  obtain ⟨e0, e1, e2, e3⟩ := w 3 (by omega)
  rw [a0, a1, a2, a3, b0, b1, b2, b3, d0, d1, d2, d3, e0, e1, e2, e3]
  apply Array.ext_getElem?
  intro k
  by_cases hk : k < 16
  · rw [(N k hk).1]
    have c : k = 0 ∨ k = 1 ∨ k = 2 ∨ k = 3 ∨ k = 4 ∨ k = 5 ∨ k = 6 ∨ k = 7 ∨ k = 8 ∨ k = 9 ∨ k = 10 ∨ k = 11 ∨ k = 12 ∨ k = 13 ∨ k = 14 ∨ k = 15 := by omega
    rcases c with rfl | rfl | rfl | rfl | rfl | rfl | rfl | rfl | rfl | rfl | rfl | rfl | rfl | rfl | rfl | rfl <;> rfl
  · rw [Array.getElem?_eq_none (by omega), Array.getElem?_eq_none (by show 16 ≤ k; omega)]
set_option maxRecDepth 100000 in
theorem open_tab4 {H : Type} {enc : TypeId × Value → H} {W : World} {b0 base : Nat} {sp : Nat → Bool} {held : Bool} {v : Value} {d : DataW H} {p : List MemPlace}
    (hok : Value.okWide Tryz.prog W .any b0 46 v) (h : DataW.Trod enc Tryz.prog W base sp held 46 v d p) : ∃ G, v = tab4 G := by
  have hok' : ∃ cs, v = .agg cs ∧ cs.size = 16 := by
    simp only [Value.okWide, Tryz.underlying46] at hok
    obtain ⟨cs, e, hs, _⟩ := hok
    exact ⟨cs, e, hs.trans cells4T⟩
  obtain ⟨cs, rfl, hs⟩ := hok'
  obtain ⟨fuel, hf⟩ := h
  have key : ∀ k, k < 16 → ∃ n : Nat, n < 18446744073709551616 ∧ cs[k]? = some (.int .u64 (n : Int)) := by
    cases fuel with
    | zero => simp [DataW.trod] at hf
    | succ fuel =>
      simp only [DataW.trod, Tryz.underlying46, cellsT, cells4T, Value.cells] at hf
      split at hf
      · obtain ⟨ys, hm, hx⟩ := Option.map_eq_some_iff.1 hf
        intro k hk
        obtain ⟨y, _, hy⟩ := Lib.mapM_at hm (k / 4) (k / 4) (by rw [List.getElem?_range (by omega)])
        cases fuel with
        | zero => simp [DataW.trod] at hy
        | succ fuel =>
          simp only [DataW.trod, Tryz.underlying24, cellsW, cellsT] at hy
          split at hy
          · obtain ⟨zs, hm2, _⟩ := Option.map_eq_some_iff.1 hy
            obtain ⟨q, _, hq⟩ := Lib.mapM_at hm2 (k % 4) (k % 4) (by rw [List.getElem?_range (by omega)])
            obtain ⟨z, hc, _, hwf⟩ := DataW.trod_int Tryz.underlying22 hq
            have hz := wf_u64 hwf
            have h1 : cs[k]? = some (.int .u64 z) := by
              have := congrArg (·[0]?) hc
              simp only [List.getElem?_take, List.getElem?_drop, Nat.mul_one, Nat.add_zero] at this
              rw [if_pos (by omega), if_pos (by omega), Array.getElem?_toList, show k / 4 * 4 + k % 4 = k by omega] at this
              exact this
            exact ⟨z.toNat, by omega, by rw [h1]; congr 2; omega⟩
          · cases hy
      · cases hf
  exact tab4_of hs key
end Go.Proofs.YtancdjjhjfhcbaaGreat
