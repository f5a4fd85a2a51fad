/-
 What an argument that is a slice of integers gives the walks: empty, or its numbers cell by cell.
 An argument that is a table.
-/
import Derived.Test.YtnnmdkaoiofabaaGreatRows
import Derived.Test.YtnnmdkaoiofabaaGreatBaseG
import Derived.ProofKit
import Derived.OpenShut
import Derived.Lib.LaidTab
import Derived.WideKeyArr2
namespace Go.Proofs.YtnnmdkaoiofabaaGreat
open Go.ChangeShapes Go.WideShapes Go.ChangeAt Go.RowKit
theorem try_own : ownKnob Tryz.prog.godebug = none := by kernel_rfl
theorem try_laid : laidOutB Tryz.prog = true := by kernel_rfl
theorem wf_u16 {z : Int} (h : (Lit.int .u16 z).wf = true) : 0 ≤ z ∧ z ≤ 65535 := by
 have h1 : IntKind.u16.min = 0 := rfl
 have h2 : IntKind.u16.max = 65535 := rfl
 simp only [Lit.wf, Bool.and_eq_true, decide_eq_true_eq] at h
 omega
theorem wf_u32 {z : Int} (h : (Lit.int .u32 z).wf = true) : 0 ≤ z ∧ z ≤ 4294967295 := by
 have h1 : IntKind.u32.min = 0 := rfl
 have h2 : IntKind.u32.max = 4294967295 := rfl
 simp only [Lit.wf, Bool.and_eq_true, decide_eq_true_eq] at h
 omega
end Go.Proofs.YtnnmdkaoiofabaaGreat
namespace Go.Proofs.YtnnmdkaoiofabaaGreat
open Go.ChangeShapes Go.WideShapes Go.ChangeAt Go.RowKit Go
open Rf (tab word ofWords word_of)
theorem cellsT : Tryz.prog.cellsOf 24 = 4 := by kernel_rfl
theorem cellsW : Tryz.prog.cellsOf 22 = 1 := by kernel_rfl
theorem arrT : WideMaps.ArrKey Tryz.prog 24 22 4 := ⟨Tryz.underlying24, by kernel_rfl, cellsW, cellsT⟩
set_option maxRecDepth 100000 in
theorem open_tab {H : Type} {enc : TypeId × Value → H} {W : World} {b0 base : Nat} {sp : Nat → Bool} {held : Bool} {v : Value} {d : DataW H} {p : List MemPlace}
  (hok : Value.okWide Tryz.prog W .any b0 24 v) (h : DataW.Trod enc Tryz.prog W base sp held 24 v d p) : ∃ F, v = tab F ∧ p = [] := by
 obtain ⟨xs, rfl, hn⟩ := WideMaps.okWide_arr arrT hok
 obtain ⟨ls, _, hp, _⟩ := WideMaps.open_arr arrT Tryz.underlying22 ⟨_, rfl⟩ hn h
 obtain ⟨fuel, hf⟩ := h
 cases fuel with
 | zero => simp [DataW.trod] at hf
 | succ fuel =>
  simp only [DataW.trod, Tryz.underlying24, cellsW, cellsT, Value.cells] at hf
  split at hf
  ·obtain ⟨ys, hm, hx⟩ := Option.map_eq_some_iff.1 hf
   have key : ∀ i, i < 4 → ∃ n : Nat, n < 18446744073709551616 ∧ xs.toList[i]? = some (.int .u64 (n : Int)) := by
    intro i hi
    obtain ⟨b, hb, hf2⟩ := Lib.mapM_at hm i i (by simp [hi])
    obtain ⟨z, hc, _, hwf⟩ := DataW.trod_int Tryz.underlying22 hf2
    have h1 : xs.toList[i]? = some (.int .u64 z) := by
     have := congrArg (·[0]?) hc
     simpa [List.getElem?_take, List.getElem?_drop] using this
    have hz := bounds_u64 hwf
    exact ⟨z.toNat, by omega, by rw [h1]; congr 2; omega⟩
   obtain ⟨n0, l0, e0⟩ := key 0 (by decide)
   obtain ⟨n1, l1, e1⟩ := key 1 (by decide)
   obtain ⟨n2, l2, e2⟩ := key 2 (by decide)
   obtain ⟨n3, l3, e3⟩ := key 3 (by decide)
   have hl : xs.toList = [.int .u64 (n0 : Int), .int .u64 (n1 : Int), .int .u64 (n2 : Int), .int .u64 (n3 : Int)] := by
    have hlen : xs.toList.length = 4 := by simpa using hn
    generalize xs.toList = l at hlen e0 e1 e2 e3
    match l, hlen, e0, e1, e2, e3 with
    | [a, b, c, d], _, e0, e1, e2, e3 => simp at e0 e1 e2 e3; rw [e0, e1, e2, e3]
   refine ⟨ofWords n0 n1 n2 n3, ?_, hp⟩
   obtain ⟨w0, w1, w2, w3⟩ := word_of n0 n1 n2 n3 l0 l1 l2 l3
   unfold tab
   rw [w0, w1, w2, w3, ← hl]
  ·cases hf
end Go.Proofs.YtnnmdkaoiofabaaGreat
