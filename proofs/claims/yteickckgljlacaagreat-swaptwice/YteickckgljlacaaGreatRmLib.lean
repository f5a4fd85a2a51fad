/-
  What is met, as a sorted slice of handles.
-/
import Derived.Test.YteickckgljlacaaGreatRmKeys
import Derived.Test.YteickckgljlacaaGreatRsLib
namespace Go.Proofs.YteickckgljlacaaGreat.Rm
open Rs (OwnH At own_of_row sortH strict_of Went)
open Go Go.RowKit
set_option maxHeartbeats 4000000 in
theorem keys_any (mb : Option Nat) (w : World) :
    Calls Tryz.prog 81 #[.map mb] w fun e w' => e = .returned (.func (.func 91) #[] #[.pointer (some ⟨w.heap.size, 0, none⟩)]) ∧ w' = w.alloc (.cells #[.map mb] 150) := by
  have hmf : ∀ (w : World), (Instr.makeFunc (.func 91) #[] #[.pointer (some ⟨w.heap.size, 0, none⟩)]).run Tryz.prog w = .ok (.func (.func 91) #[] #[.pointer (some ⟨w.heap.size, 0, none⟩)]) w := fun w => rfl
  go_enter Tryz.func81, Tryz.ntmps81
  go_wp2
  go_ret
  exact ⟨rfl, rfl⟩

theorem Keys.perm {P : Int → Option Int} {xs ys : List Int} (h : Keys P xs) (p : ys.Perm xs) : Keys P ys := ⟨p.nodup_iff.2 h.1, fun x => (p.mem_iff).trans (h.2 x)⟩

set_option maxHeartbeats 4000000 in
theorem collect_any (Bm m : Nat) (mb : Option Nat) (P : Int → Option Int) (w : World) (hm : m ≤ 60000) (hBm : Bm < w.heap.size) (hc : w.cell? ⟨Bm, 0, none⟩ = some (.map mb)) (hmap : MapV w mb P m) :
    Calls Tryz.prog 89 #[.func (.func 91) #[] #[.pointer (some ⟨Bm, 0, none⟩)]] w fun e w' => ∃ ad cap xs, e = .returned (.slice ad xs.length cap) ∧ Keys P xs ∧ xs.length ≤ m ∧ OwnH w' ad cap xs ∧ (∀ k, At ad k → w.heap.size ≤ k) ∧ Below w.heap.size w w' := by
  have K := appendSeq_any Bm m mb P w (by omega) hBm hc hmap
  clear hc
  go_enter Tryz.func89, Tryz.ntmps89
  go_wp2_with (go_at_call 101; refine K.mono ?_; clear K; rintro e w' ⟨v, xs, rfl, hK, hx, hrow, _, hB⟩)
  go_ret
  obtain ⟨ad, cap, rfl, ho, hA⟩ := own_of_row hrow
  exact ⟨ad, cap, xs, rfl, hK, hx, ho, hA, hB⟩

set_option maxHeartbeats 4000000 in
theorem sorted_any (Bm m : Nat) (mb : Option Nat) (P : Int → Option Int) (w : World) (hm : m ≤ 60000) (hBm : Bm < w.heap.size) (hc : w.cell? ⟨Bm, 0, none⟩ = some (.map mb)) (hmap : MapV w mb P m) :
    Calls Tryz.prog 80 #[.func (.func 91) #[] #[.pointer (some ⟨Bm, 0, none⟩)]] w fun e w' => ∃ ad cap xs, e = .returned (.slice ad xs.length cap) ∧ Keys P xs ∧ xs.Pairwise (· < ·) ∧ xs.length ≤ m ∧ OwnH w' ad cap xs ∧ (∀ k, At ad k → w.heap.size ≤ k) ∧ Below w.heap.size w w' := by
  have K := collect_any Bm m mb P w hm hBm hc hmap
  clear hc
  go_enter Tryz.func80, Tryz.ntmps80
  go_wp2_with (first
    | (go_at_call 89; refine K.mono ?_; clear K; rintro e w1 ⟨ad, cap, xs, rfl, hK, hx, ho, hA, hB⟩; have K2 := sortH ho (by omega))
    | (go_at_call 90; refine K2.mono ?_; clear K2; rintro e w2 ⟨rfl, ys, hp, hs, ho2, hw2⟩))
  go_ret
  have hl : ys.length = xs.length := hp.length_eq
  have hK2 := hK.perm hp
  refine ⟨ad, cap, ys, ?_, hK2, strict_of hK2.1 hs, by omega, ho2, hA, ?_⟩
  · rw [hl]
    rfl
  · exact hB.trans ((hw2.below (B := w.heap.size) hB.size fun i hi => hA i hi))
end Go.Proofs.YteickckgljlacaaGreat.Rm
