/-
  What the library's functions do to a slice of handles, nil or not: sorted, filtered, compacted, gathered from a map's keys.
-/
import Derived.Test.YtlmbofbdncgaiaaGreatRsNone
import Derived.Test.YtlmbofbdncgaiaaGreatRsCompact
import Derived.Test.YtlmbofbdncgaiaaGreatRsKeys
import Derived.Test.YtlmbofbdncgaiaaGreatRsOwn
namespace Go.Proofs.YtlmbofbdncgaiaaGreat.Rs
open Go Go.RowKit

theorem perm_of_pm {n : Nat} {d R : Array Int} (h : Pm 0 n d R) (hn : d.size = n) : R.toList.Perm d.toList := by
  have h1 := h.size
  have h2 := h.2.2
  rw [show R.extract 0 n = R by rw [← hn, ← h1]; simp, show d.extract 0 n = d by rw [← hn]; simp] at h2
  exact h2
theorem Went.at_blk {g : Nat} {w w' : World} (h : Went (fun k => k = g) w w') : Went (At (some ⟨g, 0, none⟩)) w w' := h.wider fun _ e => ⟨_, rfl, e.symm⟩
section
variable {w : World} {ad : Option Addr} {cap : Nat} {xs : List Int}
theorem sortH (h : OwnH w ad cap xs) (hn : xs.length < 65536) :
    Calls Tryz.prog 61 #[.slice ad xs.length cap] w fun e w' => e = .returned (.tuple #[]) ∧ ∃ ys, ys.Perm xs ∧ (∀ i, i + 1 < ys.length → ys[i]! ≤ ys[i + 1]!) ∧ OwnH w' ad cap ys ∧ Went (At ad) w w' := by
  rcases h.parts with ⟨rfl, rfl, rfl⟩ | ⟨g, U, rfl, hR⟩
  · refine (sort_none none 0 w).mono ?_
    rintro e w' ⟨rfl, rfl⟩
    exact ⟨rfl, [], .refl _, by simp, OwnH.nil _, Went.refl _ _⟩
  · refine (sort_any hR (by simp) hn).mono ?_
    rintro e w' ⟨rfl, R, hS, hR'⟩
    have hp := perm_of_pm hS.1 (by simp)
    refine ⟨rfl, R.toList, by simpa using hp, fun i hi => ?_, OwnH.of_rw hR' h.max.1, hR'.went.at_blk⟩
    have hsz : R.size = xs.length := by rw [hS.1.size]; simp
    have hi' : i + 1 < R.size := by simpa using hi
    have := hS.2 i (i + 1) (by omega) (by omega) (by omega)
    have h2 : ¬ R[i + 1]! < R[i]! := by simpa [Sort.ltInt] using this
    rw [getElem!_pos R.toList i (by simp; omega), getElem!_pos R.toList (i + 1) (by simpa using hi')]
    rw [getElem!_pos R i (by omega), getElem!_pos R (i + 1) hi'] at h2
    simpa using h2
set_option maxHeartbeats 4000000 in
theorem index_none (w : World) : Calls Tryz.prog 82 #[.slice none 0 0, .func (.func 66) #[] #[]] w fun e w' => e = .returned (.int .i64 (-1)) ∧ w' = w := by
  go_enter Tryz.func82, Tryz.ntmps82
  go_wp2
  go_loopg [8] 1 (fun _ s wr => s = .int .i64 0 ∧ wr = w)
  case atStart => exact ⟨rfl, rfl⟩
  case round =>
    obtain ⟨rfl, rfl⟩ := hrel
    go_wp2
    go_ret
    exact ⟨rfl, rfl⟩
set_option maxHeartbeats 4000000 in
theorem delete_none (w : World) : Calls Tryz.prog 65 #[.slice none 0 0, .func (.func 66) #[] #[]] w fun e w' => e = .returned (.slice none 0 0) ∧ w' = w := by
  have K := index_none w
  go_enter Tryz.func65, Tryz.ntmps65
  go_wp2_with (go_at_call 82; refine K.mono ?_; clear K; rintro e w ⟨rfl, rfl⟩)
  go_ret
  exact ⟨rfl, rfl⟩
set_option maxHeartbeats 4000000 in
theorem compact_none (w : World) : Calls Tryz.prog 67 #[.slice none 0 0] w fun e w' => e = .returned (.slice none 0 0) ∧ w' = w := by
  go_enter Tryz.func67, Tryz.ntmps67
  go_wp2
  go_ret
  exact ⟨rfl, rfl⟩
theorem deleteH (h : OwnH w ad cap xs) (hn : xs.length < 65536) :
    Calls Tryz.prog 65 #[.slice ad xs.length cap, .func (.func 66) #[] #[]] w fun e w' => ∃ ys, e = .returned (.slice ad ys.length cap) ∧ ys = xs.filter nc ∧ OwnH w' ad cap ys ∧ Went (At ad) w w' := by
  rcases h.parts with ⟨rfl, rfl, rfl⟩ | ⟨g, U, rfl, hR⟩
  · refine (delete_none w).mono ?_
    rintro e w' ⟨rfl, rfl⟩
    exact ⟨[], rfl, rfl, OwnH.nil _, Went.refl _ _⟩
  · refine (delete_any hR (by simp) hn).mono ?_
    rintro e w' ⟨U', D, rfl, hD, hR'⟩
    exact ⟨D.toList, by simp, by simpa using hD, OwnH.of_rw hR' h.max.1, hR'.went.at_blk⟩
theorem compactH (h : OwnH w ad cap xs) (hn : xs.length < 65536) (hs : ∀ i, i + 1 < xs.length → xs[i]! ≤ xs[i + 1]!) :
    Calls Tryz.prog 67 #[.slice ad xs.length cap] w fun e w' => ∃ ys, e = .returned (.slice ad ys.length cap) ∧ ys.Pairwise (· < ·) ∧ Same ys xs ∧ OwnH w' ad cap ys ∧ Went (At ad) w w' := by
  rcases h.parts with ⟨rfl, rfl, rfl⟩ | ⟨g, U, rfl, hR⟩
  · refine (compact_none w).mono ?_
    rintro e w' ⟨rfl, rfl⟩
    exact ⟨[], rfl, by simp, Same.refl _, OwnH.nil _, Went.refl _ _⟩
  · refine (compact_any hR (by simp) hn ?_).mono ?_
    · intro i hi
      have := hs i hi
      rw [getElem!_pos xs i (by omega), getElem!_pos xs (i + 1) hi] at this
      rw [getElem!_pos _ i (by simp; omega), getElem!_pos _ (i + 1) (by simpa using hi)]
      simpa using this
    · rintro e w' ⟨U', D, rfl, hP, hS, hR'⟩
      exact ⟨D.toList, by simp, hP, by simpa using hS, OwnH.of_rw hR' h.max.1, hR'.went.at_blk⟩
end

/-! ## The keys of a map, as a slice of the call's own -/
theorem own_of_row {w : World} {B : Nat} {v : Value} {xs : List Int} (h : w.ownsRow B 32 1 v xs.length (xs.map hV)) : ∃ ad cap, v = .slice ad xs.length cap ∧ OwnH w ad cap xs ∧ ∀ k, At ad k → B ≤ k := by
  rcases h with ⟨h1, ⟨rfl, h2⟩ | ⟨g, cap, cur, rfl, hb, r⟩⟩
  · have : xs = [] := List.length_eq_zero_iff.1 h2
    subst this
    exact ⟨none, 0, rfl, OwnH.nil _, fun k hk => by obtain ⟨a, ha, _⟩ := hk; cases ha⟩
  · exact ⟨_, cap, rfl, ⟨h1, .inr ⟨g, cap, cur, rfl, Nat.zero_le _, r⟩⟩, fun k hk => by obtain ⟨a, ha, rfl⟩ := hk; cases ha; exact hb⟩
set_option maxHeartbeats 4000000 in
theorem keys_any (mb : Option Nat) (w : World) :
    Calls Tryz.prog 64 #[.map mb] w fun e w' => e = .returned (.func (.func 81) #[] #[.pointer (some ⟨w.heap.size, 0, none⟩)]) ∧ w' = w.alloc (.cells #[.map mb] 91) := by
  have hmf : ∀ (w : World), (Instr.makeFunc (.func 81) #[] #[.pointer (some ⟨w.heap.size, 0, none⟩)]).run Tryz.prog w = .ok (.func (.func 81) #[] #[.pointer (some ⟨w.heap.size, 0, none⟩)]) w := fun w => rfl
  go_enter Tryz.func64, Tryz.ntmps64
  go_wp2
  go_ret
  exact ⟨rfl, rfl⟩

theorem up_chain {l : List Int} (h : ∀ i, i + 1 < l.length → l[i]! ≤ l[i + 1]!) : ∀ k i, i + k < l.length → l[i]! ≤ l[i + k]!
  | 0, i, _ => Int.le_refl _
  | k + 1, i, hi => Int.le_trans (up_chain h k i (by omega)) (h (i + k) (by omega))
theorem strict_of {l : List Int} (hn : l.Nodup) (h : ∀ i, i + 1 < l.length → l[i]! ≤ l[i + 1]!) : l.Pairwise (· < ·) := by
  rw [List.pairwise_iff_getElem]
  intro i j hi hj hij
  have h1 := up_chain h (j - i) i (by omega)
  rw [show i + (j - i) = j by omega, getElem!_pos l i hi, getElem!_pos l j hj] at h1
  have h2 : l[i] ≠ l[j] := fun e => by
    have := (List.getElem?_inj hi hn).1 (show l[i]? = l[j]? by rw [List.getElem?_eq_getElem hi, List.getElem?_eq_getElem hj, e])
    omega
  omega
theorem Keys.perm {P : Int → Option Int} {xs ys : List Int} (h : Keys P xs) (p : ys.Perm xs) : Keys P ys := ⟨p.nodup_iff.2 h.1, fun x => (p.mem_iff).trans (h.2 x)⟩

set_option maxHeartbeats 4000000 in
theorem collect_any (Bm m : Nat) (mb : Option Nat) (P : Int → Option Int) (w : World) (hm : m ≤ 60000) (hBm : Bm < w.heap.size) (hc : w.cell? ⟨Bm, 0, none⟩ = some (.map mb)) (hmap : MapV w mb P m) :
    Calls Tryz.prog 60 #[.func (.func 81) #[] #[.pointer (some ⟨Bm, 0, none⟩)]] w fun e w' => ∃ ad cap xs, e = .returned (.slice ad xs.length cap) ∧ Keys P xs ∧ xs.length ≤ m ∧ OwnH w' ad cap xs ∧ (∀ k, At ad k → w.heap.size ≤ k) ∧ Below w.heap.size w w' := by
  have K := appendSeq_any Bm m mb P w (by omega) hBm hc hmap
  clear hc
  go_enter Tryz.func60, Tryz.ntmps60
  go_wp2_with (go_at_call 78; refine K.mono ?_; clear K; rintro e w' ⟨v, xs, rfl, hK, hx, hrow, _, hB⟩)
  go_ret
  obtain ⟨ad, cap, rfl, ho, hA⟩ := own_of_row hrow
  exact ⟨ad, cap, xs, rfl, hK, hx, ho, hA, hB⟩

set_option maxHeartbeats 4000000 in
theorem sorted_any (Bm m : Nat) (mb : Option Nat) (P : Int → Option Int) (w : World) (hm : m ≤ 60000) (hBm : Bm < w.heap.size) (hc : w.cell? ⟨Bm, 0, none⟩ = some (.map mb)) (hmap : MapV w mb P m) :
    Calls Tryz.prog 37 #[.func (.func 81) #[] #[.pointer (some ⟨Bm, 0, none⟩)]] w fun e w' => ∃ ad cap xs, e = .returned (.slice ad xs.length cap) ∧ Keys P xs ∧ xs.Pairwise (· < ·) ∧ xs.length ≤ m ∧ OwnH w' ad cap xs ∧ (∀ k, At ad k → w.heap.size ≤ k) ∧ Below w.heap.size w w' := by
  have K := collect_any Bm m mb P w hm hBm hc hmap
  clear hc
  go_enter Tryz.func37, Tryz.ntmps37
  go_wp2_with (first
    | (go_at_call 60; refine K.mono ?_; clear K; rintro e w1 ⟨ad, cap, xs, rfl, hK, hx, ho, hA, hB⟩; have K2 := sortH ho (by omega))
    | (go_at_call 61; refine K2.mono ?_; clear K2; rintro e w2 ⟨rfl, ys, hp, hs, ho2, hw2⟩))
  go_ret
  have hl : ys.length = xs.length := hp.length_eq
  have hK2 := hK.perm hp
  refine ⟨ad, cap, ys, ?_, hK2, strict_of hK2.1 hs, by omega, ho2, hA, ?_⟩
  · rw [hl]
    rfl
  · exact hB.trans ((hw2.below (B := w.heap.size) hB.size fun i hi => hA i hi))
end Go.Proofs.YtlmbofbdncgaiaaGreat.Rs
