/-
  Package compose: half, follow, top.
-/
import Derived.Test.YtbhjcaoiejdkfaaCpM
import Derived.Test.YtbhjcaoiejdkfaaLgc
namespace Go.Proofs.Ytbhjcaoiejdkfaa
open Go Go.RowKit
open Rf (fixAt fixF)

/-- The first so many inputs stepped. -/
def mixI (M : Mdl) (L : Nat) (b : Bool) (I : Nat → Nd) (k : Nat) : Nat → Nd := fun i => if i < k then halfI M L b I i else I i
theorem mix_put (M : Mdl) (L : Nat) (b : Bool) (I : Nat → Nd) (k : Nat) (e : (I k).1 = L) : putI (mixI M L b I k) k (nodeI M (kidI b (I k))) = mixI M L b I (k + 1) := funext fun i => by
  unfold putI mixI
  by_cases c : i = k
  · rw [if_pos c, if_pos (by omega), c]
    unfold halfI
    rw [if_pos e]
  · rw [if_neg c]
    by_cases d : i < k
    · rw [if_pos d, if_pos (by omega)]
    · rw [if_neg d, if_neg (by omega)]
theorem mix_skip (M : Mdl) (L : Nat) (b : Bool) (I : Nat → Nd) (k : Nat) (e : ¬ (I k).1 = L) : mixI M L b I k = mixI M L b I (k + 1) := funext fun i => by
  unfold mixI
  by_cases c : i = k
  · rw [if_neg (by omega), if_pos (by omega), c]
    unfold halfI
    rw [if_neg e]
  · by_cases d : i < k
    · rw [if_pos d, if_pos (by omega)]
    · rw [if_neg d, if_neg (by omega)]
theorem run_part (I : Nat → Nd) (k : Nat) (hk : k < 8) (w : World) : (Instr.index 80 (.agg (wI I)) (.int .i64 (k : Int))).run Try.prog w = .ok (.agg #[.int .i64 ((I k).1 : Int), .int .u32 ((I k).2.1 : Int), .int .u32 ((I k).2.2 : Int)]) w := by
  have hu := Try.underlying80
  have hp := wI_part (I := I) hk
  unfold inA at hp
  unfold Instr.index
  simp [go_sem, run_underlying hu, hp]
  omega
section
variable {w : World} {S L : Nat} {F0 : Nat → Prop} {M : Mdl} {I : Nat → Nd}
theorem call_low (vs : Array Value) (w : World) : (callFunc 50 vs).run Try.prog w = .ok (.enter 50 vs) w := by
  have h := Try.func50
  go_simp
theorem call_high (vs : Array Value) (w : World) : (callFunc 51 vs).run Try.prog w = .ok (.enter 51 vs) w := by
  have h := Try.func51
  go_simp
set_option maxRecDepth 100000 in
set_option maxHeartbeats 2000000 in
theorem chalf_any (s : St w S F0 M) (wi : ∀ i, WI M (I i)) (L : Nat) (b : Bool) (J : Nat → Nd) : Calls Try.prog 49 #[.agg (wA S I), .int .i64 (L : Int), .func (.func (stp b)) #[.agg (wA S J)] #[]] w fun e w' => e = .returned (.agg (wA S (halfI M L b I))) ∧ Below w.heap.size w w' := by
  have hf : ∀ (vs : Array Value) (w : World), (callFunc (stp b) vs).run Try.prog w = .ok (.enter (stp b) vs) w := by
    cases b
    · exact call_low
    · exact call_high
  have KS : Aside (∀ u (k : Nat), St u S F0 M → Calls Try.prog (stp b) #[.agg (wA S J), .agg #[.int .i64 ((I k).1 : Int), .int .u32 ((I k).2.1 : Int), .int .u32 ((I k).2.2 : Int)]] u fun e w' => e = .returned (.agg (inA (nodeI M (kidI b (I k))))) ∧ Below u.heap.size u w') := fun u k su => step_any su (wi k) b
  unfold inA at KS
  have hout : Aside (wA S (mixI M L b I 8) = wA S (halfI M L b I)) := wA_congr fun i hi => if_pos hi
  generalize wA S (halfI M L b I) = R at hout
  generalize wA S J = AJ at KS
  generalize stp b = f at hf KS
  clear wi
  go_enter Try.func49, Try.ntmps49
  go_upto_region 1 with fail
  have i4 := (IsW.new w S I).below (nb _ (.cells #[.pointer none, .int .i64 0, .int .u32 0, .int .u32 0, .int .i64 0, .int .u32 0, .int .u32 0, .int .i64 0, .int .u32 0, .int .u32 0, .int .i64 0, .int .u32 0, .int .u32 0, .int .i64 0, .int .u32 0, .int .u32 0, .int .i64 0, .int .u32 0, .int .u32 0, .int .i64 0, .int .u32 0, .int .u32 0, .int .i64 0, .int .u32 0, .int .u32 0] 82))
  have r4 : ((w.alloc (.cells (wA S I) 82)).alloc (.cells #[.pointer none, .int .i64 0, .int .u32 0, .int .u32 0, .int .i64 0, .int .u32 0, .int .u32 0, .int .i64 0, .int .u32 0, .int .u32 0, .int .i64 0, .int .u32 0, .int .u32 0, .int .i64 0, .int .u32 0, .int .u32 0, .int .i64 0, .int .u32 0, .int .u32 0, .int .i64 0, .int .u32 0, .int .u32 0, .int .i64 0, .int .u32 0, .int .u32 0] 82)).heap[w.heap.size + 1]? = some (.cells #[.pointer none, .int .i64 0, .int .u32 0, .int .u32 0, .int .i64 0, .int .u32 0, .int .u32 0, .int .i64 0, .int .u32 0, .int .u32 0, .int .i64 0, .int .u32 0, .int .u32 0, .int .i64 0, .int .u32 0, .int .u32 0, .int .i64 0, .int .u32 0, .int .u32 0, .int .i64 0, .int .u32 0, .int .u32 0, .int .i64 0, .int .u32 0, .int .u32 0] 82 (0, 0)) := by
    have := Go.Deep.blk_alloc_new (w.alloc (.cells (wA S I) 82)) (.cells #[.pointer none, .int .i64 0, .int .u32 0, .int .u32 0, .int .i64 0, .int .u32 0, .int .u32 0, .int .i64 0, .int .u32 0, .int .u32 0, .int .i64 0, .int .u32 0, .int .u32 0, .int .i64 0, .int .u32 0, .int .u32 0, .int .i64 0, .int .u32 0, .int .u32 0, .int .i64 0, .int .u32 0, .int .u32 0, .int .i64 0, .int .u32 0, .int .u32 0] 82)
    simpa using this
  have B4 : Below w.heap.size w ((w.alloc (.cells (wA S I) 82)).alloc (.cells #[.pointer none, .int .i64 0, .int .u32 0, .int .u32 0, .int .i64 0, .int .u32 0, .int .u32 0, .int .i64 0, .int .u32 0, .int .u32 0, .int .i64 0, .int .u32 0, .int .u32 0, .int .i64 0, .int .u32 0, .int .u32 0, .int .i64 0, .int .u32 0, .int .u32 0, .int .i64 0, .int .u32 0, .int .u32 0, .int .i64 0, .int .u32 0, .int .u32 0] 82)) := ((Below.refl _ w).alloc (Nat.le_refl _) _).alloc (by simp) _
  have hz : (#[.pointer none, .int .i64 0, .int .u32 0, .int .u32 0, .int .i64 0, .int .u32 0, .int .u32 0, .int .i64 0, .int .u32 0, .int .u32 0, .int .i64 0, .int .u32 0, .int .u32 0, .int .i64 0, .int .u32 0, .int .u32 0, .int .i64 0, .int .u32 0, .int .u32 0, .int .i64 0, .int .u32 0, .int .u32 0, .int .i64 0, .int .u32 0, .int .u32 0] : Array Value).size = 25 := rfl
  generalize (#[.pointer none, .int .i64 0, .int .u32 0, .int .u32 0, .int .i64 0, .int .u32 0, .int .u32 0, .int .i64 0, .int .u32 0, .int .u32 0, .int .i64 0, .int .u32 0, .int .u32 0, .int .i64 0, .int .u32 0, .int .u32 0, .int .i64 0, .int .u32 0, .int .u32 0, .int .i64 0, .int .u32 0, .int .u32 0, .int .i64 0, .int .u32 0, .int .u32 0] : Array Value) = Z at i4 r4 B4 hz ⊢
  generalize (w.alloc (.cells (wA S I) 82)).alloc (.cells Z 82) = w4 at i4 r4 B4 ⊢
  have s4 := s.below B4
  have gr : w.heap.size ≠ w.heap.size + 1 := by omega
  have rB : w.heap.size ≤ w.heap.size + 1 := by omega
  generalize w.heap.size + 1 = r at r4 gr rB ⊢
  obtain ⟨g, hg⟩ : ∃ g, w.heap.size = g := ⟨_, rfl⟩
  have gB : w.heap.size ≤ g := by omega
  have rA : Aside (g ≠ r ∧ w.heap.size ≤ r ∧ w.heap.size ≤ g ∧ Z.size = 25) := ⟨by rw [← hg]; exact gr, rB, gB, hz⟩
  have B4A : Aside (Below w.heap.size w w4) := B4
  rw [hg] at i4 ⊢
  clear gr rB hz hg B4 gB
  have hD : Aside (∀ j u, (wI I).toList[j]? = some u → w4.cell? ⟨g, 1 + j, none⟩ = some u) := fun j u hu => by
    have hj : j < 24 := by
      have := (List.getElem?_eq_some_iff.1 hu).1
      simp [wI_size] at this
      exact this
    have := i4.cell (k := 1 + j) (by omega)
    rw [this]
    have q := wI_at (I := I) hj
    rw [show 1 + j = j + 1 by omega, wcell_in S 0]
    rw [← q]
    simpa using hu
  go_upto_region 2 with (first
    | refine Od.wpList_load_cells rfl 80 (.tmp 9) rfl g 1 rfl (wI I) _ hD.out Try.underlying80 rfl (by rw [wI_size]; kernel_rfl) ?_)
  have i4A : Aside (IsW w4 g S (mixI M L b I 0)) := by
    have e : mixI M L b I 0 = I := funext fun i => if_neg (by omega)
    show IsW _ _ _ _
    rw [e]
    exact i4
  have s4A : Aside (St w4 S F0 M) := s4
  have r4A : Aside (w4.heap[r]? = some (.cells Z 82 (0, 0))) := r4
  clear i4 s4 r4 hD s
  go_loopg [11, 7, 8] 8 (fun gn si _s7 _s8 wr => ∃ k : Nat, k + gn = 8 ∧ si = .int .i64 (k : Int) ∧ Aside (IsW wr g S (mixI M L b I k)) ∧ Aside (St wr S F0 M) ∧ Aside (wr.heap[r]? = some (.cells Z 82 (0, 0))) ∧ Aside (Below w.heap.size w wr))
  case atStart => exact ⟨0, by omega, rfl, i4A, s4A, r4A, B4A⟩
  case round =>
    obtain ⟨k, hk, rfl, i5, s5, r5, B5⟩ := hrel
    have hK : Aside (k + gk = 8) := hk
    clear hk i4A s4A r4A B4A
    by_cases hk8 : k < 8
    · have hki : (k : Int) < 8 := by omega
      have hix := run_part I k hk8
      have hput : Aside ((I k).1 = L → putI (mixI M L b I k) k (nodeI M (kidI b (I k))) = mixI M L b I (k + 1)) := mix_put M L b I k
      have hskip : Aside (¬ (I k).1 = L → mixI M L b I k = mixI M L b I (k + 1)) := mix_skip M L b I k
      have K := fun u su => KS.out u k su
      obtain ⟨t', ht'⟩ : ∃ t', nodeI M (kidI b (I k)) = t' := ⟨_, rfl⟩
      rw [ht'] at hput K
      obtain ⟨⟨l, a, c⟩, ht⟩ : ∃ t, I k = t := ⟨_, rfl⟩
      rw [ht] at hix hput hskip K
      dsimp only at hix hput hskip K
      clear ht ht' hk8 KS
      have b6 := nb wr (.cells #[.int .i64 (l : Int), .int .u32 (a : Int), .int .u32 (c : Int)] 79)
      have s6 : Aside (St (wr.alloc (.cells #[.int .i64 (l : Int), .int .u32 (a : Int), .int .u32 (c : Int)] 79)) S F0 M) := s5.out.below b6
      have i6 : Aside (IsW (wr.alloc (.cells #[.int .i64 (l : Int), .int .u32 (a : Int), .int .u32 (c : Int)] 79)) g S (mixI M L b I k)) := i5.out.below b6
      have r6 : Aside ((wr.alloc (.cells #[.int .i64 (l : Int), .int .u32 (a : Int), .int .u32 (c : Int)] 79)).heap[r]? = some (.cells Z 82 (0, 0))) := (b6.block _ (Array.getElem?_eq_some_iff.1 r5.out).1).trans r5.out
      have B6 : Aside (Below w.heap.size w (wr.alloc (.cells #[.int .i64 (l : Int), .int .u32 (a : Int), .int .u32 (c : Int)] 79))) := Rf.below_far B5.out b6
      have kA : Aside (k < 8) := by have := hki; show k < 8; omega
      clear i5 s5 r5 B5 b6
      by_cases e : l = L
      · subst l
        have hp := hput.out rfl
        have K6 := K _ s6.out
        have hpA : Aside (putI (mixI M L b I k) k t' = mixI M L b I (k + 1)) := hp
        clear hp hput hskip K
        go_wp2_with (first
          | (guard_target =~ Calls Try.prog f _ _ _; refine K6.mono ?_; clear K6; rintro e w7 ⟨rfl, b7⟩; have i7 := i6.out.below b7; have c0 := i7.lev kA.out; have c1 := i7.lo kA.out; have c2 := i7.hi kA.out; have f0 := i7.free (1 + k * 3); have f1 := i7.free (1 + k * 3 + 1); have f2 := i7.free (1 + k * 3 + 2)))
        go_roundg (gk - 1)
        case measure => have := hK.out; have := kA.out; omega
        case rel =>
          have := hK.out
          have := kA.out
          have T := laidI_turned w7 g k t'
          have B7 := Rf.below_far B6.out b7
          have ra := rA.out
          refine ⟨k + 1, by omega, rfl, ?_, ?_, ?_, ?_⟩
          · show IsW _ _ _ _
            rw [← hpA.out]
            exact i7.laid k t'
          · exact (s6.out.below b7).kept fun x hx => T.block x ((s6.out.below b7).lt x hx) fun e => by
              subst e
              exact (s6.out.below b7).row i7 (by decide) hx
          · exact (T.block r (Array.getElem?_eq_some_iff.1 ((b7.block _ (Array.getElem?_eq_some_iff.1 r6.out).1).trans r6.out)).1 (fun e => ra.1 e.symm)).trans ((b7.block _ (Array.getElem?_eq_some_iff.1 r6.out).1).trans r6.out)
          · exact B7.trans (T.below B7.size ra.2.2.1)
      · have e' : ¬ (l : Int) = (L : Int) := by omega
        have hp : Aside (mixI M L b I k = mixI M L b I (k + 1)) := hskip.out e
        clear e hput hskip K
        go_wp2_with fail
        go_roundg (gk - 1)
        case measure => have := hK.out; have := kA.out; omega
        case rel =>
          have := hK.out
          have := kA.out
          refine ⟨k + 1, by omega, rfl, ?_, s6, r6, B6⟩
          show IsW _ _ _ _
          rw [← hp.out]
          exact i6.out
    · have ek : k = 8 := by have := hK.out; omega
      subst ek
      have hki : ¬ ((8 : Nat) : Int) < 8 := by omega
      clear hk8
      have szA : Aside ((wA S (mixI M L b I 8)).size = 25) := wA_size
      have onA : Aside ((wA S (mixI M L b I 8)).all (·.oneCell') = true) := wA_one
      have i5A : Aside (wr.heap[g]? = some (.cells (wA S (mixI M L b I 8)) 82 (0, 0))) := i5.out
      rw [hout.out] at szA onA i5A
      clear i5 KS hf
      go_wp2_with (first
        | refine wpList_load_row rfl 82 (.tmp 3) rfl g rfl 82 R (0, 0) _ i5A.out Try.underlying82 rfl (by rw [szA.out]; kernel_rfl) ?_
        | refine wpList_store_row rfl 82 (.tmp 6) (.tmp 26) rfl r R rfl rfl 82 _ r5.out (by rw [szA.out]; kernel_rfl) (by rw [szA.out]; exact rA.out.2.2.2) onA.out ?_)
      have r5' := r5.out
      refine bodyPost_ret (results_cell_row rfl _ _ r 82 R (0, 0) _ rfl (setRow_heap _ _ _ _ 82 _ r5') Try.underlying82 rfl (by rw [szA.out]; kernel_rfl)) rfl ⟨rfl, ?_⟩
      have ra := rA.out
      exact B5.out.trans ⟨rfl, rfl, rfl, by simp [World.setRow], fun k hk => setRow_other _ _ k _ (by omega)⟩
end
end Go.Proofs.Ytbhjcaoiejdkfaa
