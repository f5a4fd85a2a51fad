/-
  The walk of RefsStacks: each worker's stack is its own.
-/
import Derived.Test.YtjapmhipbipdbaaFace
import Derived.Test.YtjapmhipbipdbaaArg
namespace Go.Proofs.Ytjapmhipbipdbaa
open Go Go.RowKit

/-- What lies on stack k behind the first j pushes. -/
def stN (Z : Nat → Int) (n : Nat) (j k : Nat) : List Int := ((List.range j).filter fun i => decide (Z i % (n : Int) = (k : Int))).map fun i : Nat => (i : Int) + 2
theorem stN_hit (Z : Nat → Int) (n j k : Nat) (h : Z j % (n : Int) = (k : Int)) : stN Z n (j + 1) k = stN Z n j k ++ [(j : Int) + 2] := by
  simp [stN, List.range_succ, h]
theorem stN_miss (Z : Nat → Int) (n j k : Nat) (h : ¬ Z j % (n : Int) = (k : Int)) : stN Z n (j + 1) k = stN Z n j k := by
  simp [stN, List.range_succ, h]
theorem stN_len (Z : Nat → Int) (n j k : Nat) : (stN Z n j k).length ≤ j := by
  unfold stN
  rw [List.length_map]
  exact Nat.le_trans (List.length_filter_le _ _) (by simp)
theorem stN_push (Z : Nat → Int) (n j k : Nat) (h : Z j % (n : Int) = (k : Int)) : ∀ i, up (stN Z n j) k (stN Z n j k ++ [(j : Int) + 2]) i = stN Z n (j + 1) i := by
  intro i
  by_cases e : i = k
  · subst e
    rw [up_same, stN_hit Z n j i h]
  · rw [up_other _ _ e, stN_miss Z n j i (fun h2 => e (by omega))]
/-- Stacks ahead of v are empty, of stack v only the first g are left. -/
def sT (Z : Nat → Int) (n len v g : Nat) : Nat → List Int := fun k => if k < v then [] else if k = v then stN Z n g k else stN Z n len k
theorem sT_start (Z : Nat → Int) (n len : Nat) : ∀ k, stN Z n len k = sT Z n len 0 len k := by
  intro k
  unfold sT
  by_cases h : k = 0
  · simp [h]
  · simp [h]
theorem sT_next (Z : Nat → Int) (n len v : Nat) : ∀ k, sT Z n len v 0 k = sT Z n len (v + 1) len k := by
  intro k
  unfold sT
  by_cases h1 : k < v
  · simp [h1, show k < v + 1 by omega]
  · by_cases h2 : k = v
    · subst h2
      simp [stN]
    · by_cases h3 : k = v + 1
      · subst h3
        rw [if_neg h1, if_neg h2, if_neg (by omega), if_pos rfl]
      · simp [h1, h2, h3, show ¬ k < v + 1 by omega]
theorem sT_miss (Z : Nat → Int) (n len v g : Nat) (h : ¬ Z g % (n : Int) = (v : Int)) : ∀ k, sT Z n len v (g + 1) k = sT Z n len v g k := by
  intro k
  unfold sT
  by_cases h2 : k = v
  · subst h2
    simp [stN_miss Z n g k h]
  · simp [h2]
theorem sT_at (Z : Nat → Int) (n len v g : Nat) : sT Z n len v g v = stN Z n g v := by simp [sT]
theorem sT_hit (Z : Nat → Int) (n len v g : Nat) : ∀ k, up (sT Z n len v (g + 1)) v (stN Z n g v) k = sT Z n len v g k := by
  intro k
  by_cases h2 : k = v
  · subst h2
    rw [up_same, sT_at]
  · rw [up_other _ _ h2]
    unfold sT
    simp [h2]
theorem cat_nil {T : Nat → List Int} {n : Nat} (h : ∀ k, k < n → T k = []) : cat T n = [] := by
  unfold cat
  rw [List.flatMap_eq_nil_iff]
  intro k hk
  exact h k (List.mem_range.1 hk)
theorem sT_end (Z : Nat → Int) (n len : Nat) : ∀ k, k < n → sT Z n len n len k = [] := by
  intro k hk
  simp [sT, hk]
theorem no_roots {T : Nat → List Int} {n : Nat} {l : List Int} (h : IsRoots (fun _ => none) n T l) (hT : ∀ k, k < n → T k = []) : l = [] := by
  refine h.eq (by simp) fun x => ?_
  constructor
  · intro e
    cases e
  · rintro ⟨_, e | ⟨k, hk, e⟩⟩
    · cases e
    · rw [hT k hk] at e
      cases e

set_option maxHeartbeats 1600000 in
set_option maxRecDepth 100000 in
theorem stacks_walk (x : Int) (hx : 0 ≤ x ∧ x < 256) (ad : Option Addr) (len cap b off : Nat) (Z : Nat → Int) (W : World) (hZ : Bytes W ad len b off Z) :
    Calls Try.prog 5 #[.int .u8 x, .slice ad len cap] W fun e w' => e = .returned (.bool true) ∧ Below W.heap.size W w' := by
  have KN := known_any W
  by_cases h80 : len ≤ 80
  · obtain ⟨k, hk⟩ : ∃ k : Nat, x % 4 = (k : Int) := ⟨(x % 4).toNat, by omega⟩
    have hkt : Int.tmod x 4 = (k : Int) := by rw [Int.tmod_eq_emod_of_nonneg hx.1]; exact hk
    have hk4 : k < 4 := by omega
    obtain ⟨n, hn⟩ : ∃ n : Nat, (k : Int) + 1 = (n : Int) := ⟨k + 1, by omega⟩
    have hn4 : 0 < n ∧ n ≤ 4 := by omega
    have h80z : ¬ (80 : Int) < (len : Int) := by omega
    clear hk
    go_enter Try.func5, Try.ntmps5
    go_wp2_with (first
      | (go_at_call 6; refine KN.mono ?_; clear KN; rintro e w0 ⟨rfl, b0⟩; have K0 := new_any (n : Int) w0; rw [show wk (n : Int) = n by unfold wk; omega] at K0)
      | (go_at_call 7; refine K0.mono ?_; clear K0; rintro e w1 ⟨rfl, ⟨F1, h1, n1⟩, b1⟩))
    obtain ⟨R, hRd⟩ : ∃ R, R = w0.heap.size + 1 := ⟨_, rfl⟩
    rw [← hRd] at h1 ⊢
    have hB1 : Below W.heap.size W w1 := b0.trans (b1.mono b0.size)
    have hF1 : ∀ b, F1 b → W.heap.size ≤ b := fun b hb => Nat.le_trans b0.size (n1 b hb)
    clear hRd b0 b1 n1
    go_loopg [7] len (fun g s wr => ∃ (j : Nat) (F : Nat → Prop), s = .int .i64 (j : Int) ∧ j + g = len ∧ Aside (Has wr R F (fun _ => none) 0 n (stN Z n j)) ∧ Aside (∀ b, F b → W.heap.size ≤ b) ∧ Aside (Below W.heap.size W wr))
    case atStart => exact ⟨0, F1, rfl, by omega, (show Aside _ from h1.congrT fun k => by simp [stN]), hF1, hB1⟩
    case round =>
      clear h1 hB1 hF1
      obtain ⟨j, F, rfl, hg, hH, hF, hB⟩ := hrel
      by_cases hj : j < len
      · have hjz : (j : Int) < (len : Int) := by omega
        obtain rfl := hZ.ad_ (by omega)
        have hc := hZ.kept hB.out hj
        have hv := hZ.val j hj
        obtain ⟨q, hq⟩ : ∃ q : Nat, Z j % (n : Int) = (q : Int) := ⟨(Z j % (n : Int)).toNat, by
          have := Int.emod_nonneg (Z j) (show (n : Int) ≠ 0 by omega)
          omega⟩
        have hqt : Int.tmod (Z j) (n : Int) = (q : Int) := by rw [Int.tmod_eq_emod_of_nonneg hv.1]; exact hq
        have hqn : q < n := by
          have := Int.emod_lt_of_pos (Z j) (show (0 : Int) < (n : Int) by omega)
          omega
        have hw : IntKind.u32.wrap (j : Int) = (j : Int) := by rw [IntKind.wrap_u32]; omega
        have hqA : Aside (Z j % (n : Int) = (q : Int)) := hq
        have hgA : Aside (j + gk = len) := hg
        have K1 := hH.out.push q hqn ((j : Int) + 2) (by have := stN_len Z n j q; omega)
        generalize Z j = z at hc hv hqt
        clear hq
        go_wp2_with (first
          | (go_at_call 10; refine K1.mono ?_; clear K1; rintro e w2 ⟨rfl, F2, h2, m2⟩))
        have qq := m2.old hF.out hB.out.size
        go_roundg (gk - 1)
        case measure => have := hgA.out; omega
        case rel => exact ⟨j + 1, F2, by go_num, by have := hgA.out; omega, h2.congrT (stN_push Z n j q hqA.out), qq.2, hB.out.trans qq.1⟩
      · have hjz : ¬ (j : Int) < (len : Int) := by omega
        obtain rfl : j = len := by omega
        clear hg hj
        go_wp2
        go_loopg [8] n (fun g s wr => ∃ (v : Nat) (F : Nat → Prop), s = .int .i64 (v : Int) ∧ v + g = n ∧ Aside (Has wr R F (fun _ => none) 0 n (sT Z n j v j)) ∧ Aside (∀ b, F b → W.heap.size ≤ b) ∧ Aside (Below W.heap.size W wr))
        case atStart => exact ⟨0, F, rfl, by omega, (show Aside _ from hH.out.congrT (sT_start Z n j)), hF, hB⟩
        case round =>
          clear hH hB hF
          obtain ⟨v, F, rfl, hg, hH, hF, hB⟩ := hrel
          by_cases hv : v < n
          · have hvz : (v : Int) < (n : Int) := by omega
            obtain ⟨go, hgo⟩ : ∃ go, go = gk := ⟨_, rfl⟩
            have hgA : Aside (v + go = n ∧ go = gk) := ⟨by omega, hgo⟩
            clear hgo hg
            go_wp2
            go_loopg [9] j (fun g s wr => ∃ (F : Nat → Prop), s = .int .i64 ((g : Int) - 1) ∧ g ≤ j ∧ Aside (Has wr R F (fun _ => none) 0 n (sT Z n j v g)) ∧ Aside (∀ b, F b → W.heap.size ≤ b) ∧ Aside (Below W.heap.size W wr))
            case atStart => exact ⟨F, by go_num, Nat.le_refl _, hH, hF, hB⟩
            case round =>
              clear hH hB hF
              obtain ⟨F, rfl, hgj, hH, hF, hB⟩ := hrel
              cases gk with
              | zero =>
                have hz : ¬ (0 : Int) ≤ ((0 : Nat) : Int) - 1 := by omega
                have hd : deep n (sT Z n j v 0) (v : Int) = 0 := by
                  unfold deep
                  rw [Int.toNat_natCast, sT_at]
                  simp [stN]
                have K1 := hH.out.pop0 (v : Int) hd
                have K2 := hH.out.depth (v : Int) 0 hd
                clear hd
                go_wp2_with (first
                  | (go_at_call 11; refine K1.mono ?_; clear K1; rintro e w2 ⟨rfl, e2⟩; subst e2)
                  | (go_at_call 13; refine K2.mono ?_; clear K2; rintro e w2 ⟨rfl, e2⟩; subst e2))
                go_roundg (go - 1)
                case measure => have := hgA.out; omega
                case rel => exact ⟨v + 1, F, by go_num, by have := hgA.out; omega, (show Aside _ from hH.out.congrT (sT_next Z n j v)), hF, hB⟩
              | succ i =>
                have hz : (0 : Int) ≤ ((i + 1 : Nat) : Int) - 1 := by omega
                have hi1 : ((i + 1 : Nat) : Int) - 1 = (i : Int) := by omega
                have hi0 : (0 : Int) ≤ (i : Int) := by omega
                rw [hi1]
                have hij : i < j := by omega
                have hijz : (i : Int) < (j : Int) := by omega
                obtain rfl := hZ.ad_ (by omega)
                have hc := hZ.kept hB.out hij
                have hvl := hZ.val i hij
                obtain ⟨q, hq⟩ : ∃ q : Nat, Z i % (n : Int) = (q : Int) := ⟨(Z i % (n : Int)).toNat, by
                  have := Int.emod_nonneg (Z i) (show (n : Int) ≠ 0 by omega)
                  omega⟩
                have hqt : Int.tmod (Z i) (n : Int) = (q : Int) := by rw [Int.tmod_eq_emod_of_nonneg hvl.1]; exact hq
                have hw : IntKind.u32.wrap (i : Int) = (i : Int) := by rw [IntKind.wrap_u32]; omega
                by_cases hqv : q = v
                · subst hqv
                  have hT : sT Z n j q (i + 1) q = stN Z n i q ++ [(i : Int) + 2] := by rw [sT_at, stN_hit Z n i q hq]
                  have K1 := hH.out.pop q hv (stN Z n i q) ((i : Int) + 2) hT (by rw [sT_at]; have := stN_len Z n (i + 1) q; omega)
                  generalize Z i = z at hc hvl hqt
                  clear hq hT
                  go_wp2_with (first
                    | (go_at_call 11; refine K1.mono ?_; clear K1; rintro e w2 ⟨rfl, h2, m2⟩))
                  have qq := m2.old hF.out hB.out.size
                  go_roundg i
                  case measure => omega
                  case rel => exact ⟨F, by go_num, by omega, h2.congrT (sT_hit Z n j q i), hF, hB.out.trans qq.1⟩
                · have hqvz : ¬ (q : Int) = (v : Int) := by omega
                  have hqvb : ((q : Int) != (v : Int)) = true := by simpa using hqvz
                  have hm : Aside (∀ k, sT Z n j v (i + 1) k = sT Z n j v i k) := sT_miss Z n j v i (by rw [hq]; exact hqvz)
                  generalize Z i = z at hc hvl hqt
                  clear hq
                  go_wp2
                  go_roundg i
                  case measure => omega
                  case rel => exact ⟨F, by go_num, by omega, (show Aside _ from hH.out.congrT hm.out), hF, hB⟩
          · have hvz : ¬ (v : Int) < (n : Int) := by omega
            obtain rfl : v = n := by omega
            have K1 := hH.out.roots (by rw [cat_nil (sT_end Z v j)]; simp)
            go_wp2_with (first
              | (go_at_call 15; refine K1.mono ?_; clear K1; rintro e w2 ⟨ad2, cap2, l2, rfl, hl2, _, o2, _, b2⟩; have e2 := no_roots hl2 (sT_end Z v j); subst e2; have h2 := hH.out.below b2; have K2 := h2.push0 (v : Int) (by simp [isIn]) 5; have K3 := h2.push0 (-1) (by simp [isIn]) 5)
              | (go_at_call 10; refine K2.mono ?_; clear K2; rintro e w3 ⟨rfl, e3⟩; subst e3)
              | (go_at_call 10; refine K3.mono ?_; clear K3; rintro e w3 ⟨rfl, e3⟩; subst e3))
            go_ret
            exact ⟨rfl, hB.out.trans (b2.mono hB.out.size)⟩
  · have h80z : (80 : Int) < (len : Int) := by omega
    go_enter Try.func5, Try.ntmps5
    go_wp2_with (first
      | (go_at_call 6; refine KN.mono ?_; clear KN; rintro e w0 ⟨rfl, b0⟩))
    go_ret
    exact ⟨rfl, b0⟩
end Go.Proofs.Ytjapmhipbipdbaa
