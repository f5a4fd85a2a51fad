/-
  The walk of OrderPlays: for every number and every row of steps it tells true, and old memory is as it was.
-/
import Derived.Test.YthpancffloplkaaSetsWalk
import Derived.Test.YthpancffloplkaaSteps
import Derived.Deep.CutRange
namespace Go.Proofs.Ythpancffloplkaa
open Go Go.RowKit

/-- The levels lead back from the variables. -/
structure PermH (n : Nat) (v l : Nat → Nat) : Prop where
  va : ∀ i, i < n → v i < n
  vl : ∀ i, i < n → l (v i) = i

theorem permH_idn (n : Nat) : PermH n (idn n) (idn n) := ⟨(perm_idn n).va, (perm_idn n).vl⟩
theorem PermH.ne {n : Nat} {v l : Nat → Nat} (p : PermH n v l) {i j : Nat} (hi : i < n) (hj : j < n) (h : i ≠ j) : v i ≠ v j := fun e => h (by rw [← p.vl i hi, e, p.vl j hj])
theorem PermH.swap {n : Nat} {v l : Nat → Nat} (p : PermH n v l) {k : Nat} (hk : k + 1 < n) : PermH n (swV v k) (swL v l k) where
  va i hi := by
    rw [swV_at]
    split
    · exact p.va k (by omega)
    · split
      · exact p.va (k + 1) (by omega)
      · exact p.va i hi
  vl i hi := by
    rw [swV_at]
    by_cases h1 : i = k + 1
    · rw [if_pos h1, swL_at, if_pos rfl, h1]
    · rw [if_neg h1]
      by_cases h2 : i = k
      · rw [if_pos h2, swL_at, if_neg (p.ne hk (by omega) (by omega)), if_pos rfl, h2]
      · rw [if_neg h2, swL_at, if_neg (p.ne hi (by omega) h2), if_neg (p.ne hi hk h1)]
        exact p.vl i hi
theorem permH_set {n len : Nat} {Z : Nat → Int} (v l : Nat → Nat) (h : permB len Z n = true) : PermH n (setV v Z n) (setL l Z n) := by
  obtain ⟨_, h1, h2⟩ := permB_spec h
  refine ⟨fun i hi => ?_, fun i hi => ?_⟩
  · rw [setV_get v Z hi]
    have := h1 i hi
    omega
  · rw [setV_get v Z hi]
    exact setL_get l Z hi (fun i hi => (h1 i hi).1) h2

/-- The block that holds one step. -/
def IsStep (w : World) (s : Nat) (st : Bool) (lv : Int) (ad : Option Addr) (len cap : Nat) : Prop := w.heap[s]? = some (.cells #[.bool st, .int .i64 lv, .slice ad len cap] 28 (0, 0))
section
variable {w w' : World} {s : Nat} {st : Bool} {lv : Int} {ad : Option Addr} {len cap : Nat}
theorem IsStep.cells (h : IsStep w s st lv ad len cap) : w.cell? ⟨s, 0, none⟩ = some (.bool st) ∧ w.cell? ⟨s, 1, none⟩ = some (.int .i64 lv) ∧ w.cell? ⟨s, 2, none⟩ = some (.slice ad len cap) := by
  unfold IsStep at h
  simp [World.cell?, h]
theorem IsStep.lt (h : IsStep w s st lv ad len cap) : s < w.heap.size := (Array.getElem?_eq_some_iff.1 h).1
theorem IsStep.below (h : IsStep w s st lv ad len cap) (k : Below w.heap.size w w') : IsStep w' s st lv ad len cap := (k.block _ h.lt).trans h
theorem IsStep.moved {P : Nat} (h : IsStep w s st lv ad len cap) (k : Moved P w w') (hP : s ≠ P) : IsStep w' s st lv ad len cap := (k.block _ h.lt hP).trans h
end

theorem OwnI.congr {w : World} {B n cap : Nat} {ad : Option Addr} {Z Y : Nat → Int} (h : OwnI w B ad n cap Z) (e : ∀ i, i < n → Z i = Y i) : OwnI w B ad n cap Y := by
  have : intsL n Z = intsL n Y := List.map_congr_left fun i hi => by rw [e i (List.mem_range.1 hi)]
  unfold OwnI
  rw [← this]
  exact h
theorem OwnI.mono {w : World} {B B' n cap : Nat} {ad : Option Addr} {Z : Nat → Int} (h : OwnI w B ad n cap Z) (hb : B' ≤ B) : OwnI w B' ad n cap Z := World.ownsRow.mono h hb
theorem OwnI.set {w : World} {B n cap g j : Nat} {Z : Nat → Int} (h : OwnI w B (some ⟨g, 0, none⟩) n cap Z) (x : Int) (hj : j < n) : OwnI (w.setCell ⟨g, j, none⟩ (.int .i64 x)) B (some ⟨g, 0, none⟩) n cap (fun i => if i = j then x else Z i) := by
  have := World.ownsRow.stored h j (.int .i64 x)
  have e : (intsL n Z).set j (.int .i64 x) = intsL n (fun i => if i = j then x else Z i) := by
    apply List.ext_getElem?
    intro i
    rw [List.getElem?_set, intsL_length]
    by_cases hi : i < n
    · rw [intsL_get _ _ hi, intsL_get _ _ hi]
      by_cases hij : j = i
      · subst hij; simp [hj]
      · rw [if_neg hij, if_neg (fun e => hij e.symm)]
    · have h1 : (intsL n Z)[i]? = none := List.getElem?_eq_none (by rw [intsL_length]; omega)
      have h2 : (intsL n (fun i => if i = j then x else Z i))[i]? = none := List.getElem?_eq_none (by rw [intsL_length]; omega)
      rw [h1, h2, if_neg (by omega)]
  unfold OwnI
  rw [← e]
  exact this.1
theorem OwnI.other {w : World} {B n cap g b : Nat} {Z : Nat → Int} (h : OwnI w B (some ⟨g, 0, none⟩) n cap Z) (hg : g ≠ b) (o : Nat) (x : Value) : OwnI (w.setCell ⟨b, o, none⟩ x) B (some ⟨g, 0, none⟩) n cap Z :=
  h.kept fun a ha => by cases ha; exact Below.heap_setCell _ _ _ _ hg


set_option maxHeartbeats 6400000 in
set_option maxRecDepth 100000 in
theorem plays_walk (x : Int) (ad : Option Addr) (b off len cap : Nat) (W : World) (hb : 0 < len → b < W.heap.size)
    (hcell : ∀ k, k < len → StepAt W b (off + k * 3)) (hlen : len ≤ 60) (had : Aside (0 < len → ad = some ⟨b, off, none⟩)) :
    Calls Try.prog 3 #[.int .i64 x, .slice ad len cap] W fun e w' => e = .returned (.bool true) ∧ Below W.heap.size W w' := by
  have hd : decide (60 < (len : Int)) = false := by simp; omega
  obtain ⟨n, hn⟩ : ∃ n : Nat, heldN x = n := ⟨_, rfl⟩
  have hn1 : 1 ≤ n ∧ n ≤ 8 := by rw [← hn]; exact heldN_le x
  obtain ⟨y, hy⟩ : ∃ y : Int, (if 8 < x then 8 else x) = y := ⟨_, rfl⟩
  have hmx : (if 1 < y then y else 1) = (n : Int) := by
    rw [← hy, ← hn]
    unfold heldN
    by_cases h1 : x < 1
    · rw [if_neg (show ¬ 8 < x by omega), if_neg (show ¬ 1 < x by omega), if_pos h1]; rfl
    · rw [if_neg h1]
      by_cases h2 : 8 < x
      · rw [if_pos h2, if_pos h2, if_pos (by decide)]; rfl
      · rw [if_neg h2, if_neg h2]
        split <;> omega
  have H0 := known_any W
  have hN : Aside (heldN x = n) := hn
  clear hn
  go_enter Try.func3, Try.ntmps3
  go_wp2_with (first
    | (go_at_call 6; refine H0.mono ?_; clear H0; rintro e w1 ⟨rfl, b1⟩; have H1 := new_any x w1; rw [hN.out] at H1)
    | (go_at_call 7; refine H1.mono ?_; clear H1; rintro e w2 ⟨rfl, o2, b2⟩))
  have hPW : W.heap.size ≤ w1.heap.size := b1.size
  have hP2 : w1.heap.size < w2.heap.size := o2.lt
  have B2 : Below W.heap.size W w2 := below_far b1 b2
  go_loopg [7, 8] n (fun g st sv wr => ∃ (j : Nat) (ad' : Option Addr) (cap' : Nat), j + g = n ∧ st = .slice ad' j cap' ∧ sv = .int .i64 (j : Int) ∧ OwnI wr w2.heap.size ad' j cap' (fun i => (i : Int)) ∧ Below w2.heap.size w2 wr)
  case atStart => exact ⟨0, none, 0, by omega, rfl, rfl, OwnI.nil _ _ _, Below.refl _ _⟩
  case round =>
    obtain ⟨j, ad', cap', hj, rfl, rfl, hown, hB⟩ := hrel
    have hJ : Aside (j + gk = n) := hj
    by_cases hjn : j < n
    · have hjn' : (j : Int) < (n : Int) := by omega
      clear hj
      go_wp2_with (first
        | (at_builtin; refine append_int (hown.new _) wr.heap.size (heap_alloc_new _ _) (by omega) (by have := hB.size; simp; omega) rfl _ _ rfl rfl rfl ?_; intro g cap2 w3 o3 b3))
      go_roundg (gk - 1)
      case measure => have := hJ.out; omega
      case rel =>
        have hj := hJ.out
        exact ⟨j + 1, _, _, by omega, rfl, by go_num, o3, (hB.alloc hB.size _).trans b3⟩
    · obtain rfl : n = j := by omega
      obtain ⟨g0, rfl, hg1, hg2⟩ := hown.form (by omega)
      have ow := o2.below hB
      have Bw : Below W.heap.size W wr := B2.trans (hB.mono B2.size)
      have hB2w : w2.heap.size ≤ wr.heap.size := hB.size
      have hw2 := hown.congr (Y := fun i => (idn n i : Int)) fun i hi => by simp [idn, hi]
      clear hj hJ hjn hown
      go_wp2_with fail
      go_loopg [7, 9] len (fun g sm si wr => ∃ (k : Nat) (v l : Nat → Nat) (gm capm : Nat), k + g = len ∧ sm = .slice (some ⟨gm, 0, none⟩) n capm ∧ si = .int .i64 (k : Int) ∧ IsOrd wr w1.heap.size n v l ∧ PermH n v l ∧ OwnI wr w2.heap.size (some ⟨gm, 0, none⟩) n capm (fun i => (v i : Int)) ∧ Below W.heap.size W wr)
      case atStart => exact ⟨0, _, _, _, _, by omega, rfl, rfl, ow, permH_idn n, hw2, Bw⟩
      case round =>
        obtain ⟨k, v, l, gm, capm, hk, rfl, rfl, ho, hp, hm, hB⟩ := hrel
        have hK : Aside (k + gk = len) := hk
        have hgm : w2.heap.size ≤ gm := (hm.block _ rfl).1
        have hgmP : gm ≠ w1.heap.size := by omega
        by_cases hkl : k < len
        · have hb := hb (by omega)
          obtain rfl := had.out (by omega)
          clear had
          obtain ⟨st, lv, ad2, len2, cap2, Z, k0, k1, k2, hZ⟩ := hcell k hkl
          have c0 : wr.cell? ⟨b, off + k * 3, none⟩ = some (.bool st) := by rw [hB.cell hb]; exact k0
          have c1 : wr.cell? ⟨b, off + k * 3 + 1, none⟩ = some (.int .i64 lv) := by rw [hB.cell hb]; exact k1
          have c2 : wr.cell? ⟨b, off + k * 3 + 2, none⟩ = some (.slice ad2 len2 cap2) := by rw [hB.cell hb]; exact k2
          have hkl' : (k : Int) < (len : Int) := by omega
          obtain ⟨go, hgo⟩ : ∃ go, Aside (go = gk) := ⟨gk, rfl⟩
          clear hk k0 k1 k2
          have s3 : IsStep (wr.alloc (.cells #[.bool st, .int .i64 lv, .slice ad2 len2 cap2] 28)) wr.heap.size st lv ad2 len2 cap2 := heap_alloc_new _ _
          have b3 : Below wr.heap.size wr (wr.alloc (.cells #[.bool st, .int .i64 lv, .slice ad2 len2 cap2] 28)) := (Below.refl _ wr).alloc (Nat.le_refl _) _
          have hSP : wr.heap.size ≠ w1.heap.size := Nat.ne_of_gt ho.lt
          have hgS0 : gm ≠ wr.heap.size := Nat.ne_of_lt (hm.block _ rfl).2
          go_upto_if 46 with fail
          generalize wr.alloc (.cells #[.bool st, .int .i64 lv, .slice ad2 len2 cap2] 28) = w3 at s3 b3
          clear c0 c1 c2
          have o3 := ho.below b3
          have m3 := hm.below b3
          have B3 := below_far hB b3
          have z3 := hZ.below B3
          have hs3 : w2.heap.size ≤ w3.heap.size := by have h9 : gm < w3.heap.size := (m3.block _ rfl).2; omega
          clear hm ho hB b3
          go_cut [7] from 35 to 170 (fun sm w => ∃ (v l : Nat → Nat) (gm capm : Nat), sm = .slice (some ⟨gm, 0, none⟩) n capm ∧ IsOrd w w1.heap.size n v l ∧ PermH n v l ∧ OwnI w w2.heap.size (some ⟨gm, 0, none⟩) n capm (fun i => ((v i : Nat) : Int)) ∧ Below W.heap.size W w)
          case rest =>
            clear s3 o3 m3 B3 z3 hs3 hgS0 hSP hp hgm hgmP
            obtain ⟨v, l, gm, capm, rfl, ot, pt, mt, Bt⟩ := hcut
            have T1 := len_any ot
            have T2 := all_any ot hn1.2
            go_upto_region 31 with (first
              | (go_at_call 11; refine T1.mono ?_; clear T1; rintro e w' ⟨rfl, rfl⟩)
              | (go_at_call 13; refine T2.mono ?_; clear T2; rintro e x1 ⟨rfl, r1, c1⟩; have T3 := same_any (c := n) (d := capm) (IntsAt.row r1) (mt.below c1).ints (by omega); rw [sameB_true (fun _ _ => rfl)] at T3)
              | (go_at_call 12; refine T3.mono ?_; clear T3; rintro e x2 ⟨rfl, c2⟩; have o2' := (ot.below c1).below c2; have m2' := (mt.below c1).below c2; have T4 := copy_any o2')
              | (go_at_call 14; refine T4.mono ?_; clear T4; rintro e x3 ⟨rfl, q3, c3⟩; have T5 := all_any q3 hn1.2)
              | (go_at_call 13; refine T5.mono ?_; clear T5; rintro e x4 ⟨rfl, r4, c4⟩; have T6 := same_any (c := n) (d := capm) (IntsAt.row r4) ((m2'.below c3).below c4).ints (by omega); rw [sameB_true (fun _ _ => rfl)] at T6)
              | (go_at_call 12; refine T6.mono ?_; clear T6; rintro e x5 ⟨rfl, c5⟩))
            have o5 := ((o2'.below c3).below c4).below c5
            have m5 := ((m2'.below c3).below c4).below c5
            have B5 := below_far (below_far (below_far (below_far (below_far Bt c1) c2) c3) c4) c5
            clear r1 c1 c2 o2' m2' q3 c3 r4 c4 c5 mt Bt
            go_wp2_with fail
            go_loopg [13] (n + 2) (fun g sk wr => ∃ (q : Nat) (kx : Int), q + g = n + 2 ∧ kx = (q : Int) - 1 ∧ sk = .int .i64 kx ∧ IsOrd wr w1.heap.size n v l ∧ OwnI wr w2.heap.size (some ⟨gm, 0, none⟩) n capm (fun i => ((v i : Nat) : Int)) ∧ Below W.heap.size W wr)
            case atStart => exact ⟨0, -1, by omega, rfl, rfl, o5, m5, B5⟩
            case round =>
              obtain ⟨q, kx, hq, hkk, rfl, ho, hm, hB⟩ := hrel
              have hQ : Aside (q + gk = n + 2) := hq
              have hQK : Aside (kx = (q : Int) - 1) := hkk
              by_cases q0 : q = 0
              · obtain rfl : kx = -1 := by omega
                have R1 := var_out ho (-1) (by omega)
                have R2 := level_out ho (-1) (by omega)
                have hn0 : (-1 : Int) ≤ (n : Int) := by omega
                clear hq hkk
                go_wp2_with (first
                  | (go_at_call 15; refine R1.mono ?_; clear R1; rintro e w' ⟨rfl, rfl⟩)
                  | (go_at_call 16; refine R2.mono ?_; clear R2; rintro e w' ⟨rfl, rfl⟩))
                go_roundg (gk - 1)
                case measure => have := hQ.out; omega
                case rel =>
                  have hq := hQ.out
                  exact ⟨q + 1, _, by omega, by omega, rfl, ho, hm, hB⟩
              · by_cases qn : q ≤ n
                · obtain ⟨r, rfl⟩ : ∃ r : Nat, kx = (r : Int) := ⟨q - 1, by omega⟩
                  have hr : r < n := by omega
                  have hr' : (r : Int) < (n : Int) := by omega
                  have hr2 : (r : Int) ≤ (n : Int) := by omega
                  have hr3 : decide ((n : Int) ≤ (r : Int)) = false := by simp; omega
                  have d1 := hm.cell hr
                  have R1 := var_in ho hn1.2 r hr
                  have R2 := level_in ho hn1.2 _ (pt.va r hr)
                  rw [pt.vl r hr] at R2
                  generalize v r = vr at d1 R1 R2
                  clear hq hkk
                  go_wp2_with (first
                    | (go_at_call 15; refine R1.mono ?_; clear R1; rintro e w' ⟨rfl, rfl⟩)
                    | (go_at_call 16; refine R2.mono ?_; clear R2; rintro e w' ⟨rfl, rfl⟩))
                  go_roundg (gk - 1)
                  case measure => have := hQ.out; omega
                  case rel =>
                    have hq := hQ.out
                    have hkk := hQK.out
                    exact ⟨q + 1, _, by omega, by omega, rfl, ho, hm, hB⟩
                · by_cases qn1 : q = n + 1
                  · obtain rfl : kx = (n : Int) := by omega
                    have R1 := var_out ho (n : Int) (by omega)
                    have R2 := level_out ho (n : Int) (by omega)
                    have hn0 : decide ((n : Int) < 0) = false := by simp
                    clear hq hkk
                    go_wp2_with (first
                      | (go_at_call 15; refine R1.mono ?_; clear R1; rintro e w' ⟨rfl, rfl⟩)
                      | (go_at_call 16; refine R2.mono ?_; clear R2; rintro e w' ⟨rfl, rfl⟩))
                    go_roundg (gk - 1)
                    case measure => have := hQ.out; omega
                    case rel =>
                      have hq := hQ.out
                      have hkk := hQK.out
                      exact ⟨q + 1, _, by omega, by omega, rfl, ho, hm, hB⟩
                  · obtain rfl : kx = (n : Int) + 1 := by omega
                    clear hq hkk
                    go_wp2_with fail
                    go_roundg (go - 1)
                    case measure => have := hK.out; have := hgo.out; omega
                    case rel =>
                      have hk := hK.out
                      have := hgo.out
                      exact ⟨k + 1, _, _, _, _, by omega, rfl, by go_num, ho, pt, hm, hB⟩
          case first =>
           obtain ⟨e0, e1, e2⟩ := s3.cells
           cases st with
           | true =>
             by_cases h20 : 20 < len2
             · have h20' : decide (20 < (len2 : Int)) = true := by simp; omega
               go_wp2_with fail
               go_ret
               exact ⟨rfl, B3⟩
             · have h20' : decide (20 < (len2 : Int)) = false := by simp; omega
               have P1 := perm_any z3 hn1.2 (n := n) (c := cap2)
               cases hperm : permB len2 Z n with
               | true =>
                 rw [hperm] at P1
                 have hl2 := (permB_spec hperm).1.symm
                 subst hl2
                 have hV : Aside (∀ i, i < n → ((setV v Z n i : Nat) : Int) = Z i) := setV_int hperm
                 go_wp2_with (first
                   | (go_at_call 8; refine P1.mono ?_; clear P1; rintro e w4 ⟨rfl, b4⟩; have z4 := z3.below b4; have s4 := s3.below b4; obtain ⟨f0, f1, f2⟩ := s4.cells)
                   | (at_builtin; refine append_copy z4 (by omega) rfl _ _ rfl rfl rfl ?_; intro ad5 cap5 w5 own5 b5; have P2 := set_ok ((o3.below b4).below b5) own5.ints hn1.2 (fun a h => by have := (own5.block a h).1; have := (o3.below b4).lt; omega) hperm (c := cap5); have s5 := s4.below b5; clear z4)
                   | (go_at_call 9; refine P2.mono ?_; clear P2; rintro e w6 ⟨rfl, o6, m6⟩; have s6 := s5.moved m6 hSP; obtain ⟨g0', g1', g2'⟩ := s6.cells; have B6 := Moved.away (below_far (below_far B3 b4) b5) m6 hPW; have z6 := hZ.below B6)
                   | (at_builtin; refine append_copy z6 (by omega) rfl _ _ rfl rfl rfl ?_; intro ad7 cap7 w7 own7 b7))
                 obtain ⟨g7, rfl, hg7, _⟩ := own7.form (by omega)
                 go_meet
                 case rel =>
                   exact ⟨(setV v Z n), (setL l Z n), g7, cap7, rfl, o6.below b7, permH_set v l hperm, (own7.mono (Nat.le_trans hs3 (Nat.le_trans b4.size (Nat.le_trans b5.size m6.size)))).congr (fun i hi => (hV.out i hi).symm), below_far B6 b7⟩
               | false =>
                 rw [hperm] at P1
                 go_wp2_with (first
                   | (go_at_call 8; refine P1.mono ?_; clear P1; rintro e w4 ⟨rfl, b4⟩; have z4 := z3.below b4; have s4 := s3.below b4; obtain ⟨f0, f1, f2⟩ := s4.cells)
                   | (at_builtin; refine append_copy z4 (by omega) rfl _ _ rfl rfl rfl ?_; intro ad5 cap5 w5 own5 b5; have P2 := set_no ((o3.below b4).below b5) own5.ints hn1.2 hperm (c := cap5))
                   | (go_at_call 9; refine P2.mono ?_; clear P2; rintro e w6 ⟨rfl, b6⟩))
                 go_meet
                 case rel =>
                   exact ⟨v, l, gm, capm, rfl, ((o3.below b4).below b5).below b6, hp, ((m3.below b4).below b5).below b6, below_far (below_far (below_far B3 b4) b5) b6⟩
           | false =>
             by_cases hlv : 0 ≤ lv ∧ lv < (n : Int) - 1
             · obtain ⟨kk, rfl⟩ : ∃ kk : Nat, lv = (kk : Int) := ⟨lv.toNat, by omega⟩
               have hkn : kk + 1 < n := by omega
               have hd1 : decide ((kk : Int) < (n : Int) - 1) = true := by simp; omega
               have hi1 : (kk : Int) < (n : Int) := by omega
               have hi2 : (kk : Int) + 1 < (n : Int) := by omega
               have P1 := swap_in o3 hn1.2 kk hkn hp.va
               clear hlv
               go_upto_region 28 with (first
                 | (go_at_call 10; refine P1.mono ?_; clear P1; rintro e w4 ⟨rfl, o4, m4⟩))
               have s4 := s3.moved m4 hSP
               have mm4 := m3.moved m4 hP2
               obtain ⟨f0, f1, f2⟩ := s4.cells
               have d0 := mm4.cell (i := kk) (by omega)
               have d1 := mm4.cell (i := kk + 1) (by omega)
               have fr0 := mm4.frozen kk
               have fr1 := mm4.frozen (kk + 1)
               have hgS : gm ≠ wr.heap.size := hgS0
               have hgS' : wr.heap.size ≠ gm := fun e => hgS0 e.symm
               have hwk : IntKind.i64.wrap ((kk : Int) + 1) = (kk : Int) + 1 := by rw [IntKind.wrap_i64]; omega
               have htn : ((kk : Int) + 1).toNat = kk + 1 := by omega
               have hle0 : (0 : Int) ≤ (kk : Int) + 1 := by omega
               go_wp2_with fail
               go_region
               go_wp2_with fail
               have oo : IsOrd ((w4.setCell ⟨gm, kk, none⟩ (.int .i64 ((v (kk + 1) : Nat) : Int))).setCell ⟨gm, kk + 1, none⟩ (.int .i64 ((v kk : Nat) : Int))).drew w1.heap.size n (swV v kk) (swL v l kk) :=
                 ((o4.of_block (Below.heap_setCell _ _ _ _ (fun e => hgmP e.symm))).of_block (Below.heap_setCell _ _ _ _ (fun e => hgmP e.symm))).drew
               have mm : OwnI ((w4.setCell ⟨gm, kk, none⟩ (.int .i64 ((v (kk + 1) : Nat) : Int))).setCell ⟨gm, kk + 1, none⟩ (.int .i64 ((v kk : Nat) : Int))).drew w2.heap.size (some ⟨gm, 0, none⟩) n capm (fun i => ((swV v kk i : Nat) : Int)) :=
                 (((mm4.set _ (by omega)).set _ (by omega)).congr (fun i _ => by
                   rw [swV_at]
                   by_cases h1 : i = kk + 1
                   · rw [if_pos h1, if_pos h1]
                   · rw [if_neg h1, if_neg h1]
                     by_cases h2 : i = kk
                     · rw [if_pos h2, if_pos h2]
                     · rw [if_neg h2, if_neg h2])).drew
               have hWg : W.heap.size ≤ gm := by have := B2.size; omega
               have BB : Below W.heap.size W ((w4.setCell ⟨gm, kk, none⟩ (.int .i64 ((v (kk + 1) : Nat) : Int))).setCell ⟨gm, kk + 1, none⟩ (.int .i64 ((v kk : Nat) : Int))).drew := (((Moved.away B3 m4 hPW).setCell hWg _).setCell hWg _).drew
               generalize ((w4.setCell ⟨gm, kk, none⟩ (.int .i64 ((v (kk + 1) : Nat) : Int))).setCell ⟨gm, kk + 1, none⟩ (.int .i64 ((v kk : Nat) : Int))).drew = w5 at oo mm BB
               clear hi1 hi2 hwk htn hle0 d0 d1 fr0 fr1 f0 f1 f2 e0 e1 e2 hd1
               go_meet
               case rel =>
                 exact ⟨(swV v kk), (swL v l kk), gm, capm, rfl, oo, hp.swap hkn, mm, BB⟩
             · have P1 := swap_out o3 hn1.2 lv (by omega)
               by_cases hlv0 : 0 ≤ lv
               · have hd0 : decide (0 ≤ lv) = true := by simp; omega
                 have hd1 : decide (lv < (n : Int) - 1) = false := by simp; omega
                 clear hlv
                 go_wp2_with (first
                   | (go_at_call 10; refine P1.mono ?_; clear P1; rintro e w4 ⟨rfl, rfl⟩))
                 go_meet
                 case rel =>
                   exact ⟨v, l, gm, capm, rfl, o3, hp, m3, B3⟩
               · have hd0 : decide (0 ≤ lv) = false := by simp; omega
                 clear hlv
                 go_wp2_with (first
                   | (go_at_call 10; refine P1.mono ?_; clear P1; rintro e w4 ⟨rfl, rfl⟩))
                 go_meet
                 case rel =>
                   exact ⟨v, l, gm, capm, rfl, o3, hp, m3, B3⟩
        · obtain rfl : len = k := by omega
          clear hk
          have F1 := copy_any ho
          by_cases hn2 : 1 < n
          · go_wp2_with (first
              | (go_at_call 14; refine F1.mono ?_; clear F1; rintro e w3 ⟨rfl, q3, b3⟩; have F2 := swap_in q3 hn1.2 0 (by omega) hp.va; rw [show ((0 : Nat) : Int) = 0 from rfl] at F2)
              | (go_at_call 10; refine F2.mono ?_; clear F2; rintro e w4 ⟨rfl, q4, m4⟩; have hPc : w1.heap.size ≠ wr.heap.size := Nat.ne_of_lt ho.lt; have o4 := (ho.below b3).of_block (m4.block _ (ho.below b3).lt hPc); have hmr : gm ≠ wr.heap.size := Nat.ne_of_lt (hm.block _ rfl).2; have mm4 := (hm.below b3).kept (fun a h => by cases h; exact m4.block _ ((hm.below b3).block _ rfl).2 hmr); have F3 := all_any o4 hn1.2)
              | (go_at_call 13; refine F3.mono ?_; clear F3; rintro e w5 ⟨rfl, r5, b5⟩; have F4 := same_any (c := n) (d := capm) (IntsAt.row r5) (mm4.below b5).ints (by omega); rw [sameB_true (fun _ _ => rfl)] at F4)
              | (go_at_call 12; refine F4.mono ?_; clear F4; rintro e w6 ⟨rfl, b6⟩))
            go_ret
            exact ⟨rfl, below_far (below_far (Moved.away (below_far hB b3) m4 hB.size) b5) b6⟩
          · go_wp2_with (first
              | (go_at_call 14; refine F1.mono ?_; clear F1; rintro e w3 ⟨rfl, q3, b3⟩; have F2 := swap_out q3 hn1.2 0 (by omega))
              | (go_at_call 10; refine F2.mono ?_; clear F2; rintro e w4 ⟨rfl, rfl⟩; have F3 := all_any (ho.below b3) hn1.2)
              | (go_at_call 13; refine F3.mono ?_; clear F3; rintro e w5 ⟨rfl, r5, b5⟩; have F4 := same_any (c := n) (d := capm) (IntsAt.row r5) ((hm.below b3).below b5).ints (by omega); rw [sameB_true (fun _ _ => rfl)] at F4)
              | (go_at_call 12; refine F4.mono ?_; clear F4; rintro e w6 ⟨rfl, b6⟩))
            go_ret
            exact ⟨rfl, below_far (below_far (below_far hB b3) b5) b6⟩
end Go.Proofs.Ythpancffloplkaa
