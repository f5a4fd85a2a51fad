/-
  Parts of the reference, walked.
-/
import Derived.Test.YtdmfbfbebcneeaaRfPartsO
namespace Go.Proofs.Ytdmfbfbebcneeaa.Rf
open Go Go.RowKit

/-- A slot that holds no pointer beyond the heap. -/
def Old (w : World) (v : Value) : Prop := ∀ b, v = ptr b → b < w.heap.size
theorem old_undef (w : World) : Old w undef := fun b h => by simp [undef, ptr] at h
theorem old_ptr {w : World} {b : Nat} (h : b < w.heap.size) : Old w (.pointer (some ⟨b, 0, none⟩)) := fun c e => by
  have : b = c := ptr_inj e
  omega
theorem old_lt {w : World} {v : Value} {fb : Nat} {F : Nat → Bool} (h : ∀ b, v = ptr b → b < fb) (T : IsTab w fb F) : Old w v := fun b e => Nat.lt_trans (h b e) T.lt

set_option maxRecDepth 100000 in
set_option maxHeartbeats 3200000 in
theorem parts_any (adl : Option Addr) (L capl : Nat) (T : Nat → Nat → Bool) (adv : Option Addr) (n capv : Nat) (V : Nat → Int) (w : World) (hL : L ≤ 1000) (hn : n ≤ 1000000) (hl : TabsAt w adl L T) (hv : IntsAt w adv n V) :
    Calls Try.prog 44 #[.slice adl L capl, .slice adv n capv] w fun e w' => (∃ ad cap, e = .returned (.slice ad (prt V n (dedup T L) (min n 8 + 1)).1.length cap) ∧ Own w' w.heap.size ad (prt V n (dedup T L) (min n 8 + 1)).1 cap) ∧ Below w.heap.size w w' := by
  go_enter Try.func44, Try.ntmps44
  go_wp2_with fail
  go_loopg [6, 7] L (fun g sn si wr => ∃ (k : Nat) (ad : Option Addr) (cap : Nat), k + g = L ∧ si = .int .i64 (k : Int) ∧ sn = .slice ad (dedup T k).length cap ∧ Own wr w.heap.size ad (dedup T k) cap ∧ Below w.heap.size w wr)
  case atStart => exact ⟨0, none, 0, by omega, rfl, rfl, Own.nil _ _, Below.refl _ _⟩
  case round =>
    obtain ⟨k, ad, cap, hk, rfl, rfl, hO, hB⟩ := hrel
    have hA := hl.kept hB
    have hK : Aside (k + gk = L) := hk
    clear hk
    have hlen := dedup_le T k
    obtain ⟨ts, hts⟩ : ∃ ts, dedup T k = ts := ⟨_, rfl⟩
    have hS : Aside (dedup T (k + 1) = addN ts (T k)) := by simp only [Aside]; rw [dedup, hts]
    have hD : Aside (dedup T k = ts) := hts
    rw [hts] at hO hlen
    rw [hts]
    clear hts
    by_cases hk9 : k < L
    · have hk9' : (k : Int) < (L : Int) := by omega
      obtain ⟨b, off, rfl, hb⟩ := hA.some (by omega)
      obtain ⟨d0, d1, d2, d3⟩ := hA.get hk9
      have hOt := hO.tabs
      cases hh : hasUpto (fun i => ts.getD i fun _ => false) (T k) ts.length with
      | true =>
        have hh' : Aside (hasUpto (fun i => ts.getD i fun _ => false) (T k) ts.length = true) := hh
        clear hh
        go_wp2_with (first
          | (go_at_call 54; refine (in_any ad ts.length cap _ (T k) (by omega) _ hOt).mono ?_; rw [hh'.out]; rintro e w6 ⟨rfl, b6⟩))
        go_roundg (gk - 1)
        case measure => have := hK.out; omega
        case rel =>
          have := hK.out
          exact ⟨k + 1, ad, cap, by omega, rfl, by rw [hS.out, addN_skip hh'.out], by rw [hS.out, addN_skip hh'.out]; exact hO.below b6, below_far hB b6⟩
      | false =>
        have hh' : Aside (hasUpto (fun i => ts.getD i fun _ => false) (T k) ts.length = false) := hh
        clear hh
        go_wp2_with (first
          | (go_at_call 54; refine (in_any ad ts.length cap _ (T k) (by omega) _ hOt).mono ?_; rw [hh'.out]; rintro e w6 ⟨rfl, b6⟩; have A6 := hA.kept b6; have O6 := hO.below b6; have B6 := below_far hB b6; have B6s := B6.size; obtain ⟨e0, e1, e2, e3⟩ := A6.get hk9)
          | (at_builtin; refine append_tab (O6.new _) (T k) w6.heap.size (IsTab.new w6 (T k)) (by omega) (by simp; omega) rfl _ _ rfl rfl rfl ?_; intro g cap' w7 o7 g7 at7 lt7))
        go_roundg (gk - 1)
        case measure => have := hK.out; omega
        case rel =>
          have := hK.out
          have B7 : Below w.heap.size w w7 := (B6.alloc B6s _).grown g7 (by simp; omega) (fun k hk => (O6.blockGe k hk).1)
          exact ⟨k + 1, some ⟨g, 0, none⟩, cap', by omega, rfl, by rw [hS.out, addN_new hh'.out]; simp, by rw [hS.out, addN_new hh'.out]; exact o7, B7⟩
    · obtain rfl : k = L := by have := hK.out; omega
      have hR : Aside (prt V n (dedup T k) (min n 8 + 1) = prt V n ts (min n 8 + 1)) := by simp only [Aside]; rw [hD.out]
      have hts : ts.length ≤ 1000 := by omega
      clear hS hD hlen
      go_wp2_with fail
      go_loopg [5, 6, 8, 12, 13] (min n 8 + 1) (fun g sa sn sk sp sq ws => ∃ (k : Nat) (ada : Option Addr) (capa : Nat) (adn : Option Addr) (capn : Nat), k + g = min n 8 + 1 ∧ sk = .int .i64 (k : Int) ∧ sa = .slice ada (prt V n ts k).1.length capa ∧ sn = .slice adn (prt V n ts k).2.length capn ∧ Own ws w.heap.size ada (prt V n ts k).1 capa ∧ Own ws w.heap.size adn (prt V n ts k).2 capn ∧ Apart ada adn ∧ Below w.heap.size w ws ∧ Old ws sp ∧ Old ws sq)
      case atStart => exact ⟨0, none, 0, ad, cap, by omega, rfl, rfl, rfl, Own.nil _ _, hO, (Apart.nil ad).symm, hB, old_undef _, old_undef _⟩
      case round =>
        clear hB hO hA
        obtain ⟨k', ada, capa, adn, capn, hk, rfl, rfl, rfl, hOa, hOn, hap, hB, hp12, hp13⟩ := hrel
        have hK2 : Aside (k' + gk = min n 8 + 1) := hk
        clear hk
        by_cases hk9 : k' ≤ min n 8
        · have hsm := prt_small V n ts hts k' (by omega)
          obtain ⟨a0, ha0⟩ : ∃ a0, (prt V n ts k').1 = a0 := ⟨_, rfl⟩
          obtain ⟨us, hus⟩ : ∃ us, (prt V n ts k').2 = us := ⟨_, rfl⟩
          have hP : Aside (prt V n ts (k' + 1) = (lvA a0 us us.length, lvX (decide (k' = n) || decide (k' = 8)) (V k') us us.length)) := by simp only [Aside]; rw [prt, ha0, hus]
          rw [ha0] at hOa hsm
          rw [hus] at hOn hsm
          rw [ha0, hus]
          clear ha0 hus
          obtain ⟨last, hlast⟩ : ∃ last, (decide (k' = n) || decide (k' = 8)) = last := ⟨_, rfl⟩
          simp only [Aside] at hP
          rw [hlast] at hP
          have hP' : Aside (prt V n ts (k' + 1) = (lvA a0 us us.length, lvX last (V k') us us.length)) := hP
          have hLast : Aside ((decide (k' = n) || decide (k' = 8)) = last) := hlast
          clear hP hlast
          have q1 : (k' : Int) ≤ (n : Int) := by omega
          have q2 : (k' : Int) ≤ 8 := by omega
          have q3 : k' ≤ n := by omega
          have q4 : k' ≤ 8 := by omega
          go_wp2_with fail
          go_loopg [5, 9, 10, 12, 13] us.length (fun g sa sx si sp sq ws => ∃ (i : Nat) (ada : Option Addr) (capa : Nat) (adx : Option Addr) (capx : Nat), i + g = us.length ∧ si = .int .i64 (i : Int) ∧ sa = .slice ada (lvA a0 us i).length capa ∧ sx = .slice adx (lvX last (V k') us i).length capx ∧ Own ws w.heap.size ada (lvA a0 us i) capa ∧ Own ws w.heap.size adx (lvX last (V k') us i) capx ∧ Own ws w.heap.size adn us capn ∧ Apart ada adn ∧ Apart adx adn ∧ Apart ada adx ∧ Below w.heap.size w ws ∧ Old ws sp ∧ Old ws sq)
          case atStart => exact ⟨0, ada, capa, none, 0, by omega, rfl, rfl, rfl, hOa, Own.nil _ _, hOn, hap, (Apart.nil adn).symm, Apart.nil ada, hB, hp12, hp13⟩
          case round =>
            clear hOa hOn hap hB hp12 hp13
            obtain ⟨i, ada, capa, adx, capx, hi, rfl, rfl, rfl, hOa, hOx, hOn, hap, hxp, hax, hB, hp12, hp13⟩ := hrel
            have hI : Aside (i + gk = us.length) := hi
            clear hi
            by_cases hi9 : i < us.length
            · have hi9' : (i : Int) < (us.length : Int) := by omega
              have hA' := hOn.tabs
              obtain ⟨b, off, hadn, hb⟩ := hA'.some (by omega)
              subst hadn
              obtain ⟨d0, d1, d2, d3⟩ := hA'.get hi9
              have hla := lvA_le a0 us i
              have hlx := lvX_le last (V k') us i
              obtain ⟨F, hF⟩ : ∃ F, us.getD i (fun _ => false) = F := ⟨_, rfl⟩
              rw [hF] at d0 d1 d2 d3
              have sA : Aside (lvA a0 us (i + 1) = allStep (lvA a0 us i) F) := by simp only [Aside]; rw [lvA, hF]
              have sX : Aside (lvX last (V k') us (i + 1) = nextStep last (V k') (lvX last (V k') us i) F) := by simp only [Aside]; rw [lvX, hF]
              clear hF hA'
              generalize lvA a0 us i = al at hOa hla sA ⊢
              generalize lvX last (V k') us i = xs at hOx hlx sX ⊢
              go_upto_region 15 with fail
              have B5 := hB.alloc hB.size (.cells #[.int .u64 (word F 0 : Int), .int .u64 (word F 1 : Int), .int .u64 (word F 2 : Int), .int .u64 (word F 3 : Int)] 46)
              have T5 := IsTab.new wr F
              have Oa5 := hOa.new (.cells #[.int .u64 (word F 0 : Int), .int .u64 (word F 1 : Int), .int .u64 (word F 2 : Int), .int .u64 (word F 3 : Int)] 46)
              have Ox5 := hOx.new (.cells #[.int .u64 (word F 0 : Int), .int .u64 (word F 1 : Int), .int .u64 (word F 2 : Int), .int .u64 (word F 3 : Int)] 46)
              have On5 := hOn.new (.cells #[.int .u64 (word F 0 : Int), .int .u64 (word F 1 : Int), .int .u64 (word F 2 : Int), .int .u64 (word F 3 : Int)] 46)
              have fa : blockOf ada ≠ some wr.heap.size := fun e => by have := (hOa.blockGe _ e).2; omega
              have fx : blockOf adx ≠ some wr.heap.size := fun e => by have := (hOx.blockGe _ e).2; omega
              clear hOa hOx hOn hB d0 d1 d2 d3
              generalize wr.alloc (.cells #[.int .u64 (word F 0 : Int), .int .u64 (word F 1 : Int), .int .u64 (word F 2 : Int), .int .u64 (word F 3 : Int)] 46) = w5 at B5 T5 Oa5 Ox5 On5 ⊢
              unfold Old at hp12 hp13
              generalize wr.heap.size = fb at T5 fa fx hp12 hp13 ⊢
              go_cut [67] (fun s wc => s = .bool (!(isC F || hasUpto (fun i => al.getD i fun _ => false) F al.length)) ∧ Below w5.heap.size w5 wc)
              case first =>
                refine wp_region_vals (fun u => Below w5.heap.size w5 u) [(54, tab F), (55, tab (fun _ => false)), (56, .bool (!same F (fun _ => false))), (57, .bool (!same F (fun _ => false))), (58, gval (!same F (fun _ => false)) true (tab F)), (59, gval (!same F (fun _ => false)) true (tab (fun _ => true))), (60, gval (!same F (fun _ => false)) true (.bool (!same F (fun _ => true)))), (61, .bool ((!same F (fun _ => false)) && (!same F (fun _ => true)))), (62, .bool ((!same F (fun _ => false)) && (!same F (fun _ => true)))), (63, gval ((!same F (fun _ => false)) && (!same F (fun _ => true))) true (.slice ada al.length capa)), (64, gval ((!same F (fun _ => false)) && (!same F (fun _ => true))) true (tab F)), (65, gval ((!same F (fun _ => false)) && (!same F (fun _ => true))) true (.bool (hasUpto (fun i => al.getD i fun _ => false) F al.length))), (66, gval ((!same F (fun _ => false)) && (!same F (fun _ => true))) true (.bool (!(hasUpto (fun i => al.getD i fun _ => false) F al.length)))), (67, .bool (((!same F (fun _ => false)) && (!same F (fun _ => true))) && (!(hasUpto (fun i => al.getD i fun _ => false) F al.length))))] [54, 55, 56, 57, 58, 59, 60, 61, 62, 63, 64, 65, 66, 67] 110 (by kernel_rfl) (by kernel_rfl) rfl rfl (by decide) rfl rfl (Below.refl _ _).drew ?_ ?_
                · intro i kk hk
                  match i, hk with
                  | 0, hk => obtain rfl := Option.some.inj hk; exact vok_plain _ rfl rfl rfl (does_val rfl fun ac u hG hL => x_load rfl ((hG.other 11 (by decide)).trans rfl) (run_load24 (T5.kept hG.here)))
                  | 1, hk => obtain rfl := Option.some.inj hk; exact vok_plain _ rfl rfl rfl (does_call #[.bool false] rfl (fun ac u hG hL => x_call rfl (by have e0 : ac.eval (.const (Value.bool false)) = .bool false := rfl; simp only [List.map_toArray, List.map_cons, List.map_nil, e0]) (fun u => call11 _ u)) (callS fun u _ => const_any false u))
                  | 2, hk => obtain rfl := Option.some.inj hk; exact vok_plain _ rfl rfl rfl (does_val rfl fun ac u hG hL => x_bin rfl (hL ⟨0, .data⟩ (by simp) rfl _ rfl) (hL ⟨1, .data⟩ (by simp) rfl _ rfl) (guard_ne _ _ _ _ _) (run_neT F (fun _ => false) u))
                  | 3, hk => obtain rfl := Option.some.inj hk; exact vok_plain _ rfl rfl rfl (does_val rfl fun ac u hG hL => x_move rfl (hL ⟨2, .data⟩ (by simp) rfl _ rfl))
                  | 4, hk => obtain rfl := Option.some.inj hk; exact vok_maybe _ rfl rfl 3 true 57 (!same F (fun _ => false)) rfl ⟨⟨3, .guard⟩, by simp, rfl, rfl⟩ rfl (fun h => gval_neg h) (fun hg => does_if hg (does_val rfl fun ac u hG hL => x_load rfl ((hG.other 11 (by decide)).trans rfl) (run_load24 (T5.kept hG.here))))
                  | 5, hk => obtain rfl := Option.some.inj hk; exact vok_maybe _ rfl rfl 3 true 57 (!same F (fun _ => false)) rfl ⟨⟨3, .chain⟩, by simp, rfl, rfl⟩ rfl (fun h => gval_neg h) (fun hg => does_if hg (does_call #[.bool true] rfl (fun ac u hG hL => x_call rfl (by have e0 : ac.eval (.const (Value.bool true)) = .bool true := rfl; simp only [List.map_toArray, List.map_cons, List.map_nil, e0]) (fun u => call11 _ u)) (callS fun u _ => const_any true u)))
                  | 6, hk => obtain rfl := Option.some.inj hk; exact vok_maybe _ rfl rfl 3 true 57 (!same F (fun _ => false)) rfl ⟨⟨3, .guard⟩, by simp, rfl, rfl⟩ rfl (fun h => gval_neg h) (fun hg => does_if hg (does_val rfl fun ac u hG hL => x_bin rfl ((hL ⟨4, .data⟩ (by simp) rfl _ rfl).trans (gval_pos hg)) ((hL ⟨5, .data⟩ (by simp) rfl _ rfl).trans (gval_pos hg)) (guard_ne _ _ _ _ _) (run_neT F (fun _ => true) u)))
                  | 7, hk => obtain rfl := Option.some.inj hk; exact vok_plain _ rfl rfl rfl (does_val rfl fun ac u hG hL => x_pick (b := (!same F (fun _ => false))) rfl (hL ⟨3, .data⟩ (by simp) rfl _ rfl) (pick_and (hL ⟨6, .data⟩ (by simp) rfl _ rfl) rfl))
                  | 8, hk => obtain rfl := Option.some.inj hk; exact vok_plain _ rfl rfl rfl (does_val rfl fun ac u hG hL => x_move rfl (hL ⟨7, .data⟩ (by simp) rfl _ rfl))
                  | 9, hk => obtain rfl := Option.some.inj hk; exact vok_maybe _ rfl rfl 8 true 62 ((!same F (fun _ => false)) && (!same F (fun _ => true))) rfl ⟨⟨8, .guard⟩, by simp, rfl, rfl⟩ rfl (fun h => gval_neg h) (fun hg => does_if hg (does_val rfl fun ac u hG hL => x_move rfl ((hG.other 5 (by decide)).trans rfl)))
                  | 10, hk => obtain rfl := Option.some.inj hk; exact vok_maybe _ rfl rfl 8 true 62 ((!same F (fun _ => false)) && (!same F (fun _ => true))) rfl ⟨⟨8, .guard⟩, by simp, rfl, rfl⟩ rfl (fun h => gval_neg h) (fun hg => does_if hg (does_val rfl fun ac u hG hL => x_load rfl ((hG.other 11 (by decide)).trans rfl) (run_load24 (T5.kept hG.here))))
                  | 11, hk => obtain rfl := Option.some.inj hk; exact vok_maybe _ rfl rfl 8 true 62 ((!same F (fun _ => false)) && (!same F (fun _ => true))) rfl ⟨⟨8, .chain⟩, by simp, rfl, rfl⟩ rfl (fun h => gval_neg h) (fun hg => does_if hg (does_call #[.slice ada al.length capa, tab F] rfl (fun ac u hG hL => x_call rfl (by have e0 : ac.eval (.tmp 63) = .slice ada al.length capa := ((hL ⟨9, .data⟩ (by simp) rfl _ rfl).trans (gval_pos hg)); have e1 : ac.eval (.tmp 64) = tab F := ((hL ⟨10, .data⟩ (by simp) rfl _ rfl).trans (gval_pos hg)); simp only [List.map_toArray, List.map_cons, List.map_nil, e0, e1]) (fun u => call56 _ u)) (callS fun u s => in_any ada al.length capa (fun i => al.getD i fun _ => false) F (by omega) u (Own.tabs (Oa5.below s)))))
                  | 12, hk => obtain rfl := Option.some.inj hk; exact vok_maybe _ rfl rfl 8 true 62 ((!same F (fun _ => false)) && (!same F (fun _ => true))) rfl ⟨⟨8, .guard⟩, by simp, rfl, rfl⟩ rfl (fun h => gval_neg h) (fun hg => does_if hg (does_val rfl fun ac u hG hL => x_un rfl ((hL ⟨11, .data⟩ (by simp) rfl _ rfl).trans (gval_pos hg)) (run_notB _ u)))
                  | 13, hk => obtain rfl := Option.some.inj hk; exact vok_plain _ rfl rfl rfl (does_val rfl fun ac u hG hL => x_pick (b := ((!same F (fun _ => false)) && (!same F (fun _ => true)))) rfl (hL ⟨8, .data⟩ (by simp) rfl _ rfl) (pick_and (hL ⟨12, .data⟩ (by simp) rfl _ rfl) rfl))
                  | i + 14, hk => simp at hk
                · intro wz bz
                  simp only [vfin, Act.put, List.setIfInBounds_toArray, List.set_cons_succ, List.set_cons_zero]
                  go_wp2_with fail
                  go_meet
                  exact ⟨by unfold isC; generalize same F (fun _ => false) = s0; generalize same F (fun _ => true) = s1; generalize hasUpto (fun i => al.getD i fun _ => false) F al.length = s2; cases s0 <;> cases s1 <;> cases s2 <;> rfl, bz⟩
              case rest =>
                obtain ⟨rfl, hbc⟩ := hcut
                have Bc := below_far B5 hbc
                have Tc := T5.kept hbc
                have Oac := Oa5.below hbc
                have Oxc := Ox5.below hbc
                have Onc := On5.below hbc
                clear B5 T5 Oa5 Ox5 On5 hbc
                have Bcs := Bc.size
                -- the list of all
                obtain ⟨h0, hh0⟩ : ∃ h0, (isC F || hasUpto (fun i => al.getD i fun _ => false) F al.length) = h0 := ⟨_, rfl⟩
                rw [hh0]
                obtain ⟨t0, t1, t2, t3⟩ := Tc.copy
                go_upto_if 67 with fail
                go_cut [5] (fun s wd => ∃ ad' cap', s = .slice ad' (allStep al F).length cap' ∧ Own wd w.heap.size ad' (allStep al F) cap' ∧ Own wd w.heap.size adx xs capx ∧ Own wd w.heap.size (some ⟨b, off, none⟩) us capn ∧ Apart ad' (some ⟨b, off, none⟩) ∧ Apart ad' adx ∧ blockOf ad' ≠ some fb ∧ IsTab wd fb F ∧ Below w.heap.size w wd)
                case first =>
                  cases h0 with
                  | true =>
                    have hE : allStep al F = al := by
                      unfold allStep
                      by_cases hc : isC F = true
                      · rw [if_pos hc]
                      · rw [if_neg hc]
                        have : isC F = false := by simpa using hc
                        rw [this, Bool.false_or] at hh0
                        exact addN_skip hh0
                    have hE' : Aside (allStep al F = al) := hE
                    clear hE hh0
                    go_wp2_with fail
                    go_meet
                    rw [hE'.out]
                    exact ⟨ada, capa, rfl, Oac, Oxc, Onc, hap, hax, fa, Tc, Bc⟩
                  | false =>
                    have hE : allStep al F = al ++ [F] := by
                      have hc : isC F = false := by revert hh0; cases isC F <;> simp
                      rw [hc, Bool.false_or] at hh0
                      unfold allStep
                      rw [hc]
                      exact addN_new hh0
                    have hE' : Aside (allStep al F = al ++ [F]) := hE
                    clear hE hh0
                    go_wp2_with (first
                      | (at_builtin; refine append_tab (Oac.new _) F wc.heap.size (IsTab.new wc F) (by omega) (by simp; omega) rfl _ _ rfl rfl rfl ?_; intro g cap' w7 o7 g7 at7 lt7))
                    go_meet
                    rw [hE'.out]
                    exact ⟨some ⟨g, 0, none⟩, cap', by simp, o7, (Oxc.new _).aside hax g7, (Onc.new _).aside hap g7, hap.after (Onc.new _) at7, hax.after (Oxc.new _) at7, block_after fa (Tc.alloc _).lt at7, (Tc.alloc _).aside fa g7, (Bc.alloc Bcs _).grown g7 (by simp; omega) (fun k hk => (Oac.blockGe k hk).1)⟩
                case rest =>
                  clear Oac Oxc Onc Tc Bc Bcs t0 t1 t2 t3 hap hax fa hh0
                  obtain ⟨ad', cap', rfl, Oa, Ox, On, hap, hax, fa, Tf, Bd⟩ := hcut
                  have hal : (allStep al F).length ≤ al.length + 1 := by
                    unfold allStep
                    split
                    · omega
                    · exact addN_le al F
                  generalize allStep al F = bl at Oa sA hal ⊢
                  obtain ⟨t0, t1, t2, t3⟩ := Tf.copy
                  have Bds := Bd.size
                  cases last with
                  | true =>
                    have sX' : Aside (lvX true (V k') us (i + 1) = xs) := by simp only [Aside]; rw [sX.out]; rfl
                    clear sX
                    have hx : k' = n ∨ (¬ k' = n ∧ k' = 8) := by
                      have := hLast.out
                      simp at this
                      omega
                    rcases hx with hx | ⟨hx, hx8⟩
                    · have g1 : ((k' : Int) == (n : Int)) = true := by simp [hx]
                      clear hx
                      go_wp2_with fail
                      go_roundg (gk - 1)
                      case measure => have := hI.out; omega
                      case rel =>
                        have := hI.out
                        exact ⟨i + 1, ad', cap', adx, capx, by omega, rfl, by rw [sA.out], by rw [sX'.out], by rw [sA.out]; exact Oa, by rw [sX'.out]; exact Ox, On, hap, hxp, hax, Bd, old_lt hp12 Tf, old_lt hp13 Tf⟩
                    · have g1 : ((k' : Int) == (n : Int)) = false := by simp; omega
                      have g2 : ((k' : Int) == 8) = true := by simp; omega
                      clear hx hx8
                      go_wp2_with fail
                      go_roundg (gk - 1)
                      case measure => have := hI.out; omega
                      case rel =>
                        have := hI.out
                        exact ⟨i + 1, ad', cap', adx, capx, by omega, rfl, by rw [sA.out], by rw [sX'.out], by rw [sA.out]; exact Oa, by rw [sX'.out]; exact Ox, On, hap, hxp, hax, Bd, old_lt hp12 Tf, old_lt hp13 Tf⟩
                  | false =>
                    have hx : ¬ k' = n ∧ ¬ k' = 8 := by
                      have := hLast.out
                      simp at this
                      omega
                    have g1 : ((k' : Int) == (n : Int)) = false := by simp; omega
                    have g2 : ((k' : Int) == 8) = false := by simp; omega
                    have kn : (k' : Int) < (n : Int) := by omega
                    have kn' : k' < n := by omega
                    have hV := hv.kept Bd
                    obtain ⟨bv, ov, hadv, hbv⟩ := hV.some (by omega)
                    subst hadv
                    have cv := hV.get kn'
                    go_wp2_with fail
                    refine wp_region_tabs' [.val 80 (tab F), .val 81 (.slice (some ⟨bv, ov, none⟩) n capv), .val 82 (.int .i64 (k' : Int)), .val 83 (.pointer (some ⟨bv, ov + k', none⟩)), .val 84 (.int .i64 (V k')), .val 85 (tab (fixI F (V k') false)), .val 86 (tab F), .val 87 (.slice (some ⟨bv, ov, none⟩) n capv), .val 88 (.int .i64 (k' : Int)), .val 89 (.pointer (some ⟨bv, ov + k', none⟩)), .val 90 (.int .i64 (V k')), .val 91 (tab (fixI F (V k') true)), .new 12, .new 13, .put 12 (fixI F (V k') false), .put 13 (fixI F (V k') true)] [80, 81, 82, 83, 84, 85, 86, 87, 88, 89, 90, 91, 12, 13] [12, 13] [12, 13] 110 (by kernel_rfl) (by kernel_rfl) rfl rfl rfl rfl (by decide) (by decide) rfl rfl ?_ ?_ ?_
                    · intro s hs c hc
                      have hlt := Tf.lt
                      simp only [List.mem_cons, List.not_mem_nil, or_false] at hs
                      rcases hs with rfl | rfl
                      · have := hp12 c hc; omega
                      · have := hp13 c hc; omega
                    · intro i kk hk
                      match i, hk with
                      | 0, hk => obtain rfl := Option.some.inj hk; exact ⟨_, rfl, rfl, rfl, fun a u hG hpre K hK => wp_load (b := fb) rfl rfl ((hG.other 11 (by decide)).trans rfl) (Tf.kept hG.below) hK⟩
                      | 1, hk => obtain rfl := Option.some.inj hk; exact ⟨_, rfl, rfl, rfl, fun a u hG hpre K hK => wp_move rfl rfl ((hG.other 1 (by decide)).trans rfl) hK⟩
                      | 2, hk => obtain rfl := Option.some.inj hk; exact ⟨_, rfl, rfl, rfl, fun a u hG hpre K hK => wp_move rfl rfl ((hG.other 8 (by decide)).trans rfl) hK⟩
                      | 3, hk => obtain rfl := Option.some.inj hk; exact ⟨_, rfl, rfl, rfl, fun ac u hG hpre K hK => wp_val rfl (x_index rfl (hpre ⟨1, .data⟩ (by simp) rfl _ rfl) (hpre ⟨2, .data⟩ (by simp) rfl _ rfl) (run_idx38 bv ov k' n capv kn' u)) (hK u (Below.refl _ _))⟩
                      | 4, hk => obtain rfl := Option.some.inj hk; exact ⟨_, rfl, rfl, rfl, fun ac u hG hpre K hK => wp_val rfl (x_load rfl (hpre ⟨3, .data⟩ (by simp) rfl _ rfl) (run_load3 ((hV.kept hG.below).get kn'))) (hK u (Below.refl _ _))⟩
                      | 5, hk =>
                        obtain rfl := Option.some.inj hk
                        refine ⟨_, rfl, rfl, rfl, fun ac u hG hpre K hK => ?_⟩
                        have e0 : ac.eval (.tmp 80) = tab F := hpre ⟨0, .data⟩ (by simp) rfl _ rfl
                        have e1 : ac.eval (.tmp 84) = .int .i64 (V k') := hpre ⟨4, .data⟩ (by simp) rfl _ rfl
                        have e2 : ac.eval (.const (.bool false)) = .bool false := rfl
                        exact wp_call rfl (run_call rfl #[tab F, .int .i64 (V k'), .bool false] (fun vs => call27 vs u) (by simp only [List.map_toArray, List.map_cons, List.map_nil, e0, e1, e2])) (fix_int F (V k') false u) hK
                      | 6, hk => obtain rfl := Option.some.inj hk; exact ⟨_, rfl, rfl, rfl, fun a u hG hpre K hK => wp_load (b := fb) rfl rfl ((hG.other 11 (by decide)).trans rfl) (Tf.kept hG.below) hK⟩
                      | 7, hk => obtain rfl := Option.some.inj hk; exact ⟨_, rfl, rfl, rfl, fun a u hG hpre K hK => wp_move rfl rfl ((hG.other 1 (by decide)).trans rfl) hK⟩
                      | 8, hk => obtain rfl := Option.some.inj hk; exact ⟨_, rfl, rfl, rfl, fun a u hG hpre K hK => wp_move rfl rfl ((hG.other 8 (by decide)).trans rfl) hK⟩
                      | 9, hk => obtain rfl := Option.some.inj hk; exact ⟨_, rfl, rfl, rfl, fun ac u hG hpre K hK => wp_val rfl (x_index rfl (hpre ⟨7, .data⟩ (by simp) rfl _ rfl) (hpre ⟨8, .data⟩ (by simp) rfl _ rfl) (run_idx38 bv ov k' n capv kn' u)) (hK u (Below.refl _ _))⟩
                      | 10, hk => obtain rfl := Option.some.inj hk; exact ⟨_, rfl, rfl, rfl, fun ac u hG hpre K hK => wp_val rfl (x_load rfl (hpre ⟨9, .data⟩ (by simp) rfl _ rfl) (run_load3 ((hV.kept hG.below).get kn'))) (hK u (Below.refl _ _))⟩
                      | 11, hk =>
                        obtain rfl := Option.some.inj hk
                        refine ⟨_, rfl, rfl, rfl, fun ac u hG hpre K hK => ?_⟩
                        have e0 : ac.eval (.tmp 86) = tab F := hpre ⟨6, .data⟩ (by simp) rfl _ rfl
                        have e1 : ac.eval (.tmp 90) = .int .i64 (V k') := hpre ⟨10, .data⟩ (by simp) rfl _ rfl
                        have e2 : ac.eval (.const (.bool true)) = .bool true := rfl
                        exact wp_call rfl (run_call rfl #[tab F, .int .i64 (V k'), .bool true] (fun vs => call27 vs u) (by simp only [List.map_toArray, List.map_cons, List.map_nil, e0, e1, e2])) (fix_int F (V k') true u) hK
                      | 12, hk => obtain rfl := Option.some.inj hk; exact ⟨_, rfl, rfl, rfl, rfl⟩
                      | 13, hk => obtain rfl := Option.some.inj hk; exact ⟨_, rfl, rfl, rfl, rfl⟩
                      | 14, hk => obtain rfl := Option.some.inj hk; exact ⟨_, rfl, rfl, rfl, 85, rfl, ⟨⟨5, .data⟩, by simp, rfl, rfl⟩, ⟨⟨12, .data⟩, by simp, rfl, rfl⟩⟩
                      | 15, hk => obtain rfl := Option.some.inj hk; exact ⟨_, rfl, rfl, rfl, 91, rfl, ⟨⟨11, .data⟩, by simp, rfl, rfl⟩, ⟨⟨13, .data⟩, by simp, rfl, rfl⟩⟩
                      | i + 16, hk => simp at hk
                    · intro bp we hbe hnew hne hput
                      have TA := hput 12 (fixI F (V k') false) (by simp)
                      have TB := hput 13 (fixI F (V k') true) (by simp)
                      have nA := hnew 12 (by simp)
                      have nB := hnew 13 (by simp)
                      clear hput hnew hne
                      simp only [fin, Kind.dst?, kval, Act.put, ptr, List.setIfInBounds_toArray, List.set_cons_succ, List.set_cons_zero]
                      generalize bp 12 = pa at TA nA ⊢
                      generalize bp 13 = pb at TB nB ⊢
                      have Oae := Oa.below hbe
                      have Oxe := Ox.below hbe
                      have One := On.below hbe
                      have Be := below_far Bd hbe
                      have fpa : blockOf adx ≠ some pa := fun e => by have := (Ox.blockGe _ e).2; have := nA.1; omega
                      have fpb : blockOf adx ≠ some pb := fun e => by have := (Ox.blockGe _ e).2; have := nB.1; omega
                      have sX' : Aside (lvX false (V k') us (i + 1) = addN (addN xs (fixI F (V k') false)) (fixI F (V k') true)) := sX.out
                      have hxs : xs.length ≤ 512000 := by omega
                      clear sX hbe Oa Ox On Tf Bd Bds t0 t1 t2 t3 cv hV fa fx hp12 hp13 hbv nA nB
                      generalize (fixI F (V k') false) = A at TA sX' ⊢
                      generalize (fixI F (V k') true) = B at TB sX' ⊢
                      go_upto_region 19 with fail
                      refine wp_region_valsq (fun u => Below we.heap.size we u) [(92, .slice adx xs.length capx), (93, tab A), (94, .bool (hasUpto (fun i => xs.getD i fun _ => false) A xs.length)), (95, .bool (!(hasUpto (fun i => xs.getD i fun _ => false) A xs.length)))] [92, 93, 94, 95] 110 (by kernel_rfl) rfl rfl (by decide) rfl rfl (Below.refl _ _) ?_ ?_
                      · intro i kk hk
                        match i, hk with
                        | 0, hk => obtain rfl := Option.some.inj hk; exact vok_plain _ rfl rfl rfl (does_val rfl fun ac u hG hL => x_move rfl ((hG.other 9 (by decide)).trans rfl))
                        | 1, hk => obtain rfl := Option.some.inj hk; exact vok_plain _ rfl rfl rfl (does_val rfl fun ac u hG hL => x_load rfl ((hG.other 12 (by decide)).trans rfl) (run_load24 (TA.kept hG.here)))
                        | 2, hk => obtain rfl := Option.some.inj hk; exact vok_plain _ rfl rfl rfl (does_call #[.slice adx xs.length capx, tab A] rfl (fun ac u hG hL => x_call rfl (by have e0 : ac.eval (.tmp 92) = .slice adx xs.length capx := (hL ⟨0, .data⟩ (by simp) rfl _ rfl); have e1 : ac.eval (.tmp 93) = tab A := (hL ⟨1, .data⟩ (by simp) rfl _ rfl); simp only [List.map_toArray, List.map_cons, List.map_nil, e0, e1]) (fun u => call56 _ u)) (callS fun u s => in_any adx xs.length capx (fun i => xs.getD i fun _ => false) A (by omega) u (Own.tabs (Oxe.below s))))
                        | 3, hk => obtain rfl := Option.some.inj hk; exact vok_plain _ rfl rfl rfl (does_val rfl fun ac u hG hL => x_un rfl (hL ⟨2, .data⟩ (by simp) rfl _ rfl) (run_notB _ u))
                        | i + 4, hk => simp at hk
                      · intro wf bf
                        simp only [vfin, Act.put, List.setIfInBounds_toArray, List.set_cons_succ, List.set_cons_zero]
                        have Oaf := Oae.below bf
                        have Oxf := Oxe.below bf
                        have Onf := One.below bf
                        have Bf := below_far Be bf
                        have Bfs := Bf.size
                        have TAf := TA.kept bf
                        have TBf := TB.kept bf
                        clear Oae Oxe One Be TA TB bf
                        obtain ⟨h1, hh1⟩ : ∃ h1, hasUpto (fun i => xs.getD i fun _ => false) A xs.length = h1 := ⟨_, rfl⟩
                        rw [hh1]
                        have HH : Aside (hasUpto (fun i => xs.getD i fun _ => false) A xs.length = h1) := hh1
                        clear hh1
                        obtain ⟨t0, t1, t2, t3⟩ := TAf.copy
                        go_upto_if 95 with fail
                        go_cut [9] (fun s wd => ∃ ady capy, s = .slice ady (addN xs A).length capy ∧ Own wd w.heap.size ady (addN xs A) capy ∧ Own wd w.heap.size ad' bl cap' ∧ Own wd w.heap.size (some ⟨b, off, none⟩) us capn ∧ Apart ady (some ⟨b, off, none⟩) ∧ Apart ad' ady ∧ blockOf ady ≠ some pb ∧ IsTab wd pa A ∧ IsTab wd pb B ∧ Below w.heap.size w wd)
                        case first =>
                          cases h1 with
                          | true =>
                            have hE' : Aside (addN xs A = xs) := addN_skip HH.out
                            go_wp2_with fail
                            go_meet
                            rw [hE'.out]
                            exact ⟨adx, capx, rfl, Oxf, Oaf, Onf, hxp, hax, fpb, TAf, TBf, Bf⟩
                          | false =>
                            have hE' : Aside (addN xs A = xs ++ [A]) := addN_new HH.out
                            go_wp2_with (first
                              | (at_builtin; refine append_tab (Oxf.new _) A wf.heap.size (IsTab.new wf A) (by omega) (by simp; omega) rfl _ _ rfl rfl rfl ?_; intro g cap2 w7 o7 g7 at7 lt7))
                            go_meet
                            rw [hE'.out]
                            exact ⟨some ⟨g, 0, none⟩, cap2, by simp, o7, (Oaf.new _).aside hax.symm g7, (Onf.new _).aside hxp g7, hxp.after (Onf.new _) at7, (hax.symm.after (Oaf.new _) at7).symm, block_after fpb (TBf.alloc _).lt at7, (TAf.alloc _).aside fpa g7, (TBf.alloc _).aside fpb g7, (Bf.alloc Bfs _).grown g7 (by simp; omega) (fun k hk => (Oxf.blockGe k hk).1)⟩
                        case rest =>
                          clear Oaf Oxf Onf Bf Bfs TAf TBf t0 t1 t2 t3 fpa fpb HH hax hxp
                          obtain ⟨ady, capy, rfl, Oyd, Oad, Ond, hyp, hay, fpb, TAd, TBd, Bd⟩ := hcut
                          have hyl := addN_le xs A
                          generalize addN xs A = ys at Oyd sX' hyl ⊢
                          go_upto_region 21 with fail
                          refine wp_region_valsq (fun u => Below wc.heap.size wc u) [(100, .slice ady ys.length capy), (101, tab B), (102, .bool (hasUpto (fun i => ys.getD i fun _ => false) B ys.length)), (103, .bool (!(hasUpto (fun i => ys.getD i fun _ => false) B ys.length)))] [100, 101, 102, 103] 110 (by kernel_rfl) rfl rfl (by decide) rfl rfl (Below.refl _ _) ?_ ?_
                          · intro i kk hk
                            match i, hk with
                        | 0, hk => obtain rfl := Option.some.inj hk; exact vok_plain _ rfl rfl rfl (does_val rfl fun ac u hG hL => x_move rfl ((hG.other 9 (by decide)).trans rfl))
                        | 1, hk => obtain rfl := Option.some.inj hk; exact vok_plain _ rfl rfl rfl (does_val rfl fun ac u hG hL => x_load rfl ((hG.other 13 (by decide)).trans rfl) (run_load24 (TBd.kept hG.here)))
                        | 2, hk => obtain rfl := Option.some.inj hk; exact vok_plain _ rfl rfl rfl (does_call #[.slice ady ys.length capy, tab B] rfl (fun ac u hG hL => x_call rfl (by have e0 : ac.eval (.tmp 100) = .slice ady ys.length capy := (hL ⟨0, .data⟩ (by simp) rfl _ rfl); have e1 : ac.eval (.tmp 101) = tab B := (hL ⟨1, .data⟩ (by simp) rfl _ rfl); simp only [List.map_toArray, List.map_cons, List.map_nil, e0, e1]) (fun u => call56 _ u)) (callS fun u s => in_any ady ys.length capy (fun i => ys.getD i fun _ => false) B (by omega) u (Own.tabs (Oyd.below s))))
                        | 3, hk => obtain rfl := Option.some.inj hk; exact vok_plain _ rfl rfl rfl (does_val rfl fun ac u hG hL => x_un rfl (hL ⟨2, .data⟩ (by simp) rfl _ rfl) (run_notB _ u))
                        | i + 4, hk => simp at hk
                          · intro wf bf
                            simp only [vfin, Act.put, List.setIfInBounds_toArray, List.set_cons_succ, List.set_cons_zero]
                            have Oaf := Oad.below bf
                            have Oyf := Oyd.below bf
                            have Onf := Ond.below bf
                            have Bf := below_far Bd bf
                            have Bfs := Bf.size
                            have TAf := TAd.kept bf
                            have TBf := TBd.kept bf
                            clear Oad Oyd Ond Bd TAd TBd bf
                            obtain ⟨h1, hh1⟩ : ∃ h1, hasUpto (fun i => ys.getD i fun _ => false) B ys.length = h1 := ⟨_, rfl⟩
                            rw [hh1]
                            have HH : Aside (hasUpto (fun i => ys.getD i fun _ => false) B ys.length = h1) := hh1
                            clear hh1
                            obtain ⟨t0, t1, t2, t3⟩ := TBf.copy
                            cases h1 with
                            | true =>
                              have sY : Aside (lvX false (V k') us (i + 1) = ys) := sX'.out.trans (addN_skip HH.out)
                              go_wp2_with fail
                              go_roundg (gk - 1)
                              case measure => have := hI.out; omega
                              case rel =>
                                have := hI.out
                                exact ⟨i + 1, ad', cap', ady, capy, by omega, rfl, by rw [sA.out], by rw [sY.out], by rw [sA.out]; exact Oaf, by rw [sY.out]; exact Oyf, Onf, hap, hyp, hay, Bf, old_ptr TAf.lt, old_ptr TBf.lt⟩
                            | false =>
                              have sY : Aside (lvX false (V k') us (i + 1) = ys ++ [B]) := sX'.out.trans (addN_new HH.out)
                              go_wp2_with (first
                                | (at_builtin; refine append_tab (Oyf.new _) B wf.heap.size (IsTab.new wf B) (by omega) (by simp; omega) rfl _ _ rfl rfl rfl ?_; intro g cap2 w7 o7 g7 at7 lt7))
                              go_roundg (gk - 1)
                              case measure => have := hI.out; omega
                              case rel =>
                                have := hI.out
                                have fya : blockOf ady ≠ some pb := fpb
                                exact ⟨i + 1, ad', cap', some ⟨g, 0, none⟩, cap2, by omega, rfl, by rw [sA.out], by rw [sY.out]; simp, by rw [sA.out]; exact (Oaf.new _).aside hay.symm g7, by rw [sY.out]; exact o7, (Onf.new _).aside hyp g7, hap, hyp.after (Onf.new _) at7, (hay.symm.after (Oaf.new _) at7).symm, (Bf.alloc Bfs _).grown g7 (by simp; omega) (fun k hk => (Oyf.blockGe k hk).1), old_ptr (Nat.lt_of_lt_of_le (TAf.alloc _).lt g7.size), old_ptr (Nat.lt_of_lt_of_le (TBf.alloc _).lt g7.size)⟩
            · obtain rfl : i = us.length := by have := hI.out; omega
              go_wp2_with fail
              go_roundg (min n 8 - k')
              case measure => have := hK2.out; omega
              case rel =>
                have := hK2.out
                exact ⟨k' + 1, ada, capa, adx, capx, by omega, rfl, by rw [hP'.out], by rw [hP'.out], by rw [hP'.out]; exact hOa, by rw [hP'.out]; exact hOx, hax, hB, hp12, hp13⟩
        · have e9 : Aside (k' = min n 8 + 1) := by have := hK2.out; show k' = min n 8 + 1; omega
          by_cases hkn : (k' : Int) ≤ (n : Int)
          · have h9 : ¬ (k' : Int) ≤ 8 := by have := e9.out; omega
            go_wp2_with fail
            go_ret
            rw [hR.out, ← e9.out]
            exact ⟨⟨ada, capa, rfl, hOa⟩, hB⟩
          · go_wp2_with fail
            go_ret
            rw [hR.out, ← e9.out]
            exact ⟨⟨ada, capa, rfl, hOa⟩, hB⟩
end Go.Proofs.Ytdmfbfbebcneeaa.Rf
