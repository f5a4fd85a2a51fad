/-
  The library's insertion sort that gives up early, over a part of a row.
-/
import Derived.Test.YteickckgljlacaaGreatRsRev
import Derived.Deep.CutRange
namespace Go.Proofs.YteickckgljlacaaGreat.Rs
open Go Go.RowKit

theorem scan_go (D : Array Int) (b i : Nat) (h : i < b) (hl : lt D[i]! D[i - 1]! = false) : Sort.scanSorted lt D b i = Sort.scanSorted lt D b (i + 1) := by
  rw [Sort.scanSorted, if_pos]
  simp [h, hl]
theorem scan_end (D : Array Int) (b i : Nat) (h : i < b → lt D[i]! D[i - 1]! = true) : Sort.scanSorted lt D b i = i := by
  rw [Sort.scanSorted, if_neg]
  by_cases c : i < b
  · simp [h c]
  · simp [c]
theorem down_go (D : Array Int) (j : Nat) (hl : lt D[j + 1]! D[j]! = true) : Sort.shiftDown lt (j + 1) D = Sort.shiftDown lt j (Sort.swp D (j + 1) j) := by
  rw [Sort.shiftDown, if_neg (by simp [hl])]
theorem down_end (D : Array Int) (j : Nat) (hl : lt D[j + 1]! D[j]! = false) : Sort.shiftDown lt (j + 1) D = D := by
  rw [Sort.shiftDown, if_pos (by simp [hl])]
theorem up_go (D : Array Int) (b j : Nat) (h : j < b) (hl : lt D[j]! D[j - 1]! = true) : Sort.shiftUp lt b j D = Sort.shiftUp lt b (j + 1) (Sort.swp D j (j - 1)) := by
  rw [Sort.shiftUp, if_pos h, if_neg (by simp [hl])]
theorem up_end (D : Array Int) (b j : Nat) (h : j < b → lt D[j]! D[j - 1]! = false) : Sort.shiftUp lt b j D = D := by
  rw [Sort.shiftUp]
  by_cases c : j < b
  · rw [if_pos c, if_pos (by simp [h c])]
  · rw [if_neg c]

set_option maxHeartbeats 32000000 in
set_option maxRecDepth 100000 in
theorem pins_any {w0 w : World} {blk cap n : Nat} {U : Nat → Value} {d : Array Int} (h : Rw w0 blk cap U d w) (hn : d.size = n) (hsz : n < 4611686018427387904) (a b : Nat) (hab : a < b) (hb : b ≤ n) :
    Calls Tryz.prog 123 #[.slice (some ⟨blk, 0, none⟩) n cap, .int .i64 (a : Int), .int .i64 (b : Int)] w fun e w' => e = .returned (.bool (Sort.partialInsertionSort lt d a b).2) ∧ Rw w0 blk cap U (Sort.partialInsertionSort lt d a b).1 w' := by
  have hs0 : Aside (d.size = n) := hn
  have hR0 := h
  obtain ⟨R, hRd⟩ : ∃ R, R = Sort.partialInsertionSort lt d a b := ⟨_, rfl⟩
  rw [← hRd]
  have hRA : Aside (R = Sort.partialIns lt a b 5 (a + 1) d) := hRd
  clear h hn hRd
  go_enter Tryz.func123, Tryz.ntmps123
  go_wp2
  go_loopg [7, 8] 5 (fun g s1 s2 wr => ∃ (i t : Nat) (D : Array Int), s1 = .int .i64 (i : Int) ∧ s2 = .int .i64 (t : Int) ∧ t + g = 5 ∧ a < i ∧ i ≤ b ∧ Aside (D.size = n) ∧ Aside (R = Sort.partialIns lt a b g i D) ∧ Rw w0 blk cap U D wr)
  case atStart => exact ⟨a + 1, 0, d, by go_num, rfl, rfl, by omega, by omega, hs0, hRA, hR0⟩
  case round =>
    clear hR0 hRA
    obtain ⟨i, t, D, rfl, rfl, ht, hai, hib, hs, hE, hR⟩ := hrel
    cases gk with
    | zero =>
      have htz : ¬ (t : Int) < 5 := by omega
      go_wp2
      go_ret
      have e : R = (D, false) := hE.out
      rw [e]
      exact ⟨rfl, hR⟩
    | succ g =>
      have htz : (t : Int) < 5 := by omega
      have hgA : Aside (t + (g + 1) = 5) := ht
      go_wp2
      go_loopg [7] (b + 1) (fun g' s wr => ∃ (i' : Nat), s = .int .i64 (i' : Int) ∧ a < i' ∧ i' ≤ b ∧ b + 1 - i' ≤ g' ∧ Aside (Sort.scanSorted lt D b i = Sort.scanSorted lt D b i') ∧ Rw w0 blk cap U D wr)
      case atStart => exact ⟨i, rfl, hai, hib, by omega, rfl, hR⟩
      case round =>
        clear hR
        obtain ⟨x, rfl, hax, hxb, hg', hsc, hR⟩ := hrel
        obtain ⟨xm, hxm⟩ : ∃ xm : Nat, (x : Int) - 1 = (xm : Int) := ⟨x - 1, by omega⟩
        have hxA : Aside (xm = x - 1) := (by omega : xm = x - 1)
        go_upto_region 5 with fail
        go_cut [32] from 17 to 32 (fun sb w => ∃ bb : Bool, sb = .bool bb ∧ Aside (bb = true ↔ (x < b ∧ lt D[x]! D[x - 1]! = false)) ∧ Rw w0 blk cap U D w)
        case first =>
          by_cases hle : x < b
          · have hdz : (x : Int) < (b : Int) := by omega
            have hd : decide ((x : Int) < (b : Int)) = true := decide_eq_true hdz
            have bI : (x : Int) < (n : Int) := by omega
            have bJ : (xm : Int) < (n : Int) := by omega
            have cI := hR.cell (i := x) (by have := hs.out; omega)
            have cJ := hR.cell (i := xm) (by have := hs.out; omega)
            obtain ⟨vx, hvx⟩ : ∃ v, v = D[x]! := ⟨_, rfl⟩
            obtain ⟨vy, hvy⟩ : ∃ v, v = D[xm]! := ⟨_, rfl⟩
            have hvxA : Aside (vx = D[x]!) := hvx
            have hvyA : Aside (vy = D[xm]!) := hvy
            rw [← hvx] at cI
            rw [← hvy] at cJ
            have K := fun w => less_any vx vy w
            clear hvx hvy
            cases hl : lt vx vy with
            | true =>
              rw [show Sort.ltInt vx vy = true from hl] at K
              have hlA : Aside (lt D[x]! D[xm]! = true) := by rw [← hvxA.out, ← hvyA.out]; exact hl
              clear hl hvxA hvyA
              go_wp2_with fail
              go_quiet (first | (go_at_call 124; exact Calls.quiet_of_same (K _)))
              have hRq := hR.drewN nq
              generalize wr.drewN nq = wrq at hRq ⊢
              clear nq cI cJ K hR
              go_wp2_with fail
              go_meet
              case rel => exact ⟨_, rfl, (show Aside _ from ⟨fun e => (by cases e), fun e => absurd e.2 (by rw [← hxA.out, hlA.out]; simp)⟩), hRq⟩
            | false =>
              rw [show Sort.ltInt vx vy = false from hl] at K
              have hlA : Aside (lt D[x]! D[xm]! = false) := by rw [← hvxA.out, ← hvyA.out]; exact hl
              clear hl hvxA hvyA
              go_wp2_with fail
              go_quiet (first | (go_at_call 124; exact Calls.quiet_of_same (K _)))
              have hRq := hR.drewN nq
              generalize wr.drewN nq = wrq at hRq ⊢
              clear nq cI cJ K hR
              go_wp2_with fail
              go_meet
              case rel => exact ⟨_, rfl, (show Aside _ from ⟨fun _ => ⟨hle, by rw [← hxA.out]; exact hlA.out⟩, fun _ => rfl⟩), hRq⟩

          · have hdz : ¬ (x : Int) < (b : Int) := by omega
            have hd : decide ((x : Int) < (b : Int)) = false := decide_eq_false hdz
            go_wp2_with fail
            go_region
            go_wp2_with fail
            go_meet
            case rel => exact ⟨_, rfl, (show Aside _ from ⟨fun e => (by cases e), fun e => absurd e.1 hle⟩), hR.drew⟩
        case rest =>
          clear hR
          obtain ⟨bb, rfl, hbb, hR⟩ := hcut
          cases bb with
          | true =>
            have hb1 := hbb.out.1 rfl
            go_wp2
            go_roundg (b + 1 - (x + 1))
            case measure => have := hb1.1; omega
            case rel => exact ⟨x + 1, by go_num, by omega, by have := hb1.1; omega, Nat.le_refl _, (show Aside _ from by show _ = _; rw [hsc.out, scan_go D b x hb1.1 hb1.2]), hR⟩
          | false =>
            have hx : Aside (Sort.scanSorted lt D b i = x) := by
              show _ = _
              rw [hsc.out, scan_end]
              intro e
              cases hh : lt D[x]! D[x - 1]! with
              | true => rfl
              | false => exact absurd (hbb.out.2 ⟨e, hh⟩) (by simp)
            have hST : Aside (R = if x = b then (D, true) else if b - a < 50 then (D, false) else Sort.partialIns lt a b g x (Sort.fixUp lt b x (Sort.fixDown lt a x (Sort.swp D x (x - 1))))) := by
              show _ = _
              rw [hE.out, Sort.partialIns_succ, hx.out]
            clear hbb hsc hE hx hg'
            by_cases hxe : x = b
            · have hxz : (x : Int) = (b : Int) := by omega
              have e : Aside (R = (D, true)) := by have := hST.out; rw [if_pos hxe] at this; exact this
              clear hST
              go_wp2
              go_ret
              rw [e.out]
              exact ⟨rfl, hR⟩
            · have hxz : ¬ (x : Int) = (b : Int) := by omega
              by_cases h50 : b - a < 50
              · have h5z : (b : Int) - (a : Int) < 50 := by omega
                have e : Aside (R = (D, false)) := by have := hST.out; rw [if_neg hxe, if_pos h50] at this; exact this
                clear hST
                go_wp2
                go_ret
                rw [e.out]
                exact ⟨rfl, hR⟩
              · have h5z : ¬ (b : Int) - (a : Int) < 50 := by omega
                have hST : Aside (R = Sort.partialIns lt a b g x (Sort.fixUp lt b x (Sort.fixDown lt a x (Sort.swp D x xm)))) := by have := hST.out; rw [if_neg hxe, if_neg h50, ← hxA.out] at this; exact this
                have hxb' : x < b := by omega
                go_wp2_with fail
                have bI : (x : Int) < (n : Int) := by omega
                have bJ : (xm : Int) < (n : Int) := by omega
                have cI := hR.cell (i := x) (by have := hs.out; omega)
                have cJ := hR.cell (i := xm) (by have := hs.out; omega)
                have fI := hR.free x
                have fJ := hR.free xm
                have hRs := (hR.swp x xm (by have := hs.out; omega) (by have := hs.out; omega)).drew
                obtain ⟨u, cU⟩ := hR.cell2 x xm (by have := hs.out; omega) (by have := hs.out; omega) D[xm]!
                generalize D[x]! = vx at cI hRs
                generalize D[xm]! = vy at cJ cU hRs
                go_wp2_with fail
                go_region
                generalize ((wc.setCell ⟨blk, x, none⟩ (.int .u32 vy)).setCell ⟨blk, xm, none⟩ (.int .u32 vx)).drew = wcs at hRs ⊢
                clear cI cJ fI fJ cU hR
                have hs1 : Aside ((Sort.swp D x xm).size = n) := by rw [size_swp]; exact hs.out
                generalize Sort.swp D x xm = D1 at hST hs1 hRs
                clear bI bJ
                go_upto_if 61 with fail
                go_cut [] from 58 to 94 (fun w => ∃ D2 : Array Int, Aside (D2 = Sort.fixDown lt a x D1) ∧ Aside (D2.size = n) ∧ Rw w0 blk cap U D2 w)
                case first =>
                  by_cases h2 : x - a ≥ 2
                  · have h2z : (2 : Int) ≤ (x : Int) - (a : Int) := by omega
                    have hfd : Aside (Sort.fixDown lt a x D1 = Sort.shiftDown lt xm D1) := by show _ = _; rw [Sort.fixDown, if_pos h2, ← hxA.out]
                    go_wp2
                    go_loopg [9] xm (fun j s wr => ∃ (D2 : Array Int), s = .int .i64 (j : Int) ∧ j ≤ xm ∧ Aside (D2.size = n) ∧ Aside (Sort.shiftDown lt xm D1 = Sort.shiftDown lt j D2) ∧ Rw w0 blk cap U D2 wr)
                    case atStart => exact ⟨D1, rfl, Nat.le_refl _, hs1, rfl, hRs⟩
                    case round =>
                      clear hRs
                      obtain ⟨D2, rfl, hjx, hs2, hE2, hR⟩ := hrel
                      cases gk with
                      | zero =>
                        have hz : ¬ (1 : Int) ≤ ((0 : Nat) : Int) := by omega
                        go_wp2
                        go_meet
                        case rel => exact ⟨D2, (show Aside _ from by show _ = _; rw [hfd.out, hE2.out]; rfl), hs2, hR⟩
                      | succ j =>
                        have hz : (1 : Int) ≤ ((j + 1 : Nat) : Int) := by omega
                        obtain ⟨k, hk⟩ : ∃ k, k = j + 1 := ⟨_, rfl⟩
                        have hkA : Aside (k = j + 1) := hk
                        have hkz : (k : Int) - 1 = (j : Int) := by omega
                        have hkn : k < n := by omega
                        rw [← hk] at hz
                        rw [← hk]
                        clear hk
                        go_wp2_with fail
                        have bI : (k : Int) < (n : Int) := by omega
                        have bJ : (j : Int) < (n : Int) := by omega
                        have cI := hR.cell (i := k) (by have := hs2.out; omega)
                        have cJ := hR.cell (i := j) (by have := hs2.out; omega)
                        obtain ⟨vx, hvx⟩ : ∃ v, v = D2[k]! := ⟨_, rfl⟩
                        obtain ⟨vy, hvy⟩ : ∃ v, v = D2[j]! := ⟨_, rfl⟩
                        have hvxA : Aside (vx = D2[k]!) := hvx
                        have hvyA : Aside (vy = D2[j]!) := hvy
                        rw [← hvx] at cI
                        rw [← hvy] at cJ
                        have K := fun w => less_any vx vy w
                        clear hvx hvy
                        cases hl : lt vx vy with
                        | true =>
                          rw [show Sort.ltInt vx vy = true from hl] at K
                          have hlA : Aside (lt D2[k]! D2[j]! = true) := by rw [← hvxA.out, ← hvyA.out]; exact hl
                          clear hl hvxA hvyA
                          go_wp2_with fail
                          go_quiet (first | (go_at_call 124; exact Calls.quiet_of_same (K _)))
                          have hRq := hR.drewN nq
                          generalize wr.drewN nq = wrq at hRq ⊢
                          clear nq cI cJ K hR
                          go_wp2_with fail

                          have bI3 : (k : Int) < (n : Int) := by omega
                          have bJ3 : (j : Int) < (n : Int) := by omega
                          have cI3 := hRq.cell (i := k) (by have := hs2.out; omega)
                          have cJ3 := hRq.cell (i := j) (by have := hs2.out; omega)
                          have fI3 := hRq.free k
                          have fJ3 := hRq.free j
                          have hRqs := (hRq.swp k j (by have := hs2.out; omega) (by have := hs2.out; omega)).drew
                          obtain ⟨u3, cU3⟩ := hRq.cell2 k j (by have := hs2.out; omega) (by have := hs2.out; omega) D2[j]!
                          generalize D2[k]! = vx3 at cI3 hRqs
                          generalize D2[j]! = vy3 at cJ3 cU3 hRqs
                          go_wp2_with fail
                          go_region
                          generalize ((wrq.setCell ⟨blk, k, none⟩ (.int .u32 vy3)).setCell ⟨blk, j, none⟩ (.int .u32 vx3)).drew = wrqs at hRqs ⊢
                          clear cI3 cJ3 fI3 fJ3 cU3 hRq
                          go_wp2
                          go_roundg j
                          case measure => have := hkA.out; omega
                          case rel =>
                            have e := hkA.out
                            subst e
                            exact ⟨_, rfl, by omega, (show Aside _ from by rw [size_swp]; exact hs2.out), (show Aside _ from by show _ = _; rw [hE2.out, down_go D2 j hlA.out]), hRqs⟩
                        | false =>
                          rw [show Sort.ltInt vx vy = false from hl] at K
                          have hlA : Aside (lt D2[k]! D2[j]! = false) := by rw [← hvxA.out, ← hvyA.out]; exact hl
                          clear hl hvxA hvyA
                          go_wp2_with fail
                          go_quiet (first | (go_at_call 124; exact Calls.quiet_of_same (K _)))
                          have hRq := hR.drewN nq
                          generalize wr.drewN nq = wrq at hRq ⊢
                          clear nq cI cJ K hR
                          go_wp2
                          go_meet
                          case rel =>
                            have e := hkA.out
                            subst e
                            exact ⟨D2, (show Aside _ from by show _ = _; rw [hfd.out, hE2.out, down_end D2 j hlA.out]), hs2, hRq⟩

                  · have h2z : ¬ (2 : Int) ≤ (x : Int) - (a : Int) := by omega
                    go_wp2
                    go_meet
                    case rel => exact ⟨D1, (show Aside _ from by show _ = _; rw [Sort.fixDown, if_neg h2]), hs1, hRs⟩
                case rest =>
                  clear hRs
                  obtain ⟨D2, hD2, hs2, hR⟩ := hcut
                  have hST : Aside (R = Sort.partialIns lt a b g x (Sort.fixUp lt b x D2)) := by show _ = _; rw [hST.out, hD2.out]
                  clear hD2
                  have fin : Aside (∀ (D3 : Array Int) (w' : World), D3 = Sort.fixUp lt b x D2 → D3.size = n → Rw w0 blk cap U D3 w' → ∃ (i t' : Nat) (D : Array Int), Value.int .i64 (x : Int) = .int .i64 (i : Int) ∧ Value.int .i64 ((t : Int) + 1) = .int .i64 (t' : Int) ∧ t' + g = 5 ∧ a < i ∧ i ≤ b ∧ Aside (D.size = n) ∧ Aside (R = Sort.partialIns lt a b g i D) ∧ Rw w0 blk cap U D w') :=
                    fun D3 w' h1 h2 h3 => ⟨x, t + 1, D3, rfl, by go_num, by have := hgA.out; omega, hax, hxb, h2, (show Aside _ from by show _ = _; rw [hST.out, h1]), h3⟩
                  have hgA2 : Aside (g < g + 1) := Nat.lt_succ_self g
                  have htz2 : (t : Int) + 1 ≤ 5 := by omega
                  clear hST
                  by_cases h2 : b - x ≥ 2
                  · have h2z : (2 : Int) ≤ (b : Int) - (x : Int) := by omega
                    have hfu : Aside (Sort.fixUp lt b x D2 = Sort.shiftUp lt b (x + 1) D2) := by show _ = _; rw [Sort.fixUp, if_pos h2]
                    go_wp2
                    go_loopg [10] (b + 1) (fun g' s wr => ∃ (k : Nat) (D3 : Array Int), s = .int .i64 (k : Int) ∧ 0 < k ∧ k ≤ b ∧ b + 1 - k ≤ g' ∧ Aside (D3.size = n) ∧ Aside (Sort.shiftUp lt b (x + 1) D2 = Sort.shiftUp lt b k D3) ∧ Rw w0 blk cap U D3 wr)
                    case atStart => exact ⟨x + 1, D2, by go_num, by omega, by omega, by omega, hs2, rfl, hR⟩
                    case round =>
                      clear hR
                      obtain ⟨k, D3, rfl, hk0, hkb, hg', hs3, hE3, hR⟩ := hrel
                      by_cases hkb' : k < b
                      · have hz : (k : Int) < (b : Int) := by omega
                        obtain ⟨j, hkz⟩ : ∃ j : Nat, (k : Int) - 1 = (j : Int) := ⟨k - 1, by omega⟩
                        have hjA : Aside (j = k - 1) := (by omega : j = k - 1)
                        have hgA' : Aside (b + 1 - k ≤ gk) := hg'
                        go_wp2_with fail
                        have bI : (k : Int) < (n : Int) := by omega
                        have bJ : (j : Int) < (n : Int) := by omega
                        have cI := hR.cell (i := k) (by have := hs3.out; omega)
                        have cJ := hR.cell (i := j) (by have := hs3.out; omega)
                        obtain ⟨vx, hvx⟩ : ∃ v, v = D3[k]! := ⟨_, rfl⟩
                        obtain ⟨vy, hvy⟩ : ∃ v, v = D3[j]! := ⟨_, rfl⟩
                        have hvxA : Aside (vx = D3[k]!) := hvx
                        have hvyA : Aside (vy = D3[j]!) := hvy
                        rw [← hvx] at cI
                        rw [← hvy] at cJ
                        have K := fun w => less_any vx vy w
                        clear hvx hvy
                        cases hl : lt vx vy with
                        | true =>
                          rw [show Sort.ltInt vx vy = true from hl] at K
                          have hlA : Aside (lt D3[k]! D3[j]! = true) := by rw [← hvxA.out, ← hvyA.out]; exact hl
                          clear hl hvxA hvyA
                          go_wp2_with fail
                          go_quiet (first | (go_at_call 124; exact Calls.quiet_of_same (K _)))
                          have hRq := hR.drewN nq
                          generalize wr.drewN nq = wrq at hRq ⊢
                          clear nq cI cJ K hR
                          go_wp2_with fail

                          have bI4 : (k : Int) < (n : Int) := by omega
                          have bJ4 : (j : Int) < (n : Int) := by omega
                          have cI4 := hRq.cell (i := k) (by have := hs3.out; omega)
                          have cJ4 := hRq.cell (i := j) (by have := hs3.out; omega)
                          have fI4 := hRq.free k
                          have fJ4 := hRq.free j
                          have hRqs := (hRq.swp k j (by have := hs3.out; omega) (by have := hs3.out; omega)).drew
                          obtain ⟨u4, cU4⟩ := hRq.cell2 k j (by have := hs3.out; omega) (by have := hs3.out; omega) D3[j]!
                          generalize D3[k]! = vx4 at cI4 hRqs
                          generalize D3[j]! = vy4 at cJ4 cU4 hRqs
                          go_wp2_with fail
                          go_region
                          generalize ((wrq.setCell ⟨blk, k, none⟩ (.int .u32 vy4)).setCell ⟨blk, j, none⟩ (.int .u32 vx4)).drew = wrqs at hRqs ⊢
                          clear cI4 cJ4 fI4 fJ4 cU4 hRq
                          go_wp2
                          go_roundg (b + 1 - (k + 1))
                          case measure => have := hgA'.out; omega
                          case rel => exact ⟨k + 1, _, by go_num, by omega, by omega, Nat.le_refl _, (show Aside _ from by rw [size_swp]; exact hs3.out), (show Aside _ from by show _ = _; rw [hE3.out, up_go D3 b k hkb' (by rw [← hjA.out]; exact hlA.out), ← hjA.out]), hRqs⟩
                        | false =>
                          rw [show Sort.ltInt vx vy = false from hl] at K
                          have hlA : Aside (lt D3[k]! D3[j]! = false) := by rw [← hvxA.out, ← hvyA.out]; exact hl
                          clear hl hvxA hvyA
                          go_wp2_with fail
                          go_quiet (first | (go_at_call 124; exact Calls.quiet_of_same (K _)))
                          have hRq := hR.drewN nq
                          generalize wr.drewN nq = wrq at hRq ⊢
                          clear nq cI cJ K hR
                          go_wp2
                          go_roundg g
                          case measure => omega
                          case rel => exact fin.out D3 _ (by rw [hfu.out, hE3.out, up_end D3 b k (fun _ => by rw [← hjA.out]; exact hlA.out)]) hs3.out hRq

                      · have hz : ¬ (k : Int) < (b : Int) := by omega
                        go_wp2
                        go_roundg g
                        case measure => omega
                        case rel => exact fin.out D3 _ (by rw [hfu.out, hE3.out, up_end D3 b k (fun e => absurd e hkb')]) hs3.out hR
                  · have h2z : ¬ (2 : Int) ≤ (b : Int) - (x : Int) := by omega
                    go_wp2
                    go_roundg g
                    case measure => omega
                    case rel => exact fin.out D2 _ (by rw [Sort.fixUp, if_neg h2]) hs2.out hR
end Go.Proofs.YteickckgljlacaaGreat.Rs
