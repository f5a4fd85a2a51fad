/-
  The library's heap sort over a part of a row.
-/
import Derived.Test.YteickckgljlacaaGreatRsRev
import Derived.Deep.CutRange
namespace Go.Proofs.YteickckgljlacaaGreat.Rs
open Go Go.RowKit

theorem sift_end (hi first root : Nat) (D : Array Int) (h : hi ≤ 2 * root + 1) : Sort.siftDown lt hi first root D = D := by
  rw [Sort.siftDown, dif_pos h]
/-- The child that is taken. -/
def kid (hi first root : Nat) (D : Array Int) : Nat := if 2 * root + 2 < hi ∧ lt D[first + (2 * root + 1)]! D[first + (2 * root + 2)]! = true then 2 * root + 2 else 2 * root + 1
theorem sift_go (hi first root : Nat) (D : Array Int) (h : ¬ hi ≤ 2 * root + 1) :
    Sort.siftDown lt hi first root D = if lt D[first + root]! D[first + kid hi first root D]! = true then Sort.siftDown lt hi first (kid hi first root D) (Sort.swp D (first + root) (first + kid hi first root D)) else D := by
  rw [Sort.siftDown, dif_neg h]
  unfold kid
  by_cases c : 2 * root + 2 < hi ∧ lt D[first + (2 * root + 1)]! D[first + (2 * root + 2)]! = true
  · rw [if_pos c, if_pos]
    · cases hl : lt D[first + root]! D[first + (2 * root + 2)]! with
      | true => simp [c.1]
      | false => simp
    · have c2 := c.2
      rw [show first + (2 * root + 2) = first + (2 * root + 1) + 1 by omega] at c2
      simp only [Bool.and_eq_true, decide_eq_true_eq]
      exact ⟨by omega, c2⟩
  · rw [if_neg c, if_neg]
    · cases hl : lt D[first + root]! D[first + (2 * root + 1)]! with
      | true => simp
      | false => simp
    · simp only [Bool.and_eq_true, decide_eq_true_eq]
      intro e
      exact c ⟨by omega, by rw [show first + (2 * root + 2) = first + (2 * root + 1) + 1 by omega]; exact e.2⟩

set_option maxHeartbeats 16000000 in
set_option maxRecDepth 100000 in
theorem sift_any {w0 w : World} {blk cap n : Nat} {U : Nat → Value} {d : Array Int} (h : Rw w0 blk cap U d w) (hn : d.size = n) (hsz : n < 4611686018427387904) (lo hi first : Nat) (hb : first + hi ≤ n) (hlo : lo ≤ n) :
    Calls Tryz.prog 142 #[.slice (some ⟨blk, 0, none⟩) n cap, .int .i64 (lo : Int), .int .i64 (hi : Int), .int .i64 (first : Int)] w fun e w' => e = .returned (.tuple #[]) ∧ Rw w0 blk cap U (Sort.siftDown lt hi first lo d) w' := by
  have hb0 : Aside (first + hi ≤ n) := hb
  have hs0 : Aside (d.size = n) := hn
  have hR0 := h
  clear h hn
  go_enter Tryz.func142, Tryz.ntmps142
  go_wp2
  go_loopg [8] (hi + n + 1) (fun g s wr => ∃ (root : Nat) (D : Array Int), s = .int .i64 (root : Int) ∧ hi + n + 1 - root ≤ g ∧ root ≤ n ∧ Aside (D.size = n) ∧ Aside (Sort.siftDown lt hi first lo d = Sort.siftDown lt hi first root D) ∧ Rw w0 blk cap U D wr)
  case atStart => exact ⟨lo, d, rfl, by omega, hlo, hs0, rfl, hR0⟩
  case round =>
    clear hR0
    obtain ⟨root, D, rfl, hg, hrn, hs, hE, hR⟩ := hrel
    obtain ⟨c, hc⟩ : ∃ c : Nat, 2 * (root : Int) + 1 = (c : Int) := ⟨2 * root + 1, by omega⟩
    have hcA : Aside (c = 2 * root + 1) := (by omega : c = 2 * root + 1)
    by_cases hch : c < hi
    · have hcz : ¬ (hi : Int) ≤ (c : Int) := by omega
      have hcz' : (c : Int) < (hi : Int) := by omega
      obtain ⟨c1, hc1⟩ : ∃ c1 : Nat, (c : Int) + 1 = (c1 : Int) := ⟨c + 1, by omega⟩
      have hc1A : Aside (c1 = 2 * root + 2) := (by omega : c1 = 2 * root + 2)
      obtain ⟨pc, hpc⟩ : ∃ pc : Nat, (first : Int) + (c : Int) = (pc : Int) := ⟨first + c, by omega⟩
      obtain ⟨pd, hpd⟩ : ∃ pd : Nat, (pc : Int) + 1 = (pd : Int) := ⟨pc + 1, by omega⟩
      have hpA : Aside (pc = first + (2 * root + 1) ∧ pd = first + (2 * root + 2)) := (by omega : pc = first + (2 * root + 1) ∧ pd = first + (2 * root + 2))
      have hgA : Aside (hi + n + 1 - root ≤ gk) := hg
      have hcut2 : True := trivial
      go_upto_region 3 with fail
      go_cut [36] from 17 to 36 (fun sb w => ∃ b : Bool, sb = .bool b ∧ Aside ((if b = true then c1 else c) = kid hi first root D) ∧ Rw w0 blk cap U D w)
      case first =>
        by_cases hlt : c1 < hi
        · have hltz : (c1 : Int) < (hi : Int) := by omega
          have hd : decide ((c1 : Int) < (hi : Int)) = true := decide_eq_true hltz
          have bI : (pc : Int) < (n : Int) := by omega
          have bJ : (pd : Int) < (n : Int) := by omega
          have cI := hR.cell (i := pc) (by have := hs.out; omega)
          have cJ := hR.cell (i := pd) (by have := hs.out; omega)
          obtain ⟨x, hx⟩ : ∃ x, x = D[pc]! := ⟨_, rfl⟩
          obtain ⟨y, hy⟩ : ∃ y, y = D[pd]! := ⟨_, rfl⟩
          have hxA : Aside (x = D[pc]!) := hx
          have hyA : Aside (y = D[pd]!) := hy
          rw [← hx] at cI
          rw [← hy] at cJ
          have K := fun w => less_any x y w
          clear hx hy
          cases hl : lt x y with
          | true =>
            rw [show Sort.ltInt x y = true from hl] at K
            have hlA : Aside (lt D[pc]! D[pd]! = true) := by rw [← hxA.out, ← hyA.out]; exact hl
            clear hl hxA hyA
            go_wp2_with fail
            go_quiet (first | (go_at_call 124; exact Calls.quiet_of_same (K _)))
            have hRq := hR.drewN nq
            generalize wr.drewN nq = wrq at hRq ⊢
            clear nq cI cJ K hR
            go_wp2_with fail
            go_meet
            case rel => exact ⟨true, rfl, (show Aside _ from by show _ = _; have h1 := hc1A.out; have h2 := hpA.out; rw [kid, if_pos rfl, if_pos ⟨by omega, by rw [← h2.1, ← h2.2]; exact hlA.out⟩, h1]), hRq⟩
          | false =>
            rw [show Sort.ltInt x y = false from hl] at K
            have hlA : Aside (lt D[pc]! D[pd]! = false) := by rw [← hxA.out, ← hyA.out]; exact hl
            clear hl hxA hyA
            go_wp2_with fail
            go_quiet (first | (go_at_call 124; exact Calls.quiet_of_same (K _)))
            have hRq := hR.drewN nq
            generalize wr.drewN nq = wrq at hRq ⊢
            clear nq cI cJ K hR
            go_wp2_with fail
            go_meet
            case rel => exact ⟨false, rfl, (show Aside _ from by show _ = _; have h1 := hcA.out; have h2 := hpA.out; rw [kid, if_neg (by simp), if_neg (fun e => by have := e.2; rw [← h2.1, ← h2.2, hlA.out] at this; cases this), h1]), hRq⟩

        · have hltz : ¬ (c1 : Int) < (hi : Int) := by omega
          have hd : decide ((c1 : Int) < (hi : Int)) = false := decide_eq_false hltz
          go_wp2_with fail
          go_region
          go_wp2_with fail
          go_meet
          case rel => exact ⟨false, rfl, (show Aside _ from by show _ = _; have h1 := hcA.out; have h2 := hc1A.out; rw [kid, if_neg (by simp), if_neg (fun e => by have := e.1; omega), h1]), hR.drew⟩
      case rest =>
        clear hR
        obtain ⟨bb, rfl, hk, hR⟩ := hcut
        obtain ⟨pr, hpr⟩ : ∃ pr : Nat, (first : Int) + (root : Int) = (pr : Int) := ⟨first + root, by omega⟩
        have hprA : Aside (pr = first + root) := (by omega : pr = first + root)
        cases bb with
        | true =>
          have hk' : Aside (c1 = kid hi first root D) := by have := hk.out; rw [if_pos rfl] at this; exact this
          have hvA : Aside (root < c1 ∧ c1 ≤ n ∧ c1 < hi ∧ pd = first + c1) := by
            have h1 := hk'.out
            have h2 := hcA.out
            have h3 := hc1A.out
            have h4 := hpA.out
            have h5 := hb0.out
            have h6 : kid hi first root D < hi := by unfold kid; split <;> omega
            simp only [Aside]
            omega
          clear hk
          have := hvA.out
          have hpz : (first : Int) + (c1 : Int) = (pd : Int) := by omega
          clear this
          have hlo1 : (pd : Int) < (n : Int) := by have := hvA.out; have := hb0.out; omega
          have hlo2 : (pr : Int) < (n : Int) := by have := hvA.out; have := hb0.out; have := hprA.out; omega

          have bI : (pr : Int) < (n : Int) := by omega
          have bJ : (pd : Int) < (n : Int) := by omega
          have cI := hR.cell (i := pr) (by have := hs.out; omega)
          have cJ := hR.cell (i := pd) (by have := hs.out; omega)
          obtain ⟨x, hx⟩ : ∃ x, x = D[pr]! := ⟨_, rfl⟩
          obtain ⟨y, hy⟩ : ∃ y, y = D[pd]! := ⟨_, rfl⟩
          have hxA : Aside (x = D[pr]!) := hx
          have hyA : Aside (y = D[pd]!) := hy
          rw [← hx] at cI
          rw [← hy] at cJ
          have K := fun w => less_any x y w
          clear hx hy
          cases hl : lt x y with
          | true =>
            rw [show Sort.ltInt x y = true from hl] at K
            have hlA : Aside (lt D[pr]! D[pd]! = true) := by rw [← hxA.out, ← hyA.out]; exact hl
            clear hl hxA hyA
            go_wp2_with fail
            go_quiet (first | (go_at_call 124; exact Calls.quiet_of_same (K _)))
            have hRq := hR.drewN nq
            generalize wc.drewN nq = wcq at hRq ⊢
            clear nq cI cJ K hR
            go_wp2_with fail

            have bI2 : (pr : Int) < (n : Int) := by omega
            have bJ2 : (pd : Int) < (n : Int) := by omega
            have cI2 := hRq.cell (i := pr) (by have := hs.out; omega)
            have cJ2 := hRq.cell (i := pd) (by have := hs.out; omega)
            have fI2 := hRq.free pr
            have fJ2 := hRq.free pd
            have hRqs := (hRq.swp pr pd (by have := hs.out; omega) (by have := hs.out; omega)).drew
            obtain ⟨u2, cU2⟩ := hRq.cell2 pr pd (by have := hs.out; omega) (by have := hs.out; omega) D[pd]!
            generalize D[pr]! = x2 at cI2 hRqs
            generalize D[pd]! = y2 at cJ2 cU2 hRqs
            go_wp2_with fail
            go_region
            generalize ((wcq.setCell ⟨blk, pr, none⟩ (.int .u32 y2)).setCell ⟨blk, pd, none⟩ (.int .u32 x2)).drew = wcqs at hRqs ⊢
            clear cI2 cJ2 fI2 fJ2 cU2 hRq
            go_wp2
            go_roundg (hi + n + 1 - c1)
            case measure => have := hgA.out; have := hvA.out; omega
            case rel =>
              refine ⟨c1, _, rfl, Nat.le_refl _, hvA.out.2.1, (show Aside _ from by rw [size_swp]; exact hs.out), (show Aside _ from ?_), hRqs⟩
              show _ = _
              have h1 := hprA.out
              have h2 := hvA.out
              have h3 := hlA.out
              have h4 := hcA.out
              rw [hE.out, sift_go hi first root D (by omega), ← hk'.out, ← h1, ← h2.2.2.2, if_pos h3]
          | false =>
            rw [show Sort.ltInt x y = false from hl] at K
            have hlA : Aside (lt D[pr]! D[pd]! = false) := by rw [← hxA.out, ← hyA.out]; exact hl
            clear hl hxA hyA
            go_wp2_with fail
            go_quiet (first | (go_at_call 124; exact Calls.quiet_of_same (K _)))
            have hRq := hR.drewN nq
            generalize wc.drewN nq = wcq at hRq ⊢
            clear nq cI cJ K hR
            go_wp2
            refine bodyPost_ret (results_none rfl _ _ _) rfl ?_
            refine ⟨rfl, ?_⟩
            have h1 := hprA.out
            have h2 := hvA.out
            have h3 := hlA.out
            have h4 := hcA.out
            rw [hE.out, sift_go hi first root D (by omega), ← hk'.out, ← h1, ← h2.2.2.2, h3]
            simpa using hRq
        | false =>
          have hk' : Aside (c = kid hi first root D) := by have := hk.out; rw [if_neg (by simp)] at this; exact this
          have hvA : Aside (root < c ∧ c ≤ n ∧ c < hi ∧ pc = first + c) := by
            have h1 := hk'.out
            have h2 := hcA.out
            have h3 := hc1A.out
            have h4 := hpA.out
            have h5 := hb0.out
            have h6 : kid hi first root D < hi := by unfold kid; split <;> omega
            simp only [Aside]
            omega
          clear hk
          have := hvA.out
          have hpz : (first : Int) + (c : Int) = (pc : Int) := by omega
          clear this
          have hlo1 : (pc : Int) < (n : Int) := by have := hvA.out; have := hb0.out; omega
          have hlo2 : (pr : Int) < (n : Int) := by have := hvA.out; have := hb0.out; have := hprA.out; omega

          have bI : (pr : Int) < (n : Int) := by omega
          have bJ : (pc : Int) < (n : Int) := by omega
          have cI := hR.cell (i := pr) (by have := hs.out; omega)
          have cJ := hR.cell (i := pc) (by have := hs.out; omega)
          obtain ⟨x, hx⟩ : ∃ x, x = D[pr]! := ⟨_, rfl⟩
          obtain ⟨y, hy⟩ : ∃ y, y = D[pc]! := ⟨_, rfl⟩
          have hxA : Aside (x = D[pr]!) := hx
          have hyA : Aside (y = D[pc]!) := hy
          rw [← hx] at cI
          rw [← hy] at cJ
          have K := fun w => less_any x y w
          clear hx hy
          cases hl : lt x y with
          | true =>
            rw [show Sort.ltInt x y = true from hl] at K
            have hlA : Aside (lt D[pr]! D[pc]! = true) := by rw [← hxA.out, ← hyA.out]; exact hl
            clear hl hxA hyA
            go_wp2_with fail
            go_quiet (first | (go_at_call 124; exact Calls.quiet_of_same (K _)))
            have hRq := hR.drewN nq
            generalize wc.drewN nq = wcq at hRq ⊢
            clear nq cI cJ K hR
            go_wp2_with fail

            have bI2 : (pr : Int) < (n : Int) := by omega
            have bJ2 : (pc : Int) < (n : Int) := by omega
            have cI2 := hRq.cell (i := pr) (by have := hs.out; omega)
            have cJ2 := hRq.cell (i := pc) (by have := hs.out; omega)
            have fI2 := hRq.free pr
            have fJ2 := hRq.free pc
            have hRqs := (hRq.swp pr pc (by have := hs.out; omega) (by have := hs.out; omega)).drew
            obtain ⟨u2, cU2⟩ := hRq.cell2 pr pc (by have := hs.out; omega) (by have := hs.out; omega) D[pc]!
            generalize D[pr]! = x2 at cI2 hRqs
            generalize D[pc]! = y2 at cJ2 cU2 hRqs
            go_wp2_with fail
            go_region
            generalize ((wcq.setCell ⟨blk, pr, none⟩ (.int .u32 y2)).setCell ⟨blk, pc, none⟩ (.int .u32 x2)).drew = wcqs at hRqs ⊢
            clear cI2 cJ2 fI2 fJ2 cU2 hRq
            go_wp2
            go_roundg (hi + n + 1 - c)
            case measure => have := hgA.out; have := hvA.out; omega
            case rel =>
              refine ⟨c, _, rfl, Nat.le_refl _, hvA.out.2.1, (show Aside _ from by rw [size_swp]; exact hs.out), (show Aside _ from ?_), hRqs⟩
              show _ = _
              have h1 := hprA.out
              have h2 := hvA.out
              have h3 := hlA.out
              have h4 := hcA.out
              rw [hE.out, sift_go hi first root D (by omega), ← hk'.out, ← h1, ← h2.2.2.2, if_pos h3]
          | false =>
            rw [show Sort.ltInt x y = false from hl] at K
            have hlA : Aside (lt D[pr]! D[pc]! = false) := by rw [← hxA.out, ← hyA.out]; exact hl
            clear hl hxA hyA
            go_wp2_with fail
            go_quiet (first | (go_at_call 124; exact Calls.quiet_of_same (K _)))
            have hRq := hR.drewN nq
            generalize wc.drewN nq = wcq at hRq ⊢
            clear nq cI cJ K hR
            go_wp2
            refine bodyPost_ret (results_none rfl _ _ _) rfl ?_
            refine ⟨rfl, ?_⟩
            have h1 := hprA.out
            have h2 := hvA.out
            have h3 := hlA.out
            have h4 := hcA.out
            rw [hE.out, sift_go hi first root D (by omega), ← hk'.out, ← h1, ← h2.2.2.2, h3]
            simpa using hRq
    · have hcz : (hi : Int) ≤ (c : Int) := by omega
      go_wp2
      go_end0
      refine ⟨rfl, ?_⟩
      rw [hE.out, sift_end hi first root D (by have := hcA.out; omega)]
      exact hR

theorem size_sift (hi first : Nat) : ∀ (m root : Nat) (D : Array Int), hi - root ≤ m → (Sort.siftDown lt hi first root D).size = D.size := by
  intro m
  induction m with
  | zero => intro root D h; rw [sift_end hi first root D (by omega)]
  | succ m ih =>
    intro root D h
    by_cases c : hi ≤ 2 * root + 1
    · rw [sift_end hi first root D c]
    · rw [sift_go hi first root D c]
      split
      · rw [ih _ _ (by unfold kid; split <;> omega), size_swp]
      · rfl

set_option maxHeartbeats 16000000 in
set_option maxRecDepth 100000 in
theorem heap_any {w0 w : World} {blk cap n : Nat} {U : Nat → Value} {d : Array Int} (h : Rw w0 blk cap U d w) (hn : d.size = n) (hsz : n < 4611686018427387904) (a b : Nat) (hab : a < b) (hb : b ≤ n) :
    Calls Tryz.prog 119 #[.slice (some ⟨blk, 0, none⟩) n cap, .int .i64 (a : Int), .int .i64 (b : Int)] w fun e w' => e = .returned (.tuple #[]) ∧ Rw w0 blk cap U (Sort.heapSort lt d a b) w' := by
  have hs0 : Aside (d.size = n) := hn
  have hR0 := h
  clear h hn
  obtain ⟨hi, hhi⟩ : ∃ hi : Nat, (b : Int) - (a : Int) = (hi : Int) := ⟨b - a, by omega⟩
  have hhA : Aside (hi = b - a) := (by omega : hi = b - a)
  obtain ⟨i0, hi0⟩ : ∃ i0 : Nat, ((hi : Int) - 1) / 2 = (i0 : Int) := ⟨(hi - 1) / 2, by omega⟩
  have hiA : Aside (i0 = (hi - 1) / 2) := (by omega : i0 = (hi - 1) / 2)
  have hi1 : ((hi : Int) - 1).tdiv 2 = (i0 : Int) := by rw [Int.tdiv_eq_ediv_of_nonneg (by omega)]; exact hi0
  have hpos : 0 < hi := by omega
  have hbn : Aside (a + hi ≤ n) := (by omega : a + hi ≤ n)
  go_enter Tryz.func119, Tryz.ntmps119
  go_wp2
  go_loopg [9] (i0 + 1) (fun g s wr => ∃ (D : Array Int), s = .int .i64 ((g : Int) - 1) ∧ g ≤ n ∧ Aside (D.size = n) ∧ Aside (Sort.heapBuild lt hi a ((hi - 1) / 2 + 1) d = Sort.heapBuild lt hi a g D) ∧ Rw w0 blk cap U D wr)
  case atStart => exact ⟨d, by go_num, by have := hbn.out; have := hiA.out; omega, hs0, by rw [hiA.out]; exact rfl, hR0⟩
  case round =>
    clear hR0
    obtain ⟨D, rfl, hgn, hs, hE, hR⟩ := hrel
    cases gk with
    | zero =>
      have hz : ¬ (0 : Int) ≤ ((0 : Nat) : Int) - 1 := by omega
      have hE1 : Aside (Sort.heapBuild lt hi a ((hi - 1) / 2 + 1) d = D) := hE
      clear hE
      go_wp2
      go_loopg [10] hi (fun g s wr => ∃ (D' : Array Int), s = .int .i64 ((g : Int) - 1) ∧ g ≤ hi ∧ Aside (D'.size = n) ∧ Aside (Sort.heapPop lt a hi D = Sort.heapPop lt a g D') ∧ Rw w0 blk cap U D' wr)
      case atStart => exact ⟨D, by go_num, Nat.le_refl _, hs, rfl, hR⟩
      case round =>
        clear hR
        obtain ⟨D', rfl, hgn, hs', hE', hR⟩ := hrel
        cases gk with
        | zero =>
          have hz : ¬ (0 : Int) ≤ ((0 : Nat) : Int) - 1 := by omega
          go_wp2
          go_end0
          refine ⟨rfl, ?_⟩
          have e1 := hE'.out
          rw [Sort.heapSort, ← hhA.out, hE1.out, e1]
          exact hR
        | succ k =>
          have hz : (0 : Int) ≤ ((k + 1 : Nat) : Int) - 1 := by omega
          have hk : ((k + 1 : Nat) : Int) - 1 = (k : Int) := by omega
          have hk0 : (0 : Int) ≤ (k : Int) := by omega
          rw [hk]
          obtain ⟨pk, hpk⟩ : ∃ pk : Nat, (a : Int) + (k : Int) = (pk : Int) := ⟨a + k, by omega⟩
          have hpA : Aside (pk = a + k) := (by omega : pk = a + k)
          have hpn : pk < n := by have := hbn.out; omega
          go_wp2_with fail
          have bI : (a : Int) < (n : Int) := by omega
          have bJ : (pk : Int) < (n : Int) := by omega
          have cI := hR.cell (i := a) (by have := hs'.out; omega)
          have cJ := hR.cell (i := pk) (by have := hs'.out; omega)
          have fI := hR.free a
          have fJ := hR.free pk
          have hRs := (hR.swp a pk (by have := hs'.out; omega) (by have := hs'.out; omega)).drew
          obtain ⟨u, cU⟩ := hR.cell2 a pk (by have := hs'.out; omega) (by have := hs'.out; omega) D'[pk]!
          generalize D'[a]! = x at cI hRs
          generalize D'[pk]! = y at cJ cU hRs
          go_wp2_with fail
          go_region
          generalize ((wr.setCell ⟨blk, a, none⟩ (.int .u32 y)).setCell ⟨blk, pk, none⟩ (.int .u32 x)).drew = wrs at hRs ⊢
          clear cI cJ fI fJ cU hR
          have K := sift_any hRs (by rw [size_swp]; exact hs'.out) hsz 0 k a (by have := hbn.out; omega) (by omega)
          go_wp2_with (go_at_call 142; refine K.mono ?_; clear K; rintro e w3 ⟨rfl, hR3⟩)
          go_roundg k
          case measure => omega
          case rel => exact ⟨_, rfl, by omega, (show Aside _ from by rw [size_sift k a k 0 _ (by omega), size_swp]; exact hs'.out), (show Aside _ from by show _ = _; rw [hE'.out, Sort.heapPop, hpA.out]), hR3⟩
    | succ k =>
      have hz : (0 : Int) ≤ ((k + 1 : Nat) : Int) - 1 := by omega
      have hk : ((k + 1 : Nat) : Int) - 1 = (k : Int) := by omega
      have hk0 : (0 : Int) ≤ (k : Int) := by omega
      rw [hk]
      have K := sift_any hR hs.out hsz k hi a hbn.out (by omega)
      go_wp2_with (go_at_call 142; refine K.mono ?_; clear K; rintro e w3 ⟨rfl, hR3⟩)
      go_roundg k
      case measure => omega
      case rel => exact ⟨_, rfl, by omega, (show Aside _ from by rw [size_sift hi a hi k _ (by omega)]; exact hs.out), (show Aside _ from by show _ = _; rw [hE.out, Sort.heapBuild]), hR3⟩
end Go.Proofs.YteickckgljlacaaGreat.Rs
