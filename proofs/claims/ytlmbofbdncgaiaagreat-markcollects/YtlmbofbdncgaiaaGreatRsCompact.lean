/-
  The library's compacting of a sorted row of handles: each once.
-/
import Derived.Test.YtlmbofbdncgaiaaGreatRsDel
namespace Go.Proofs.YtlmbofbdncgaiaaGreat.Rs
open Go Go.RowKit

/-- Of the first j of d the first k of D are left, each once. -/
structure Cp (d D : Array Int) (j k : Nat) : Prop where
  size : D.size = d.size
  kj : k ≤ j
  k0 : 0 < k
  same : ∀ i, k ≤ i → D[i]! = d[i]!
  inc : ∀ i i', i < i' → i' < k → D[i]! < D[i']!
  mem : ∀ x, x ∈ lst D k ↔ x ∈ lst d j
  last : D[k - 1]! = d[j - 1]!
section
variable {d D : Array Int} {j k : Nat}
theorem Cp.start (d : Array Int) : Cp d d 1 1 := ⟨rfl, Nat.le_refl _, by omega, fun _ _ => rfl, fun i i' h1 h2 => by omega, fun _ => Iff.rfl, rfl⟩
theorem Cp.skip (h : Cp d D j k) (he : d[j]! = d[j - 1]!) : Cp d D (j + 1) k := by
  have hk := h.k0
  have hj := h.kj
  refine ⟨h.size, by omega, hk, h.same, h.inc, fun x => ?_, by rw [Nat.add_sub_cancel, he]; exact h.last⟩
  rw [h.mem x, lst_succ, List.mem_append]
  constructor
  · exact .inl
  · rintro (hx | hx)
    · exact hx
    · simp only [List.mem_singleton] at hx
      rw [hx, he]
      exact lst_mem.2 ⟨j - 1, by omega, rfl⟩
theorem Cp.take (h : Cp d D j k) (hj : j < d.size) (hs : d[j - 1]! ≤ d[j]!) (hne : ¬ d[j]! = d[j - 1]!) : Cp d (D.setIfInBounds k d[j]!) (j + 1) (k + 1) := by
  have hk0 := h.k0
  have hkj := h.kj
  have hkD : k < D.size := by rw [h.size]; omega
  have hlt : D[k - 1]! < d[j]! := by rw [h.last]; omega
  have hg := get_set D k d[j]! hkD
  refine ⟨by simpa using h.size, by omega, by omega, fun i hi => by rw [hg, if_neg (by omega)]; exact h.same i (by omega), fun i i' h1 h2 => ?_, fun x => ?_, by rw [Nat.add_sub_cancel, hg, if_pos rfl, Nat.add_sub_cancel]⟩
  · rw [hg, hg, if_neg (by omega)]
    by_cases e : i' = k
    · rw [if_pos e]
      by_cases e2 : i = k - 1
      · rw [e2]; exact hlt
      · exact Int.lt_trans (h.inc i (k - 1) (by omega) (by omega)) hlt
    · rw [if_neg e]
      exact h.inc i i' h1 (by omega)
  · rw [lst_succ, lst_succ, hg, if_pos rfl, lst_congr (d := D.setIfInBounds k d[j]!) (D := D) fun i hi => by rw [hg, if_neg (by omega)]]
    rw [List.mem_append, List.mem_append, h.mem x]
/-- As long as nothing has come twice. -/
theorem Cp.on (h : Cp d d k k) (hk : k < d.size) (hs : d[k - 1]! ≤ d[k]!) (hne : ¬ d[k]! = d[k - 1]!) : Cp d d (k + 1) (k + 1) := by
  have := h.take hk hs hne
  have e : d.setIfInBounds k d[k]! = d := by
    apply Array.ext
    · simp
    · intro i h1 h2
      simp only [Array.getElem_setIfInBounds h2]
      split
      · rename_i e; subst e; rw [getElem!_pos d k hk]
      · rfl
  rw [e] at this
  exact this
theorem Cp.pairs (h : Cp d D j k) : (lst D k).Pairwise (· < ·) := by
  rw [List.pairwise_iff_getElem]
  intro i i' h1 h2 h3
  rw [lst_len] at h1 h2
  simp only [lst, List.getElem_map, List.getElem_range]
  exact h.inc i i' h3 h2
end

/-- The same handles. -/
def Same (l l' : List Int) : Prop := ∀ x, x ∈ l ↔ x ∈ l'
theorem Same.refl (l : List Int) : Same l l := fun _ => Iff.rfl

set_option maxHeartbeats 8000000 in
set_option maxRecDepth 100000 in
theorem compact_any {w0 w : World} {blk cap n : Nat} {U : Nat → Value} {d : Array Int} (h : Rw w0 blk cap U d w) (hn : d.size = n) (hsz : n < 65536) (hinc : ∀ i, i + 1 < n → d[i]! ≤ d[i + 1]!) :
    Calls Tryz.prog 67 #[.slice (some ⟨blk, 0, none⟩) n cap] w fun e w' => ∃ (U' : Nat → Value) (D : Array Int), e = .returned (.slice (some ⟨blk, 0, none⟩) D.size cap) ∧ D.toList.Pairwise (· < ·) ∧ Same D.toList d.toList ∧ Rw w0 blk cap U' D w' := by
  have hs : Aside (d.size = n) := hn
  have hcap : n ≤ cap := by have := h.le; omega
  have hup : Aside (∀ i, 0 < i → i < n → d[i - 1]! ≤ d[i]!) := fun i h1 h2 => by
    have := hinc (i - 1) (by omega)
    rw [show i - 1 + 1 = i by omega] at this
    exact this
  have hR := h
  clear h hn hinc
  by_cases hn2 : n < 2
  · have hz : (n : Int) < 2 := by omega
    go_enter Tryz.func67, Tryz.ntmps67
    go_wp2
    go_ret
    refine ⟨U, d, (by have e := hs.out; subst e; rfl), ?_, Same.refl _, hR⟩
    have e := hs.out
    rw [List.pairwise_iff_getElem]
    intro i i' h1 h2 h3
    simp at h2
    omega
  · have hz : ¬ (n : Int) < 2 := by omega
    go_enter Tryz.func67, Tryz.ntmps67
    go_wp2
    go_loopg [3] n (fun g s wr => ∃ k : Nat, s = .int .i64 (k : Int) ∧ k + g = n + 1 ∧ 0 < k ∧ k ≤ n ∧ Aside (Cp d d k k) ∧ Rw w0 blk cap U d wr)
    case atStart => exact ⟨1, rfl, by omega, by omega, by omega, Cp.start d, hR⟩
    case round =>
      clear hR
      obtain ⟨k, rfl, hg, hk0, hkn, hC, hR⟩ := hrel
      by_cases hk : k < n
      · have hkz : (k : Int) < (n : Int) := by omega
        obtain ⟨km, hkm⟩ : ∃ km : Nat, (k : Int) - 1 = (km : Int) := ⟨k - 1, by omega⟩
        have hkA : Aside (km = k - 1) := (by omega : km = k - 1)
        have bkm : (km : Int) < (n : Int) := by omega
        have c1 := hR.cell (i := k) (by have := hs.out; omega)
        have c2 := hR.cell (i := km) (by have := hs.out; omega)
        obtain ⟨x, hx⟩ : ∃ x, x = d[k]! := ⟨_, rfl⟩
        obtain ⟨y, hy⟩ : ∃ y, y = d[km]! := ⟨_, rfl⟩
        have hxA : Aside (x = d[k]!) := hx
        have hyA : Aside (y = d[km]!) := hy
        rw [← hx] at c1
        rw [← hy] at c2
        clear hx hy
        by_cases hxy : x = y
        · have hb : (x == y) = true := by simpa using hxy
          have hxyA : Aside (d[k]! = d[k - 1]!) := by show _ = _; rw [← hxA.out, hxy, hyA.out, hkA.out]
          clear hxy
          have hcap1 : ¬ cap = k := by omega
          have hC1 : Aside (Cp d d (k + 1) k) := hC.out.skip hxyA.out
          go_wp2_with fail
          go_quiet (fail)
          have hR1 := hR.drewN nq
          generalize wr.drewN nq = w1 at hR1 ⊢
          clear c1 c2 hR
          go_wp2
          go_loopg [3, 5] n (fun g s3 s5 wr => ∃ (q t : Nat) (D : Array Int), s3 = .int .i64 (q : Int) ∧ s5 = .int .i64 (t : Int) ∧ t + g = n + 1 ∧ 0 < t ∧ q < k + t ∧ k + t ≤ n ∧ Aside (D.size = n) ∧ Aside (Cp d D (k + t) q) ∧ Rw w0 blk cap U D wr)
          case atStart => exact ⟨k, 1, d, rfl, rfl, by omega, by omega, by omega, by omega, hs, hC1, hR1⟩
          case round =>
            clear hR1 hC1
            obtain ⟨q, t, D, rfl, rfl, hg1, ht0, hqt, htn, hsD, hC, hR⟩ := hrel
            by_cases htk : k + t < n
            · have htz : (t : Int) < ((n - k : Nat) : Int) := by omega
              obtain ⟨tm, htm⟩ : ∃ tm : Nat, (t : Int) - 1 = (tm : Int) := ⟨t - 1, by omega⟩
              have htA : Aside (k + tm = k + t - 1) := (by omega : k + tm = k + t - 1)
              have btm : (tm : Int) < ((n - k : Nat) : Int) := by omega
              have bq : (q : Int) < (n : Int) := by omega
              have c1 := hR.cell (i := k + t) (by have := hsD.out; omega)
              have c2 := hR.cell (i := k + tm) (by have := hsD.out; omega)
              rw [hC.out.same (k + t) (by omega)] at c1
              rw [hC.out.same (k + tm) (by omega)] at c2
              obtain ⟨x, hx⟩ : ∃ x, x = d[k + t]! := ⟨_, rfl⟩
              obtain ⟨y, hy⟩ : ∃ y, y = d[k + tm]! := ⟨_, rfl⟩
              have hxA : Aside (x = d[k + t]!) := hx
              have hyA : Aside (y = d[k + tm]!) := hy
              rw [← hx] at c1
              rw [← hy] at c2
              clear hx hy
              by_cases hxy : x = y
              · have hb : (x == y) = true := by simpa using hxy
                have hb2 : (x != y) = false := by simpa using hxy
                have hC1 : Aside (Cp d D (k + t + 1) q) := hC.out.skip (by rw [← htA.out, ← hxA.out, ← hyA.out]; exact hxy)
                clear hxy
                go_wp2_with fail
                go_quiet (fail)
                have hR1 := hR.drewN nq
                generalize wr.drewN nq = w2 at hR1 ⊢
                clear c1 c2 hR
                go_wp2
                go_roundg (gk - 1)
                case measure => omega
                case rel => exact ⟨q, t + 1, D, rfl, by go_num, by omega, by omega, by omega, by omega, hsD, hC1, hR1⟩
              · have hb : (x == y) = false := by simpa using hxy
                have hb2 : (x != y) = true := by simpa using hxy
                have hC1 : Aside (Cp d (D.setIfInBounds q x) (k + t + 1) (q + 1)) := by
                  have := hC.out.take (by have := hs.out; omega) (hup.out (k + t) (by omega) htk) (by rw [← htA.out, ← hxA.out, ← hyA.out]; exact hxy)
                  rw [hxA.out]
                  exact this
                clear hxy
                go_wp2_with fail
                go_quiet (fail)
                have hR1 := hR.drewN nq
                generalize wr.drewN nq = w2 at hR1 ⊢
                clear c1 c2 hR
                have c1 := hR1.cell (i := k + t) (by have := hsD.out; omega)
                rw [hC.out.same (k + t) (by omega), ← hxA.out] at c1
                have c3 := hR1.cell (i := q) (by have := hsD.out; omega)
                generalize D[q]! = u at c3
                have f3 := hR1.free q
                have hR2 := hR1.set q (by have := hsD.out; omega) x
                go_wp2
                go_roundg (gk - 1)
                case measure => omega
                case rel => exact ⟨q + 1, t + 1, _, by go_num, by go_num, by omega, by omega, by omega, by omega, (show Aside _ from by show _ = _; simp; exact hsD.out), hC1, hR2⟩
            · have htz : ¬ (t : Int) < ((n - k : Nat) : Int) := by omega
              have hqn : q < n := by omega
              have hqcap : ¬ cap = q := by omega
              obtain ⟨w', hcl, U', hR'⟩ := clear_any hR hsD.out q hqn
              have hA2 : Aside (Rw w0 blk cap U' (D.extract 0 q) w') := hR'
              have hqA : Aside (q < n ∧ k + t = n) := (⟨hqn, by omega⟩ : q < n ∧ k + t = n)
              clear hR' hR
              go_wp2
              go_ret
              have e1 := hqA.out
              have e2 := hsD.out
              have e3 := hs.out
              have hsz2 : (D.extract 0 q).size = q := by simp; omega
              refine ⟨U', D.extract 0 q, ?_, ?_, ?_, hA2.out⟩
              · rw [hsz2]
                rfl
              · rw [cut_list D q (by omega)]
                exact hC.out.pairs
              · intro x
                rw [cut_list D q (by omega), hC.out.mem x, e1.2, ← e3, lst_all]
        · have hb : (x == y) = false := by simpa using hxy
          have hC1 : Aside (Cp d d (k + 1) (k + 1)) := hC.out.on (by have := hs.out; omega) (hup.out k hk0 hk) (by rw [← hxA.out, ← hkA.out, ← hyA.out]; exact hxy)
          go_wp2_with fail
          go_quiet (fail)
          have hR1 := hR.drewN nq
          generalize wr.drewN nq = w1 at hR1 ⊢
          clear c1 c2 hR
          go_wp2
          go_roundg (gk - 1)
          case measure => omega
          case rel => exact ⟨k + 1, by go_num, by omega, by omega, by omega, hC1, hR1⟩
      · have hkz : ¬ (k : Int) < (n : Int) := by omega
        have hkA : Aside (k = n) := (by omega : k = n)
        go_wp2
        go_ret
        have e1 := hkA.out
        have e2 := hs.out
        refine ⟨U, d, (by have e := hs.out; subst e; rfl), ?_, Same.refl _, hR⟩
        have := hC.out.pairs
        rw [e1, ← e2, lst_all] at this
        exact this
end Go.Proofs.YtlmbofbdncgaiaaGreat.Rs
