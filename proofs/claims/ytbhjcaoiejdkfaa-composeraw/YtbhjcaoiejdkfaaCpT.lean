/-
  Package compose: follow, top.
-/
import Derived.Test.YtbhjcaoiejdkfaaCpH
namespace Go.Proofs.Ytbhjcaoiejdkfaa
open Go Go.RowKit
open Rf (fixAt fixF)

section
variable {w : World} {S h : Nat} {F0 : Nat → Prop} {M : Mdl} {I : Nat → Nd}
/-- Where follow comes to. -/
structure Goes (M : Mdl) (I : Nat → Nd) (h x : Nat) : Prop where
  node : M.isNode x
  deep : M.lev h ≤ M.lev x
  same : subF M I x = subF M I h
theorem Goes.next {x : Nat} (o : M.Ok) (g : Goes M I h x) (hm : x ∈ M.hs) (wi : WI M (I (M.lev x))) (e : ¬ (I (M.lev x)).1 < M.n) : Goes M I h (nextI M I x) :=
  ⟨(next_ok o hm).1, by have := (next_ok (I := I) o hm).2; have := g.deep; omega, (sub_next o hm wi e).trans g.same⟩
set_option maxRecDepth 100000 in
set_option maxHeartbeats 2000000 in
theorem follow_any (s : St w S F0 M) (wi : ∀ i, WI M (I i)) (hh : M.isNode h) : Calls Try.prog 47 #[.agg (wA S I), .int .u32 (h : Int)] w fun e w' => ∃ x : Nat, e = .returned (.int .u32 (x : Int)) ∧ Goes M I h x ∧ (x < 2 ∨ x ∈ M.hs ∧ (I (M.lev x)).1 < M.n) ∧ Below w.heap.size w w' := by
  have ok := s.ok
  have n8 := ok.le8
  go_enter Try.func47, Try.ntmps47
  go_upto_region 1 with fail
  have i4 := IsW.new w S I
  have B4 := nb w (.cells (wA S I) 82)
  generalize w.alloc (.cells (wA S I) 82) = w4 at i4 B4 ⊢
  have s4 : Aside (St w4 S F0 M) := s.below B4
  have i4A : Aside (IsW w4 w.heap.size S I) := i4
  have B4A : Aside (Below w.heap.size w w4) := B4
  obtain ⟨g, hg⟩ : ∃ g, w.heap.size = g := ⟨_, rfl⟩
  rw [hg] at i4A ⊢
  have okA : Aside M.Ok := ok
  have n8A : Aside (M.n ≤ 8) := n8
  have wiA : Aside (∀ i, WI M (I i)) := wi
  have hh0 : Aside (Goes M I h h) := ⟨hh, Nat.le_refl _, rfl⟩
  clear ok n8 wi s i4 B4 hh hg
  go_loopg [1, 5, 6] (M.n + 1) (fun gn s1 _s5 _s6 wr => ∃ x : Nat, s1 = .int .u32 (x : Int) ∧ Aside (M.n - M.lev x + 1 ≤ gn) ∧ Aside (Goes M I h x) ∧ Aside (IsW wr g S I) ∧ Aside (St wr S F0 M) ∧ Aside (Below w.heap.size w wr))
  case atStart => exact ⟨h, rfl, (by show _ ≤ _; omega), hh0, i4A, s4, B4A⟩
  case round =>
    obtain ⟨x, rfl, hx, gx, i5, s5, B5⟩ := hrel
    clear hh0 i4A s4 B4A
    by_cases x2 : x < 2
    · have x2i : ¬ (1 : Int) < (x : Int) := by omega
      have xA : Aside (x < 2) := x2
      clear x2
      go_wp2_with fail
      go_ret
      exact ⟨x, rfl, gx.out, .inl xA.out, B5.out⟩
    · have x2i : (1 : Int) < (x : Int) := by omega
      have hm := gx.out.node.resolve_left x2
      have hl : M.lev x < M.n := by rw [Mdl.lev_in okA.out hm]; exact okA.out.lv x hm
      have K1 := lv_any s5.out (.inr hm : M.isNode x)
      have l8 : M.lev x < 8 := by have := n8A.out; omega
      have l8i : (M.lev x : Int) < 8 := by omega
      have c0 := i5.out.store
      have c1 := i5.out.lev l8
      have c2 := i5.out.lo l8
      have c3 := i5.out.hi l8
      have wt := wiA.out (M.lev x)
      have K0 : Aside (∀ u, St u S F0 M → Calls Try.prog 46 #[.pointer (some ⟨S, 0, none⟩), .int .u32 (x : Int)] u fun e w' => e = .returned (.int .u32 ((M.nd x).2.1 : Int)) ∧ w' = u) := fun u su => by
        have := s_low su x (by have := Mdl.isNode_lt su.ok (.inr hm : M.isNode x); omega)
        rwa [Mdl.lowN_in su.ok hm] at this
      have KH : Aside (∀ u, St u S F0 M → Calls Try.prog 20 #[.pointer (some ⟨S, 0, none⟩), .int .u32 (x : Int)] u fun e w' => e = .returned (.int .u32 ((M.nd x).2.2 : Int)) ∧ w' = u) := fun u su => by
        have := s_high su x (by have := Mdl.isNode_lt su.ok (.inr hm : M.isNode x); omega)
        rwa [Mdl.highN_in su.ok hm] at this
      have KV : Aside (∀ u, St u S F0 M → Calls Try.prog 32 #[.pointer (some ⟨S, 0, none⟩)] u fun e w' => e = .returned (.int .i64 (M.n : Int)) ∧ w' = u) := fun u su => s_vars su
      have nx : Aside (¬ (I (M.lev x)).1 < M.n → Goes M I h (nextI M I x)) := gx.out.next okA.out hm wt
      have nl : Aside (M.lev x < M.lev (nextI M I x)) := (next_ok okA.out hm).2
      have nd : Aside (nextI M I x = if (I (M.lev x)).2.1 = 1 then (M.nd x).2.2 else (M.nd x).2.1) := rfl
      generalize nextI M I x = y at nx nl nd
      have hlA : Aside (M.lev x < M.n) := hl
      obtain ⟨P, p1, p2⟩ : ∃ P : Prop, Aside (P → x < 2 ∨ x ∈ M.hs ∧ (I (M.lev x)).1 < M.n) ∧ Aside ((I (M.lev x)).1 < M.n → P) := ⟨_, id, fun q => .inr ⟨hm, q⟩⟩
      generalize hL : M.lev x = L at K1 l8 l8i c1 c2 c3 wt nx nl nd hlA p2
      have hLA : Aside (M.lev x = L) := hL
      obtain ⟨⟨l, a, c⟩, ht⟩ : ∃ t, I L = t := ⟨_, rfl⟩
      rw [ht] at c1 c2 c3 nx nd p2
      dsimp only at c1 c2 c3 nx nd p2
      clear ht wt hm hl l8 x2 hL
      go_upto_region 3 with (first
        | (go_at_call 19; refine K1.mono ?_; clear K1; rintro e w6 ⟨rfl, e6⟩; subst w6))
      have b6 := nb wr (.cells #[.int .i64 (l : Int), .int .u32 (a : Int), .int .u32 (c : Int)] 79)
      have n6 : IsN (wr.alloc (.cells #[.int .i64 (l : Int), .int .u32 (a : Int), .int .u32 (c : Int)] 79)) wr.heap.size (l, a, c) := IsN.new wr (l, a, c)
      have s6 := s5.out.below b6
      have i6 := i5.out.below b6
      have B6 := Rf.below_far B5.out b6
      generalize wr.alloc (.cells #[.int .i64 (l : Int), .int .u32 (a : Int), .int .u32 (c : Int)] 79) = w6 at b6 n6 s6 i6 B6 ⊢
      generalize wr.heap.size = q6 at n6 ⊢
      have KQ : ∀ q, Calls Try.prog 32 #[.pointer (some ⟨S, 0, none⟩)] (w6.drewN q) fun e w' => e = .returned (.int .i64 (M.n : Int)) ∧ w' = w6.drewN q := fun q => KV.out _ (s6.drewN q)
      have D0 : ∀ q, (w6.drewN q).cell? ⟨g, 0, none⟩ = some (.pointer (some ⟨S, 0, none⟩)) := fun q => i6.store
      have D1 : ∀ q, (w6.drewN q).cell? ⟨q6, 0, none⟩ = some (.int .i64 (l : Int)) := fun q => n6.cells.1
      have s6A : Aside (St w6 S F0 M) := s6
      have B6A : Aside (Below w.heap.size w w6) := B6
      have i6A : Aside (IsW w6 g S I) := i6
      have n6A : Aside (IsN w6 q6 (l, a, c)) := n6
      clear b6 n6 s6 i6 B6 c0 c1 c2 c3 i5 s5 B5 KV
      go_quiet ((go_at_call 32; exact Calls.quiet_of_same (KQ _)))
      have s7 : Aside (St (w6.drewN nq) S F0 M) := s6A.out.drewN nq
      have i7 : Aside (IsW (w6.drewN nq) g S I) := i6A.out
      have n7 : Aside (IsN (w6.drewN nq) q6 (l, a, c)) := n6A.out
      have B7 : Aside (Below w.heap.size w (w6.drewN nq)) := ⟨B6A.out.os, B6A.out.tape, B6A.out.output, B6A.out.size, B6A.out.block⟩
      clear s6A B6A i6A n6A KQ D0 D1
      generalize w6.drewN nq = w7 at s7 i7 n7 B7 ⊢
      have c0 := i7.out.store
      obtain ⟨m0, m1, m2⟩ := n7.out.cells
      have k0 := K0.out _ s7.out
      have k1 := KH.out _ s7.out
      clear K0 KH
      by_cases hln : l < M.n
      · have hli : (l : Int) < (M.n : Int) := by omega
        have fin : Aside (x < 2 ∨ x ∈ M.hs ∧ (I (M.lev x)).1 < M.n) := p1.out (p2.out hln)
        clear hln m1 m2 k0 k1 nx nl nd p1 p2
        go_wp2_with fail
        go_ret
        exact ⟨x, rfl, gx.out, fin.out, B7.out⟩
      · have hli : ¬ (l : Int) < (M.n : Int) := by omega
        have nxt := nx.out hln
        have nxA : Aside (Goes M I h y) := nxt
        clear hln nx p1 p2 nxt
        by_cases a1 : a = 1
        · subst a1
          have ey : Aside (y = (M.nd x).2.2) := by have := nd.out; rwa [if_pos rfl] at this
          clear nd k0
          generalize (M.nd x).2.2 = z at k1 ey
          go_wp2_with (first
            | (go_at_call 20; refine k1.mono ?_; clear k1; rintro e w8 ⟨rfl, e8⟩; subst w8))
          go_roundg (gk - 1)
          case measure => have := hx.out; omega
          case rel =>
            have h1 := hx.out
            have h2 := hLA.out
            have h3 := nl.out
            have h4 := hlA.out
            obtain rfl : y = z := ey.out
            exact ⟨y, rfl, (by show _ ≤ _; omega), nxA, i7, s7, B7⟩
        · have a1i : ¬ (a : Int) = 1 := by omega
          have ey : Aside (y = (M.nd x).2.1) := by have := nd.out; rwa [if_neg a1] at this
          clear nd k1 a1
          generalize (M.nd x).2.1 = z at k0 ey
          go_wp2_with (first
            | (go_at_call 46; refine k0.mono ?_; clear k0; rintro e w8 ⟨rfl, e8⟩; subst w8))
          go_roundg (gk - 1)
          case measure => have := hx.out; omega
          case rel =>
            have h1 := hx.out
            have h2 := hLA.out
            have h3 := nl.out
            have h4 := hlA.out
            obtain rfl : y = z := ey.out
            exact ⟨y, rfl, (by show _ ≤ _; omega), nxA, i7, s7, B7⟩
/-- What top tells. -/
structure IsTop (M : Mdl) (I : Nat → Nd) (j k T : Nat) : Prop where
  le : T ≤ M.n
  low : ∀ i, j ≤ i → i < k → T ≤ (I i).1
  most : ∀ K, K ≤ M.n → (∀ i, j ≤ i → i < k → K ≤ (I i).1) → K ≤ T
theorem IsTop.start (M : Mdl) (I : Nat → Nd) (j : Nat) : IsTop M I j j M.n := ⟨Nat.le_refl _, fun i a b => by omega, fun K h _ => h⟩
theorem IsTop.next {j k T : Nat} (t : IsTop M I j k T) (hj : j ≤ k) : IsTop M I j (k + 1) (min T (I k).1) := by
  refine ⟨Nat.le_trans (Nat.min_le_left _ _) t.le, fun i a b => ?_, fun K h q => Nat.le_min.2 ⟨t.most K h fun i a b => q i a (by omega), q k hj (by omega)⟩⟩
  by_cases e : i = k
  · rw [e]; exact Nat.min_le_right _ _
  · exact Nat.le_trans (Nat.min_le_left _ _) (t.low i a (by omega))
theorem run_minn (x y : Int) (w : World) : (Builtin.min_ #[3, 3] 3 #[.int .i64 x, .int .i64 y]).run Try.prog w = .ok (.int .i64 (min x y)) w := by
  have h1 := run_min2 x y
  unfold Builtin.min_
  go_simp
set_option maxRecDepth 100000 in
set_option maxHeartbeats 2000000 in
theorem ctop_any (s : St w S F0 M) (hm : h ∈ M.hs) : Calls Try.prog 48 #[.agg (wA S I), .int .u32 (h : Int)] w fun e w' => ∃ T : Nat, e = .returned (.int .i64 (T : Int)) ∧ IsTop M I (M.lev h) M.n T ∧ Below w.heap.size w w' := by
  have ok := s.ok
  have n8 := ok.le8
  have hl : M.lev h < M.n := by rw [Mdl.lev_in ok hm]; exact ok.lv h hm
  have KL : Aside (∀ u, St u S F0 M → Calls Try.prog 19 #[.pointer (some ⟨S, 0, none⟩), .int .u32 (h : Int)] u fun e w' => e = .returned (.int .i64 (M.lev h : Int)) ∧ w' = u) := fun u su => lv_any su (.inr hm)
  generalize M.lev h = L at hl KL
  clear hm ok
  go_enter Try.func48, Try.ntmps48
  go_upto_region 1 with fail
  have i4 := IsW.new w S I
  have B4 := nb w (.cells (wA S I) 82)
  generalize w.alloc (.cells (wA S I) 82) = w4 at i4 B4 ⊢
  have s4 := s.below B4
  have i4A : Aside (IsW w4 w.heap.size S I) := i4
  have B4A : Aside (Below w.heap.size w w4) := B4
  obtain ⟨g, hg⟩ : ∃ g, w.heap.size = g := ⟨_, rfl⟩
  rw [hg] at i4A ⊢
  have c0 := i4A.out.store
  have K1 := s_vars s4
  have KV : ∀ q, Calls Try.prog 32 #[.pointer (some ⟨S, 0, none⟩)] (w4.drewN q) fun e w' => e = .returned (.int .i64 (M.n : Int)) ∧ w' = w4.drewN q := fun q => s_vars (s4.drewN q)
  have KQ : ∀ q, Calls Try.prog 19 #[.pointer (some ⟨S, 0, none⟩), .int .u32 (h : Int)] (w4.drewN q) fun e w' => e = .returned (.int .i64 (L : Int)) ∧ w' = w4.drewN q := fun q => KL.out _ (s4.drewN q)
  have D0 : ∀ q, (w4.drewN q).cell? ⟨g, 0, none⟩ = some (.pointer (some ⟨S, 0, none⟩)) := fun q => i4A.out.store
  have s4A : Aside (St w4 S F0 M) := s4
  clear s i4 B4 hg KL s4
  have e1 : (L : Int) ≤ (M.n : Int) := by omega
  have e2 : (M.n : Int) ≤ 8 := by omega
  have e3 : ¬ 8 = L := by omega
  go_upto_region 2 with (first
    | (go_at_call 32; refine K1.mono ?_; clear K1; rintro e w6 ⟨rfl, e6⟩; subst w6))
  go_quiet (first
    | (go_at_call 32; exact Calls.quiet_of_same (KV _))
    | (go_at_call 19; exact Calls.quiet_of_same (KQ _)))
  have s5 : Aside (IsW (w4.drewN nq) g S I) := i4A.out
  have B5 : Aside (Below w.heap.size w (w4.drewN nq)) := ⟨B4A.out.os, B4A.out.tape, B4A.out.output, B4A.out.size, B4A.out.block⟩
  have T0 : Aside (IsTop M I L (L + 0) M.n) := IsTop.start M I L
  have hlA : Aside (L < M.n ∧ M.n ≤ 8) := ⟨hl, n8⟩
  clear KV KQ D0 c0 s4A i4A B4A e1 e2 e3 hl n8
  generalize w4.drewN nq = w5 at s5 B5 ⊢
  go_upto_region 3 with fail
  go_loopg [21, 5, 7] (M.n - L) (fun gn si sl _s7 wr => ∃ j T : Nat, j + gn = M.n - L ∧ si = .int .i64 (j : Int) ∧ sl = .int .i64 (T : Int) ∧ Aside (IsTop M I L (L + j) T) ∧ Aside (IsW wr g S I) ∧ Aside (Below w.heap.size w wr))
  case atStart => exact ⟨0, M.n, by omega, rfl, rfl, T0, s5, B5⟩
  case round =>
    obtain ⟨j, T, hj, rfl, rfl, tj, i6, B6⟩ := hrel
    have hJ : Aside (j + gk = M.n - L) := hj
    clear hj s5 B5 T0
    by_cases hjn : j < M.n - L
    · have hji : (j : Int) < ((M.n - L : Nat) : Int) := by omega
      have lj : L + j < 8 := by have := hlA.out; omega
      have c1 := i6.out.lev lj
      have c2 := i6.out.lo lj
      have c3 := i6.out.hi lj
      rw [show 1 + (L + j) * 3 = 1 + L * 3 + j * 3 by omega] at c1 c2 c3
      have tn : Aside (IsTop M I L (L + (j + 1)) (min T (I (L + j)).1)) := tj.out.next (by omega)
      obtain ⟨⟨l, a, c⟩, ht⟩ : ∃ t, I (L + j) = t := ⟨_, rfl⟩
      rw [ht] at c1 c2 c3 tn
      dsimp only at c1 c2 c3 tn
      obtain ⟨m, hmin⟩ : ∃ m, min T l = m := ⟨_, rfl⟩
      rw [hmin] at tn
      have hm : ∀ u, (Builtin.min_ #[3, 3] 3 #[.int .i64 (T : Int), .int .i64 (l : Int)]).run Try.prog u = .ok (.int .i64 (m : Int)) u := fun u => by
        rw [run_minn, ← hmin]
        congr 2
        omega
      have b7 := nb wr (.cells #[.int .i64 (l : Int), .int .u32 (a : Int), .int .u32 (c : Int)] 79)
      have i7 : Aside (IsW (wr.alloc (.cells #[.int .i64 (l : Int), .int .u32 (a : Int), .int .u32 (c : Int)] 79)) g S I) := i6.out.below b7
      have B7 : Aside (Below w.heap.size w (wr.alloc (.cells #[.int .i64 (l : Int), .int .u32 (a : Int), .int .u32 (c : Int)] 79))) := Rf.below_far B6.out b7
      have jA : Aside (j < M.n - L) := hjn
      have j8 : (j : Int) < 8 := by omega
      clear ht hmin lj hjn b7 i6 B6 tj
      go_wp2_with fail
      go_roundg (gk - 1)
      case measure => have := hJ.out; have := jA.out; omega
      case rel =>
        have := hJ.out
        have := jA.out
        exact ⟨j + 1, m, by omega, rfl, rfl, tn, i7, B7⟩
    · have ej : j = M.n - L := by have := hJ.out; omega
      have hji : ¬ (j : Int) < ((M.n - L : Nat) : Int) := by omega
      have tn : Aside (IsTop M I L M.n T) := by
        have := tj.out
        have q := hlA.out
        rwa [show L + j = M.n by omega] at this
      clear ej hjn tj i6
      go_wp2_with fail
      go_ret
      exact ⟨T, rfl, tn.out, B6.out⟩
end
end Go.Proofs.Ytbhjcaoiejdkfaa
