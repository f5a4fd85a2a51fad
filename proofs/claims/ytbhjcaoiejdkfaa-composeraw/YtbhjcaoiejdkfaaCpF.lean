/-
  Package compose by its face: Compose, Subst, Rename.
-/
import Derived.Test.YtbhjcaoiejdkfaaCpA
import Derived.Test.YtbhjcaoiejdkfaaLgc
namespace Go.Proofs.Ytbhjcaoiejdkfaa
open Go Go.RowKit
open Rf (fixAt fixF)

theorem zero_walk (S : Nat) : wA S (fun _ => (0, 0, 0)) = #[.pointer (some ⟨S, 0, none⟩), .int .i64 0, .int .u32 0, .int .u32 0, .int .i64 0, .int .u32 0, .int .u32 0, .int .i64 0, .int .u32 0, .int .u32 0, .int .i64 0, .int .u32 0, .int .u32 0, .int .i64 0, .int .u32 0, .int .u32 0, .int .i64 0, .int .u32 0, .int .u32 0, .int .i64 0, .int .u32 0, .int .u32 0, .int .i64 0, .int .u32 0, .int .u32 0] := by
  unfold wA
  simp [List.range_succ, wcell]
theorem zero_one (S : Nat) : (#[.pointer (some ⟨S, 0, none⟩), .int .i64 0, .int .u32 0, .int .u32 0, .int .i64 0, .int .u32 0, .int .u32 0, .int .i64 0, .int .u32 0, .int .u32 0, .int .i64 0, .int .u32 0, .int .u32 0, .int .i64 0, .int .u32 0, .int .u32 0, .int .i64 0, .int .u32 0, .int .u32 0, .int .i64 0, .int .u32 0, .int .u32 0, .int .i64 0, .int .u32 0, .int .u32 0] : Array Value).all (·.oneCell') = true := by
  rw [← zero_walk S]
  exact wA_one
theorem info_walk : (Try.prog.info? 82).map (·.size) = some 25 := by kernel_rfl
theorem zero_new (w : World) (S : Nat) : IsW ((w.alloc (.cells #[.pointer none, .int .i64 0, .int .u32 0, .int .u32 0, .int .i64 0, .int .u32 0, .int .u32 0, .int .i64 0, .int .u32 0, .int .u32 0, .int .i64 0, .int .u32 0, .int .u32 0, .int .i64 0, .int .u32 0, .int .u32 0, .int .i64 0, .int .u32 0, .int .u32 0, .int .i64 0, .int .u32 0, .int .u32 0, .int .i64 0, .int .u32 0, .int .u32 0] 82)).setRow w.heap.size #[.pointer (some ⟨S, 0, none⟩), .int .i64 0, .int .u32 0, .int .u32 0, .int .i64 0, .int .u32 0, .int .u32 0, .int .i64 0, .int .u32 0, .int .u32 0, .int .i64 0, .int .u32 0, .int .u32 0, .int .i64 0, .int .u32 0, .int .u32 0, .int .i64 0, .int .u32 0, .int .u32 0, .int .i64 0, .int .u32 0, .int .u32 0, .int .i64 0, .int .u32 0, .int .u32 0]) w.heap.size S (fun _ => (0, 0, 0)) ∧ Below w.heap.size w ((w.alloc (.cells #[.pointer none, .int .i64 0, .int .u32 0, .int .u32 0, .int .i64 0, .int .u32 0, .int .u32 0, .int .i64 0, .int .u32 0, .int .u32 0, .int .i64 0, .int .u32 0, .int .u32 0, .int .i64 0, .int .u32 0, .int .u32 0, .int .i64 0, .int .u32 0, .int .u32 0, .int .i64 0, .int .u32 0, .int .u32 0, .int .i64 0, .int .u32 0, .int .u32 0] 82)).setRow w.heap.size #[.pointer (some ⟨S, 0, none⟩), .int .i64 0, .int .u32 0, .int .u32 0, .int .i64 0, .int .u32 0, .int .u32 0, .int .i64 0, .int .u32 0, .int .u32 0, .int .i64 0, .int .u32 0, .int .u32 0, .int .i64 0, .int .u32 0, .int .u32 0, .int .i64 0, .int .u32 0, .int .u32 0, .int .i64 0, .int .u32 0, .int .u32 0, .int .i64 0, .int .u32 0, .int .u32 0]) := by
  rw [← zero_walk S]
  refine ⟨setRow_heap _ _ _ _ 82 _ (heap_alloc_new w _), ?_⟩
  exact ((Below.refl _ w).alloc (Nat.le_refl _) _).trans ⟨rfl, rfl, rfl, by simp [World.setRow], fun k hk => setRow_other _ _ k _ (by omega)⟩
section
variable {w : World} {S f g k : Nat} {F0 : Nat → Prop} {M : Mdl} {I : Nat → Nd}
/-- The first so many variables, each itself. -/
def fstI (j : Nat) : Nat → Nd := fun i => if i < j then varI i else (0, 0, 0)
theorem first_put (j : Nat) : putI (fstI j) j (varI j) = fstI (j + 1) := funext fun i => by
  unfold putI fstI
  by_cases c : i = j
  · rw [if_pos c, if_pos (by omega), c]
  · rw [if_neg c]
    by_cases d : i < j
    · rw [if_pos d, if_pos (by omega)]
    · rw [if_neg d, if_neg (by omega)]
theorem variable_any (l : Nat) (w : World) : Calls Try.prog 33 #[.int .i64 (l : Int)] w fun e w' => e = .returned (.agg #[.int .i64 (l : Int), .int .u32 0, .int .u32 1]) ∧ Below w.heap.size w w' := by
  go_enter Try.func33, Try.ntmps33
  go_wp2_with fail
  refine bodyPost_ret (results_in (t := varI l) rfl rfl (IsN.new w (varI l))) rfl ⟨rfl, nb w _⟩
set_option maxRecDepth 100000 in
set_option maxHeartbeats 2000000 in
theorem compose_op (s : St w S F0 M) (hf : M.isNode f) (hg : M.isNode g) {L : Nat} (hL : L < M.n) :
    Calls Try.prog 14 #[.pointer (some ⟨S, 0, none⟩), .int .u32 (f : Int), .int .i64 (M.v L : Int), .int .u32 (g : Int)] w (Left S F0 w M 0 (comF (M.v L) (M.tbl f) (M.tbl g))) := by
  have o := s.ok
  have n8 := o.le8
  have vlt := o.vlt L hL
  have Kf := s_is s f (by have := Mdl.isNode_lt o hf; omega)
  rw [Mdl.nodeB_true hf] at Kf
  have Kg := s_is s g (by have := Mdl.isNode_lt o hg; omega)
  rw [Mdl.nodeB_true hg] at Kg
  have K1 := s_order' s
  obtain ⟨v, hv⟩ : ∃ v, M.v L = v := ⟨_, rfl⟩
  have hvA : Aside (M.v L = v) := hv
  rw [hv] at vlt ⊢
  have KA : Aside (∀ u {I : Nat → Nd}, St u S F0 M → (∀ i, WI M (I i)) → (∀ i, i < M.n → I i = if i = L then nodeI M g else varI i) → Calls Try.prog 35 #[.agg (wA S I), .int .u32 (f : Int)] u (Left S F0 u M 0 (comF v (M.tbl f) (M.tbl g)))) := fun u I su wi e => by
    have := canswer_any (S := S) M.n (Nat.le_refl _) su wi hf (Nat.zero_le _) (fun _ _ _ => Nat.zero_le _)
    refine this.mono fun e' w' q => ?_
    obtain ⟨x, er, M', F', h1, h2, h3, h4⟩ := q
    refine ⟨x, er, M', F', h1, ?_, h3, h4⟩
    rw [← hv]
    exact h2.like o (sub_dep o hf wi fun _ _ _ => Nat.zero_le _) (sub_com o hf hg hL e)
  have KN : Aside (∀ u {I : Nat → Nd}, St u S F0 M → Calls Try.prog 34 #[.agg (wA S I), .int .u32 (g : Int)] u fun e w' => e = .returned (.agg (inA (nodeI M g))) ∧ Below u.heap.size u w') := fun u I su => cnode_any su hg
  have KV : Aside (∀ u, St u S F0 M → Calls Try.prog 32 #[.pointer (some ⟨S, 0, none⟩)] u fun e w' => e = .returned (.int .i64 (M.n : Int)) ∧ w' = u) := fun u su => s_vars su
  have wg : Aside (WI M (nodeI M g)) := node_wi o hg
  have oA : Aside M.Ok := o
  have hLA : Aside (L < M.n ∧ M.n ≤ 8) := ⟨hL, n8⟩
  clear hv hf hg
  go_enter Try.func14, Try.ntmps14
  go_upto_region 7 with (first
    | (go_at_call 15; refine Kf.mono ?_; clear Kf; rintro e w1 ⟨rfl, e1⟩; subst w1)
    | (go_at_call 15; refine Kg.mono ?_; clear Kg; rintro e w1 ⟨rfl, e1⟩; subst w1)
    | (go_at_call 7; refine K1.mono ?_; clear K1; rintro e w1 ⟨P, l, rfl, o1, inv, b1, p1⟩; have K2 := Od.level_in o1 n8 v vlt; rw [show l v = L by rw [← hvA.out]; exact inv L hL] at K2; clear inv)
    | (go_at_call 31; refine K2.mono ?_; clear K2; rintro e w2 ⟨rfl, e2⟩; subst w2)
    | refine wpList_store_row rfl 82 (.tmp 11) (.tmp 30) rfl w1.heap.size #[.pointer (some ⟨S, 0, none⟩), .int .i64 0, .int .u32 0, .int .u32 0, .int .i64 0, .int .u32 0, .int .u32 0, .int .i64 0, .int .u32 0, .int .u32 0, .int .i64 0, .int .u32 0, .int .u32 0, .int .i64 0, .int .u32 0, .int .u32 0, .int .i64 0, .int .u32 0, .int .u32 0, .int .i64 0, .int .u32 0, .int .u32 0, .int .i64 0, .int .u32 0, .int .u32 0] rfl rfl 82 _ (heap_alloc_new w1 _) info_walk rfl (zero_one S) ?_)
  obtain ⟨i3, b3⟩ := zero_new w1 S
  have B3 : Aside (Below w.heap.size w ((w1.alloc (.cells #[.pointer none, .int .i64 0, .int .u32 0, .int .u32 0, .int .i64 0, .int .u32 0, .int .u32 0, .int .i64 0, .int .u32 0, .int .u32 0, .int .i64 0, .int .u32 0, .int .u32 0, .int .i64 0, .int .u32 0, .int .u32 0, .int .i64 0, .int .u32 0, .int .u32 0, .int .i64 0, .int .u32 0, .int .u32 0, .int .i64 0, .int .u32 0, .int .u32 0] 82)).setRow w1.heap.size #[.pointer (some ⟨S, 0, none⟩), .int .i64 0, .int .u32 0, .int .u32 0, .int .i64 0, .int .u32 0, .int .u32 0, .int .i64 0, .int .u32 0, .int .u32 0, .int .i64 0, .int .u32 0, .int .u32 0, .int .i64 0, .int .u32 0, .int .u32 0, .int .i64 0, .int .u32 0, .int .u32 0, .int .i64 0, .int .u32 0, .int .u32 0, .int .i64 0, .int .u32 0, .int .u32 0])) := Rf.below_far b1 b3
  have s3 : Aside (St ((w1.alloc (.cells #[.pointer none, .int .i64 0, .int .u32 0, .int .u32 0, .int .i64 0, .int .u32 0, .int .u32 0, .int .i64 0, .int .u32 0, .int .u32 0, .int .i64 0, .int .u32 0, .int .u32 0, .int .i64 0, .int .u32 0, .int .u32 0, .int .i64 0, .int .u32 0, .int .u32 0, .int .i64 0, .int .u32 0, .int .u32 0, .int .i64 0, .int .u32 0, .int .u32 0] 82)).setRow w1.heap.size #[.pointer (some ⟨S, 0, none⟩), .int .i64 0, .int .u32 0, .int .u32 0, .int .i64 0, .int .u32 0, .int .u32 0, .int .i64 0, .int .u32 0, .int .u32 0, .int .i64 0, .int .u32 0, .int .u32 0, .int .i64 0, .int .u32 0, .int .u32 0, .int .i64 0, .int .u32 0, .int .u32 0, .int .i64 0, .int .u32 0, .int .u32 0, .int .i64 0, .int .u32 0, .int .u32 0]) S F0 M) := (s.below b1).below b3
  have i3A : Aside (IsW ((w1.alloc (.cells #[.pointer none, .int .i64 0, .int .u32 0, .int .u32 0, .int .i64 0, .int .u32 0, .int .u32 0, .int .i64 0, .int .u32 0, .int .u32 0, .int .i64 0, .int .u32 0, .int .u32 0, .int .i64 0, .int .u32 0, .int .u32 0, .int .i64 0, .int .u32 0, .int .u32 0, .int .i64 0, .int .u32 0, .int .u32 0, .int .i64 0, .int .u32 0, .int .u32 0] 82)).setRow w1.heap.size #[.pointer (some ⟨S, 0, none⟩), .int .i64 0, .int .u32 0, .int .u32 0, .int .i64 0, .int .u32 0, .int .u32 0, .int .i64 0, .int .u32 0, .int .u32 0, .int .i64 0, .int .u32 0, .int .u32 0, .int .i64 0, .int .u32 0, .int .u32 0, .int .i64 0, .int .u32 0, .int .u32 0, .int .i64 0, .int .u32 0, .int .u32 0, .int .i64 0, .int .u32 0, .int .u32 0]) w1.heap.size S (fstI 0)) := i3
  have qA : Aside (w.heap.size ≤ w1.heap.size) := b1.size
  generalize (w1.alloc (.cells #[.pointer none, .int .i64 0, .int .u32 0, .int .u32 0, .int .i64 0, .int .u32 0, .int .u32 0, .int .i64 0, .int .u32 0, .int .u32 0, .int .i64 0, .int .u32 0, .int .u32 0, .int .i64 0, .int .u32 0, .int .u32 0, .int .i64 0, .int .u32 0, .int .u32 0, .int .i64 0, .int .u32 0, .int .u32 0, .int .i64 0, .int .u32 0, .int .u32 0] 82)).setRow w1.heap.size #[.pointer (some ⟨S, 0, none⟩), .int .i64 0, .int .u32 0, .int .u32 0, .int .i64 0, .int .u32 0, .int .u32 0, .int .i64 0, .int .u32 0, .int .u32 0, .int .i64 0, .int .u32 0, .int .u32 0, .int .i64 0, .int .u32 0, .int .u32 0, .int .i64 0, .int .u32 0, .int .u32 0, .int .i64 0, .int .u32 0, .int .u32 0, .int .i64 0, .int .u32 0, .int .u32 0] = w3 at B3 s3 i3A ⊢
  generalize w1.heap.size = q at i3A qA ⊢
  have K3 := KV.out _ s3.out
  clear i3 b3 b1 o1 p1 s KV o hL vlt n8 hvA
  go_upto_region 8 with (first
    | (go_at_call 32; refine K3.mono ?_; clear K3; rintro e w2 ⟨rfl, e2⟩; subst w2))
  go_loopg [33, 12] M.n (fun gn si _sl wr => ∃ j : Nat, j + gn = M.n ∧ si = .int .i64 (j : Int) ∧ Aside (IsW wr q S (fstI j)) ∧ Aside (St wr S F0 M) ∧ Aside (Below w.heap.size w wr))
  case atStart => exact ⟨0, by omega, rfl, i3A, s3, B3⟩
  case round =>
    obtain ⟨j, hj, rfl, i4, s4, B4⟩ := hrel
    have hJ : Aside (j + gk = M.n) := hj
    clear hj i3A s3 B3
    by_cases hjn : j < M.n
    · have hji : (j : Int) < (M.n : Int) := by omega
      have j8 : (j : Int) < 8 := by have := hLA.out; omega
      have jA : Aside (j < M.n ∧ j < 8) := ⟨hjn, by omega⟩
      have K4 := variable_any j wr
      clear hjn
      go_wp2_with (first
        | (go_at_call 33; refine K4.mono ?_; clear K4; rintro e w5 ⟨rfl, b5⟩; have i5 := i4.out.below b5; have c0 := i5.lev jA.out.2; have c1 := i5.lo jA.out.2; have c2 := i5.hi jA.out.2; have f0 := i5.free (1 + j * 3); have f1 := i5.free (1 + j * 3 + 1); have f2 := i5.free (1 + j * 3 + 2)))
      go_roundg (gk - 1)
      case measure => have := hJ.out; have := jA.out; omega
      case rel =>
        have h1 := hJ.out
        have h2 := jA.out
        have T := laidI_turned w5 q j (varI j)
        have B5 := Rf.below_far B4.out b5
        have s5 := s4.out.below b5
        have e := first_put j
        refine ⟨j + 1, by omega, rfl, ?_, ?_, ?_⟩
        · show IsW _ _ _ _
          rw [← e]
          exact i5.laid j (varI j)
        · exact s5.kept fun x hx => T.block x (s5.lt x hx) fun e => by
            subst e
            exact s5.row i5 (by decide) hx
        · exact B5.trans (T.below B5.size qA.out)
    · have ej : j = M.n := by have := hJ.out; omega
      subst ej
      have hji : ¬ (M.n : Int) < (M.n : Int) := by omega
      have i5 : Aside (wr.heap[q]? = some (.cells (wA S (fstI M.n)) 82 (0, 0))) := i4.out
      have K5 := KN.out wr (I := fstI M.n) s4.out
      have szA : Aside ((wA S (fstI M.n)).size = 25) := wA_size
      have KA' : Aside (∀ u, St u S F0 M → Calls Try.prog 35 #[.agg (wA S (putI (fstI M.n) L (nodeI M g))), .int .u32 (f : Int)] u (Left S F0 u M 0 (comF v (M.tbl f) (M.tbl g)))) := fun u su => KA.out u su (fun i => by
          unfold putI fstI
          by_cases c : i = L
          · rw [if_pos c]; exact wg.out
          · rw [if_neg c]
            by_cases d : i < M.n
            · rw [if_pos d]; exact var_wi d
            · rw [if_neg d]; exact zero_wi oA.out) (fun i hi => by
          unfold putI fstI
          rw [if_pos hi])
      have sz2 : Aside ((wA S (putI (fstI M.n) L (nodeI M g))).size = 25) := wA_size
      have L8 : (L : Int) < 8 := by have := hLA.out; omega
      have lA : Aside (L < 8) := by show L < 8; omega
      unfold inA at K5
      obtain ⟨t, ht⟩ : ∃ t, nodeI M g = t := ⟨_, rfl⟩
      rw [ht] at K5 KA' sz2
      clear KN KA hjn ht wg
      go_upto_region 13 with (first
        | refine wpList_load_row rfl 82 (.tmp 11) rfl q rfl 82 _ (0, 0) _ i5.out Try.underlying82 rfl (by rw [szA.out]; exact info_walk) ?_
        | (go_at_call 34; refine K5.mono ?_; clear K5; rintro e w6 ⟨rfl, b6⟩; have i6 := i4.out.below b6; have c0 := i6.lev lA.out; have c1 := i6.lo lA.out; have c2 := i6.hi lA.out; have f0 := i6.free (1 + L * 3); have f1 := i6.free (1 + L * 3 + 1); have f2 := i6.free (1 + L * 3 + 2)))
      have s6 := s4.out.below b6
      have T := laidI_turned w6 q L t
      have i7 : IsW (laidI w6 q L t) q S _ := i6.laid L t
      have B6 := Rf.below_far B4.out b6
      have B7 : Aside (Below w.heap.size w (laidI w6 q L t)) := B6.trans (T.below B6.size qA.out)
      have s7 : St (laidI w6 q L t) S F0 M := s6.kept fun x hx => T.block x (s6.lt x hx) fun e => by
        subst e
        exact s6.row i6 (by decide) hx
      unfold laidI at i7 B7 s7
      generalize ((w6.setCell ⟨q, 1 + L * 3, none⟩ (.int .i64 (t.1 : Int))).setCell ⟨q, 1 + L * 3 + 1, none⟩ (.int .u32 (t.2.1 : Int))).setCell ⟨q, 1 + L * 3 + 2, none⟩ (.int .u32 (t.2.2 : Int)) = w7 at i7 B7 s7 ⊢
      have i7A : Aside (w7.heap[q]? = some (.cells (wA S (putI (fstI M.n) L t)) 82 (0, 0))) := i7
      have K7 := KA'.out w7 s7
      clear c0 c1 c2 f0 f1 f2 i5 i4 i6 s4 B4 s6 B6 b6 T KA' i7 szA
      go_wp2_with (first
        | refine wpList_load_row rfl 82 (.tmp 11) rfl q rfl 82 _ (0, 0) _ i7A.out Try.underlying82 rfl (by rw [sz2.out]; exact info_walk) ?_
        | (go_at_call 35; refine K7.mono ?_; clear K7; rintro e w8 ⟨p, er, M8, F8, rfl, t8, s8, b8⟩; have tA : Aside (Told M 0 (comF v (M.tbl f) (M.tbl g)) p er M8) := t8; clear t8))
      go_ret2
      exact ⟨p, er, M8, F8, rfl, tA.out, s8, (Wf.of_below B7.out F0).trans b8⟩
end
end Go.Proofs.Ytbhjcaoiejdkfaa
