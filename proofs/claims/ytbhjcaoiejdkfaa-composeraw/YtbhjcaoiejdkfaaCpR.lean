/-
  Package compose by its face: what Compose refuses; Rename.
-/
import Derived.Test.YtbhjcaoiejdkfaaCpF
import Derived.Test.YtbhjcaoiejdkfaaQtc
namespace Go.Proofs.Ytbhjcaoiejdkfaa
open Go Go.RowKit
open Rf (fixAt fixF IntsAt)

section
variable {w : World} {S f g k : Nat} {F0 : Nat → Prop} {M : Mdl} {I : Nat → Nd}
set_option maxHeartbeats 1000000 in
theorem compose_node (v : Int) (s : St w S F0 M) (hf : f < 4294967296) (hg : g < 4294967296) (no : ¬ M.isNode f ∨ ¬ M.isNode g) :
    Calls Try.prog 14 #[.pointer (some ⟨S, 0, none⟩), .int .u32 (f : Int), .int .i64 v, .int .u32 (g : Int)] w fun e w' => e = .returned (.tuple #[.int .u32 0, .int .i64 101]) ∧ w' = w := by
  have Kf := s_is s f hf
  have Kg := s_is s g hg
  by_cases c : M.isNode f
  · rw [Mdl.nodeB_true c] at Kf
    rw [Mdl.nodeB_false (no.resolve_left fun q => q c)] at Kg
    clear no c
    go_enter Try.func14, Try.ntmps14
    go_wp2_with (first
      | (go_at_call 15; refine Kf.mono ?_; clear Kf; rintro e w1 ⟨rfl, e1⟩; subst w1)
      | (go_at_call 15; refine Kg.mono ?_; clear Kg; rintro e w1 ⟨rfl, e1⟩; subst w1))
    go_ret2
    exact ⟨rfl, rfl⟩
  · rw [Mdl.nodeB_false c] at Kf
    clear no c Kg
    go_enter Try.func14, Try.ntmps14
    go_wp2_with (first
      | (go_at_call 15; refine Kf.mono ?_; clear Kf; rintro e w1 ⟨rfl, e1⟩; subst w1))
    go_ret2
    exact ⟨rfl, rfl⟩
set_option maxHeartbeats 1000000 in
theorem compose_var (v : Int) (s : St w S F0 M) (hf : M.isNode f) (hg : M.isNode g) (hv : v < 0 ∨ (M.n : Int) ≤ v) :
    Calls Try.prog 14 #[.pointer (some ⟨S, 0, none⟩), .int .u32 (f : Int), .int .i64 v, .int .u32 (g : Int)] w fun e w' => e = .returned (.tuple #[.int .u32 0, .int .i64 40]) ∧ Below w.heap.size w w' := by
  have o := s.ok
  have Kf := s_is s f (by have := Mdl.isNode_lt o hf; omega)
  rw [Mdl.nodeB_true hf] at Kf
  have Kg := s_is s g (by have := Mdl.isNode_lt o hg; omega)
  rw [Mdl.nodeB_true hg] at Kg
  have K1 := s_order' s
  have hvA : Aside (v < 0 ∨ (M.n : Int) ≤ v) := hv
  clear hv hf hg
  go_enter Try.func14, Try.ntmps14
  go_wp2_with (first
    | (go_at_call 15; refine Kf.mono ?_; clear Kf; rintro e w1 ⟨rfl, e1⟩; subst w1)
    | (go_at_call 15; refine Kg.mono ?_; clear Kg; rintro e w1 ⟨rfl, e1⟩; subst w1)
    | (go_at_call 7; refine K1.mono ?_; clear K1; rintro e w1 ⟨P, l, rfl, o1, inv, b1, p1⟩; have K2 := Od.level_out o1 v hvA.out; clear inv)
    | (go_at_call 31; refine K2.mono ?_; clear K2; rintro e w2 ⟨rfl, e2⟩; subst w2))
  go_ret2
  exact ⟨rfl, b1⟩
/-! ## All variables at once -/
/-- The inputs of the first so many variables. -/
def flI (M : Mdl) (T : Nat → Nd) (k : Nat) : Nat → Nd := fun i => if i < M.n ∧ M.v i < k then T (M.v i) else (0, 0, 0)
theorem fl_put (o : M.Ok) (T : Nat → Nd) {l : Nat → Nat} (inv : ∀ i, i < M.n → l (M.v i) = i) (hk : k < M.n) : putI (flI M T k) (l k) (T k) = flI M T (k + 1) := funext fun i => by
  obtain ⟨h1, h2⟩ := lev_inv o inv hk
  unfold putI flI
  by_cases c : i = l k
  · rw [if_pos c, c, h2, if_pos ⟨h1, by omega⟩]
  · rw [if_neg c]
    by_cases d : i < M.n ∧ M.v i < k
    · rw [if_pos d, if_pos ⟨d.1, by omega⟩]
    · rw [if_neg d, if_neg]
      rintro ⟨d1, d2⟩
      have : M.v i = k := by
        have : ¬ M.v i < k := fun q => d ⟨d1, q⟩
        omega
      exact c (by rw [← this, inv i d1])
theorem fl_wi (o : M.Ok) {T : Nat → Nd} (h : ∀ u, u < M.n → WI M (T u)) (i : Nat) : WI M (flI M T M.n i) := by
  unfold flI
  split
  · next c => exact h _ c.2
  · exact zero_wi o
theorem fl_sub (o : M.Ok) (hf : M.isNode f) {T : Nat → Nd} {G : Nat → Nat → Bool} (e : ∀ u, u < M.n → Eqt (inF M (T u)) (G u)) : Eqt (subF M (flI M T M.n) f) (sbF M.n G (M.tbl f)) :=
  sub_all o hf fun i hi => by
    unfold flI
    rw [if_pos ⟨hi, o.vlt i hi⟩]
    exact e _ (o.vlt i hi)
/-- The answer with all inputs laid. -/
theorem fl_answer (hf : M.isNode f) {T : Nat → Nd} {G : Nat → Nat → Bool} (h : ∀ u, u < M.n → WI M (T u)) (e : ∀ u, u < M.n → Eqt (inF M (T u)) (G u)) (s : St w S F0 M) :
    Calls Try.prog 35 #[.agg (wA S (flI M T M.n)), .int .u32 (f : Int)] w (Left S F0 w M 0 (sbF M.n G (M.tbl f))) := by
  have o := s.ok
  refine (canswer_any (S := S) M.n (Nat.le_refl _) s (fl_wi o h) hf (Nat.zero_le _) (fun _ _ _ => Nat.zero_le _)).mono fun e' w' q => ?_
  obtain ⟨x, er, M', F', h1, h2, h3, h4⟩ := q
  exact ⟨x, er, M', F', h1, h2.like o (sub_dep o hf (fl_wi o h) fun _ _ _ => Nat.zero_le _) (fl_sub o hf e), h3, h4⟩
theorem Od_kept {w' : World} {P n : Nat} {v l : Nat → Nat} (h : Od.IsOrd w P n v l) (k : Below w.heap.size w w') : Od.IsOrd w' P n v l := h.of_block (k.block P h.lt)
/-- What Rename comes to: a number that is no variable, or the answer. -/
def RenL (S : Nat) (F0 : Nat → Prop) (w : World) (M : Mdl) (f : Nat) (Z : Nat → Int) (e : Ending) (w' : World) : Prop :=
  ((∃ u, u < M.n ∧ (Z u < 0 ∨ (M.n : Int) ≤ Z u)) ∧ e = .returned (.tuple #[.int .u32 0, .int .i64 40]) ∧ Below w.heap.size w w') ∨ ((∀ u, u < M.n → 0 ≤ Z u ∧ Z u < M.n) ∧ Left S F0 w M 0 (sbF M.n (fun u => Rf.M (Z u).toNat) (M.tbl f)) e w')
set_option maxRecDepth 100000 in
set_option maxHeartbeats 2000000 in
theorem rename_any (s : St w S F0 M) (hf : M.isNode f) {ad : Option Addr} {cap : Nat} {Z : Nat → Int} (hZ : IntsAt w ad M.n Z) :
    Calls Try.prog 17 #[.pointer (some ⟨S, 0, none⟩), .int .u32 (f : Int), .slice ad M.n cap] w (RenL S F0 w M f Z) := by
  have o := s.ok
  have n8 := o.le8
  have np := o.pos
  obtain ⟨b, off, rfl, hb⟩ := hZ.some (by omega)
  have Kf := s_is s f (by have := Mdl.isNode_lt o hf; omega)
  rw [Mdl.nodeB_true hf] at Kf
  have K1 := s_order' s
  have KV := s_vars s
  have KA : Aside (∀ u {T : Nat → Nd} {G : Nat → Nat → Bool}, (∀ u, u < M.n → WI M (T u)) → (∀ u, u < M.n → Eqt (inF M (T u)) (G u)) → St u S F0 M → Calls Try.prog 35 #[.agg (wA S (flI M T M.n)), .int .u32 (f : Int)] u (Left S F0 u M 0 (sbF M.n G (M.tbl f)))) := fun u T G h e su => fl_answer hf h e su
  have oA : Aside M.Ok := o
  have nA : Aside (M.n ≤ 8) := n8
  clear hf
  go_enter Try.func17, Try.ntmps17
  go_upto_region 6 with (first
    | (go_at_call 15; refine Kf.mono ?_; clear Kf; rintro e w1 ⟨rfl, e1⟩; subst w1)
    | (go_at_call 32; refine KV.mono ?_; clear KV; rintro e w1 ⟨rfl, e1⟩; subst w1)
    | (go_at_call 7; refine K1.mono ?_; clear K1; rintro e w1 ⟨P, l, rfl, o1, inv, b1, p1⟩)
    | refine wpList_store_row rfl 82 (.tmp 9) (.tmp 27) rfl w1.heap.size #[.pointer (some ⟨S, 0, none⟩), .int .i64 0, .int .u32 0, .int .u32 0, .int .i64 0, .int .u32 0, .int .u32 0, .int .i64 0, .int .u32 0, .int .u32 0, .int .i64 0, .int .u32 0, .int .u32 0, .int .i64 0, .int .u32 0, .int .u32 0, .int .i64 0, .int .u32 0, .int .u32 0, .int .i64 0, .int .u32 0, .int .u32 0, .int .i64 0, .int .u32 0, .int .u32 0] rfl rfl 82 _ (heap_alloc_new w1 _) info_walk rfl (zero_one S) ?_)
  obtain ⟨i3, b3⟩ := zero_new w1 S
  have lA : Aside (∀ u, u < M.n → l u < M.n ∧ M.v (l u) = u) := fun u hu => lev_inv o inv hu
  have e0 : flI M (fun u => varI (l (Z u).toNat)) 0 = fun _ => (0, 0, 0) := funext fun i => if_neg (by omega)
  have i3A : Aside (IsW ((w1.alloc (.cells #[.pointer none, .int .i64 0, .int .u32 0, .int .u32 0, .int .i64 0, .int .u32 0, .int .u32 0, .int .i64 0, .int .u32 0, .int .u32 0, .int .i64 0, .int .u32 0, .int .u32 0, .int .i64 0, .int .u32 0, .int .u32 0, .int .i64 0, .int .u32 0, .int .u32 0, .int .i64 0, .int .u32 0, .int .u32 0, .int .i64 0, .int .u32 0, .int .u32 0] 82)).setRow w1.heap.size #[.pointer (some ⟨S, 0, none⟩), .int .i64 0, .int .u32 0, .int .u32 0, .int .i64 0, .int .u32 0, .int .u32 0, .int .i64 0, .int .u32 0, .int .u32 0, .int .i64 0, .int .u32 0, .int .u32 0, .int .i64 0, .int .u32 0, .int .u32 0, .int .i64 0, .int .u32 0, .int .u32 0, .int .i64 0, .int .u32 0, .int .u32 0, .int .i64 0, .int .u32 0, .int .u32 0]) w1.heap.size S (flI M (fun u => varI (l (Z u).toNat)) 0)) := by rw [e0]; exact i3
  have b3A : Aside (Below w1.heap.size w1 ((w1.alloc (.cells #[.pointer none, .int .i64 0, .int .u32 0, .int .u32 0, .int .i64 0, .int .u32 0, .int .u32 0, .int .i64 0, .int .u32 0, .int .u32 0, .int .i64 0, .int .u32 0, .int .u32 0, .int .i64 0, .int .u32 0, .int .u32 0, .int .i64 0, .int .u32 0, .int .u32 0, .int .i64 0, .int .u32 0, .int .u32 0, .int .i64 0, .int .u32 0, .int .u32 0] 82)).setRow w1.heap.size #[.pointer (some ⟨S, 0, none⟩), .int .i64 0, .int .u32 0, .int .u32 0, .int .i64 0, .int .u32 0, .int .u32 0, .int .i64 0, .int .u32 0, .int .u32 0, .int .i64 0, .int .u32 0, .int .u32 0, .int .i64 0, .int .u32 0, .int .u32 0, .int .i64 0, .int .u32 0, .int .u32 0, .int .i64 0, .int .u32 0, .int .u32 0, .int .i64 0, .int .u32 0, .int .u32 0])) := b3
  have put : Aside (∀ j, j < M.n → putI (flI M (fun u => varI (l (Z u).toNat)) j) (l j) (varI (l (Z j).toNat)) = flI M (fun u => varI (l (Z u).toNat)) (j + 1)) := fun j hj => fl_put o _ inv hj
  have s1 : Aside (St w1 S F0 M) := s.below b1
  have z1 : Aside (IntsAt w1 (some ⟨b, off, none⟩) M.n Z) := hZ.kept b1
  have o1A : Aside (Od.IsOrd w1 P M.n M.v l) := o1
  have b1A : Aside (Below w.heap.size w w1) := b1
  generalize (w1.alloc (.cells #[.pointer none, .int .i64 0, .int .u32 0, .int .u32 0, .int .i64 0, .int .u32 0, .int .u32 0, .int .i64 0, .int .u32 0, .int .u32 0, .int .i64 0, .int .u32 0, .int .u32 0, .int .i64 0, .int .u32 0, .int .u32 0, .int .i64 0, .int .u32 0, .int .u32 0, .int .i64 0, .int .u32 0, .int .u32 0, .int .i64 0, .int .u32 0, .int .u32 0] 82)).setRow w1.heap.size #[.pointer (some ⟨S, 0, none⟩), .int .i64 0, .int .u32 0, .int .u32 0, .int .i64 0, .int .u32 0, .int .u32 0, .int .i64 0, .int .u32 0, .int .u32 0, .int .i64 0, .int .u32 0, .int .u32 0, .int .i64 0, .int .u32 0, .int .u32 0, .int .i64 0, .int .u32 0, .int .u32 0, .int .i64 0, .int .u32 0, .int .u32 0, .int .i64 0, .int .u32 0, .int .u32 0] = w3 at i3A b3A ⊢
  obtain ⟨q, hq⟩ : ∃ q, w1.heap.size = q := ⟨_, rfl⟩
  have qA : Aside (w1.heap.size = q) := hq
  rw [hq] at i3A ⊢
  clear hq i3 b3 b1 o1 p1 s hZ o np hb inv e0 n8
  go_upto_region 7 with fail
  go_loopg [30, 10, 11, 12] M.n (fun gn si _s1 _s2 _s3 wr => ∃ j : Nat, j + gn = M.n ∧ si = .int .i64 (j : Int) ∧ Aside (∀ u, u < j → 0 ≤ Z u ∧ Z u < M.n) ∧ Aside (IsW wr q S (flI M (fun u => varI (l (Z u).toNat)) j)) ∧ Aside (Below w1.heap.size w1 wr))
  case atStart => exact ⟨0, by omega, rfl, (fun u hu => absurd hu (by omega)), i3A, b3A⟩
  case round =>
    obtain ⟨j, hj, rfl, rng, i4, b4⟩ := hrel
    have hJ : Aside (j + gk = M.n) := hj
    clear hj i3A b3A
    by_cases hjn : j < M.n
    · have hji : (j : Int) < (M.n : Int) := by omega
      have n8 := nA.out
      have j8 : (j : Int) < 8 := by omega
      have n8i : (M.n : Int) ≤ 8 := by omega
      have c0 := (z1.out.kept b4.out).get hjn
      have o4 := Od_kept o1A.out b4.out
      have jA : Aside (j < M.n) := hjn
      have K3 := Od.level_in o4 n8 j hjn
      by_cases hz : 0 ≤ Z j ∧ Z j < M.n
      · obtain ⟨z, hzz⟩ : ∃ z : Nat, Z j = (z : Int) := ⟨(Z j).toNat, by omega⟩
        have K2 := Od.level_in o4 n8 z (by omega)
        have l1 := lA.out j hjn
        have l2 := lA.out z (by omega)
        have pj := put.out j hjn
        rw [hzz] at c0
        rw [show (Z j).toNat = z by omega] at pj
        have pA : Aside (putI (flI M (fun u => varI (l (Z u).toNat)) j) (l j) (varI (l z)) = flI M (fun u => varI (l (Z u).toNat)) (j + 1)) := pj
        have rngA : Aside (∀ u, u < j + 1 → 0 ≤ Z u ∧ Z u < M.n) := fun u hu => by
          by_cases e : u = j
          · rw [e]; exact hz
          · exact rng.out u (by omega)
        have lj8 : (l j : Int) < 8 := by omega
        have lz0 : ¬ (l z : Int) < 0 := by omega
        have ljA : Aside (l j < 8) := by show l j < 8; omega
        have K4 := variable_any (l z) wr
        clear hjn hz hzz l1 l2 pj rng n8 o4
        generalize l z = lz at K2 K4 lz0 pA
        generalize l j = lj at K3 lj8 ljA pA
        go_wp2_with (first
          | (go_at_call 31; refine K2.mono ?_; clear K2; rintro e w5 ⟨rfl, e5⟩; subst w5)
          | (go_at_call 31; refine K3.mono ?_; clear K3; rintro e w5 ⟨rfl, e5⟩; subst w5)
          | (go_at_call 33; refine K4.mono ?_; clear K4; rintro e w5 ⟨rfl, b5⟩; have i5 := i4.out.below b5; have c1 := i5.lev ljA.out; have c2 := i5.lo ljA.out; have c3 := i5.hi ljA.out; have f0 := i5.free (1 + lj * 3); have f1 := i5.free (1 + lj * 3 + 1); have f2 := i5.free (1 + lj * 3 + 2)))
        go_roundg (gk - 1)
        case measure => have := hJ.out; have := jA.out; omega
        case rel =>
          have h1 := hJ.out
          have h2 := jA.out
          have T := laidI_turned w5 q lj (varI lz)
          have B5 := Rf.below_far b4.out b5
          refine ⟨j + 1, by omega, rfl, rngA, ?_, ?_⟩
          · show IsW _ _ _ _
            rw [← pA.out]
            exact i5.laid lj (varI lz)
          · exact B5.trans (T.below B5.size (Nat.le_of_eq qA.out))
      · have hz' : Z j < 0 ∨ (M.n : Int) ≤ Z j := by omega
        have K2 := Od.level_out o4 (Z j) hz'
        have bad : Aside (∃ u, u < M.n ∧ (Z u < 0 ∨ (M.n : Int) ≤ Z u)) := ⟨j, hjn, hz'⟩
        generalize Z j = zj at K2 c0
        clear hjn hz hz' K3 o4 n8
        go_wp2_with (first
          | (go_at_call 31; refine K2.mono ?_; clear K2; rintro e w5 ⟨rfl, e5⟩; subst w5))
        go_ret2
        exact .inl ⟨bad.out, rfl, Rf.below_far b1A.out b4.out⟩
    · have ej : j = M.n := by have := hJ.out; omega
      subst ej
      have hji : ¬ (M.n : Int) < (M.n : Int) := by omega
      have i5 : Aside (wr.heap[q]? = some (.cells (wA S (flI M (fun u => varI (l (Z u).toNat)) M.n)) 82 (0, 0))) := i4.out
      have szA : Aside ((wA S (flI M (fun u => varI (l (Z u).toNat)) M.n)).size = 25) := wA_size
      have K5 := KA.out wr (T := fun u => varI (l (Z u).toNat)) (G := fun u => Rf.M (Z u).toNat) (fun u hu => var_wi (lA.out _ (by have := rng.out u hu; omega)).1) (fun u hu x _ => by
        rw [var_f, (lA.out _ (by have := rng.out u hu; omega)).2, Rf.M_bit]) (s1.out.below b4.out)
      generalize wA S (flI M (fun u => varI (l (Z u).toNat)) M.n) = A5 at i5 szA K5
      clear hjn KA
      go_wp2_with (first
        | refine wpList_load_row rfl 82 (.tmp 9) rfl q rfl 82 A5 (0, 0) _ i5.out Try.underlying82 rfl (by rw [szA.out]; exact info_walk) ?_
        | (go_at_call 35; refine K5.mono ?_; clear K5; rintro e w8 ⟨p, er, M8, F8, rfl, t8, s8, b8⟩; have tA : Aside (Told M 0 (sbF M.n (fun u => Rf.M (Z u).toNat) (M.tbl f)) p er M8) := t8; clear t8))
      go_ret2
      exact .inr ⟨rng.out, p, er, M8, F8, rfl, tA.out, s8, (Wf.of_below (Rf.below_far b1A.out b4.out) F0).trans b8⟩
set_option maxHeartbeats 1000000 in
theorem rename_node (s : St w S F0 M) (hf : f < 4294967296) (no : ¬ M.isNode f) (v : Value) :
    Calls Try.prog 17 #[.pointer (some ⟨S, 0, none⟩), .int .u32 (f : Int), v] w fun e w' => e = .returned (.tuple #[.int .u32 0, .int .i64 101]) ∧ w' = w := by
  have Kf := s_is s f hf
  rw [Mdl.nodeB_false no] at Kf
  clear no
  go_enter Try.func17, Try.ntmps17
  go_wp2_with (first
    | (go_at_call 15; refine Kf.mono ?_; clear Kf; rintro e w1 ⟨rfl, e1⟩; subst w1))
  go_ret2
  exact ⟨rfl, rfl⟩
set_option maxHeartbeats 1000000 in
theorem rename_len (s : St w S F0 M) (hf : M.isNode f) (ad : Option Addr) (n cap : Nat) (hn : n ≠ M.n) :
    Calls Try.prog 17 #[.pointer (some ⟨S, 0, none⟩), .int .u32 (f : Int), .slice ad n cap] w fun e w' => e = .returned (.tuple #[.int .u32 0, .int .i64 40]) ∧ w' = w := by
  have Kf := s_is s f (by have := Mdl.isNode_lt s.ok hf; omega)
  rw [Mdl.nodeB_true hf] at Kf
  have KV := s_vars s
  have hni : ¬ (n : Int) = (M.n : Int) := by omega
  clear hf hn
  go_enter Try.func17, Try.ntmps17
  go_wp2_with (first
    | (go_at_call 15; refine Kf.mono ?_; clear Kf; rintro e w1 ⟨rfl, e1⟩; subst w1)
    | (go_at_call 32; refine KV.mono ?_; clear KV; rintro e w1 ⟨rfl, e1⟩; subst w1))
  go_ret2
  exact ⟨rfl, rfl⟩
end
end Go.Proofs.Ytbhjcaoiejdkfaa
