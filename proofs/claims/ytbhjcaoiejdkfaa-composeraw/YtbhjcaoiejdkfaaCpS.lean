/-
  Package compose by its face: Subst.
-/
import Derived.Test.YtbhjcaoiejdkfaaCpR
import Derived.Test.YtbhjcaoiejdkfaaBaseG
namespace Go.Proofs.Ytbhjcaoiejdkfaa
open Go Go.RowKit
open Rf (fixAt fixF)

/-! ## A drawn statement whose last operation stores -/
/-- What holds while it is under way: its first n operations leave values from slot b on, the last one turns the world. -/
structure SG (w5 : World) (n b : Nat) (val : Nat → Value) (fin : World → World) (a0 : Act) (listed : Array Bool) (a : Act) (w : World) : Prop where
  size : a.tmps.size = a0.tmps.size
  defers : a.defers = a0.defers
  other : ∀ s, (s < b ∨ b + n ≤ s) → slot a s = slot a0 s
  vals : ∀ i, i < n → listed.getD i false = true → slot a (b + i) = val i
  world : ∃ wy, Below w5.heap.size w5 wy ∧ w = if listed.getD n false = true then fin wy else wy
section
variable {w5 : World} {n b : Nat} {val : Nat → Value} {fin : World → World} {a0 : Act} {listed : Array Bool} {a : Act} {w w' : World}
theorem SG.start (k : Nat) : SG w5 n b val fin a0 (Array.replicate k false) a0 w5 := by
  refine ⟨rfl, rfl, fun _ _ => rfl, fun i _ hl => ?_, w5, Below.refl _ _, ?_⟩
  · rw [getD_start] at hl; cases hl
  · rw [getD_start]; simp
theorem SG.now (g : SG w5 n b val fin a0 listed a w) (nl : listed.getD n false = false) : Below w5.heap.size w5 w := by
  obtain ⟨wy, h1, h2⟩ := g.world
  rw [nl] at h2
  simp at h2
  subst h2
  exact h1
theorem SG.step (g : SG w5 n b val fin a0 listed a w) {i : Nat} (hi : i < n) (hb : b + n ≤ a0.tmps.size) (nl : listed.getD n false = false) (k : Below w.heap.size w w') : SG w5 n b val fin a0 (listed.setIfInBounds i true) (a.put (some (b + i)) (val i)) w' := by
  refine ⟨by simp [Act.put, g.size], by simp [Act.put, g.defers], fun s hs => ?_, fun j hj hl => ?_, w', Rf.below_far (g.now nl) k, ?_⟩
  · rw [slot_put_ne _ (show @Ne Nat (b + i) s by omega)]
    exact g.other s hs
  · by_cases e : i = j
    · subst e
      exact slot_put_eq _ (show @LT.lt Nat _ (b + i) a.tmps.size by rw [g.size]; omega)
    · rw [getD_set_ne false e] at hl
      rw [slot_put_ne _ (show @Ne Nat (b + i) (b + j) by omega)]
      exact g.vals j hj hl
  · rw [getD_set_ne false (by omega), nl]
    simp
theorem SG.store (g : SG w5 n b val fin a0 listed a w) (hn : listed.size = n + 1) (nl : listed.getD n false = false) : SG w5 n b val fin a0 (listed.setIfInBounds n true) a (fin w) := by
  refine ⟨g.size, g.defers, g.other, fun j hj hl => g.vals j hj (by rwa [getD_set_ne false (by omega)] at hl), w, g.now nl, ?_⟩
  simp [hn]
end
theorem lt9 {i : Nat} (h : i < 9) : i = 0 ∨ i = 1 ∨ i = 2 ∨ i = 3 ∨ i = 4 ∨ i = 5 ∨ i = 6 ∨ i = 7 ∨ i = 8 := by omega

/-- A slice of handles. -/
def HdAt (w : World) (ad : Option Addr) (n : Nat) (H : Nat → Nat) : Prop :=
  n = 0 ∨ ∃ b off, ad = some ⟨b, off, none⟩ ∧ b < w.heap.size ∧ ∀ i, i < n → w.cell? ⟨b, off + i, none⟩ = some (.int .u32 (H i : Int))
theorem HdAt.kept {w w' : World} {ad : Option Addr} {n : Nat} {H : Nat → Nat} (h : HdAt w ad n H) (k : Below w.heap.size w w') : HdAt w' ad n H := by
  rcases h with h | ⟨b, off, e, hb, hc⟩
  · exact .inl h
  · exact .inr ⟨b, off, e, Nat.lt_of_lt_of_le hb k.size, fun i hi => by rw [k.cell hb]; exact hc i hi⟩
theorem HdAt.get {w : World} {b off n : Nat} {H : Nat → Nat} (h : HdAt w (some ⟨b, off, none⟩) n H) {i : Nat} (hi : i < n) : w.cell? ⟨b, off + i, none⟩ = some (.int .u32 (H i : Int)) := by
  rcases h with h | ⟨b', off', e, _, hc⟩
  · omega
  · injection e with e
    injection e with e1 e2
    subst e1 e2
    exact hc i hi
theorem HdAt.some {w : World} {ad : Option Addr} {n : Nat} {H : Nat → Nat} (h : HdAt w ad n H) (hn : 0 < n) : ∃ b off, ad = .some ⟨b, off, none⟩ ∧ b < w.heap.size := by
  rcases h with h | ⟨b, off, e, hb, _⟩
  · omega
  · exact ⟨b, off, e, hb⟩
section
variable {w : World} {S f g k : Nat} {F0 : Nat → Prop} {M : Mdl} {I : Nat → Nd}
set_option maxHeartbeats 1000000 in
/-- All of them are nodes, or the first that isn't one is met. -/
theorem allNodes_any (s : St w S F0 M) {ad : Option Addr} {n cap : Nat} {H : Nat → Nat} (hH : HdAt w ad n H) (hb : ∀ i, i < n → H i < 4294967296) (hn : n ≤ 1000000) :
    Calls Try.prog 36 #[.pointer (some ⟨S, 0, none⟩), .slice ad n cap] w fun e w' => ((∀ i, i < n → M.isNode (H i)) ∧ e = .returned (.bool true) ∧ w' = w) ∨ ((∃ i, i < n ∧ ¬ M.isNode (H i)) ∧ e = .returned (.bool false) ∧ w' = w) := by
  have sA : Aside (St w S F0 M) := s
  have hA : Aside (HdAt w ad n H) := hH
  have bA : Aside (∀ i, i < n → H i < 4294967296) := hb
  clear s hH hb
  go_enter Try.func36, Try.ntmps36
  go_upto_region 2 with fail
  go_loopg [9, 6] n (fun gn si _s6 wr => ∃ j : Nat, j + gn = n ∧ si = .int .i64 (j : Int) ∧ wr = w ∧ Aside (∀ i, i < j → M.isNode (H i)))
  case atStart => exact ⟨0, by omega, rfl, rfl, fun i hi => absurd hi (by omega)⟩
  case round =>
    obtain ⟨j, hj, rfl, rfl, al⟩ := hrel
    have hJ : Aside (j + gk = n) := hj
    clear hj
    by_cases hjn : j < n
    · have hji : (j : Int) < (n : Int) := by omega
      obtain ⟨b, off, rfl, hb⟩ := hA.out.some (by omega)
      have c0 := hA.out.get hjn
      have K := s_is sA.out (H j) (bA.out j hjn)
      have jA : Aside (j < n) := hjn
      by_cases hn : M.isNode (H j)
      · rw [Mdl.nodeB_true hn] at K
        have al2 : Aside (∀ i, i < j + 1 → M.isNode (H i)) := fun i hi => by
          by_cases e : i = j
          · rw [e]; exact hn
          · exact al.out i (by omega)
        clear hjn hb hn al
        generalize H j = hj at K c0
        have j9 : (j : Int) < 1000000 := by omega
        go_wp2_with (first
          | (go_at_call 15; refine K.mono ?_; clear K; rintro e w5 ⟨rfl, e5⟩; subst w5))
        go_roundg (gk - 1)
        case measure => have := hJ.out; have := jA.out; omega
        case rel =>
          have := hJ.out
          have := jA.out
          exact ⟨j + 1, by omega, rfl, rfl, al2⟩
      · rw [Mdl.nodeB_false hn] at K
        have bad : Aside (∃ i, i < n ∧ ¬ M.isNode (H i)) := ⟨j, hjn, hn⟩
        clear hjn hb hn al
        generalize H j = hj at K c0
        go_wp2_with (first
          | (go_at_call 15; refine K.mono ?_; clear K; rintro e w5 ⟨rfl, e5⟩; subst w5))
        go_ret
        exact .inr ⟨bad.out, rfl, rfl⟩
    · have ej : j = n := by have := hJ.out; omega
      have hji : ¬ (j : Int) < (n : Int) := by omega
      have al2 : Aside (∀ i, i < n → M.isNode (H i)) := by rw [← ej]; exact al
      clear ej hjn al
      go_wp2_with fail
      go_ret
      exact .inl ⟨al2.out, rfl, rfl⟩
set_option maxRecDepth 100000 in
set_option maxHeartbeats 2000000 in
theorem subst_op (s : St w S F0 M) (hf : M.isNode f) {ad : Option Addr} {cap : Nat} {H : Nat → Nat} (hH : HdAt w ad M.n H) (hN : ∀ i, i < M.n → M.isNode (H i)) :
    Calls Try.prog 16 #[.pointer (some ⟨S, 0, none⟩), .int .u32 (f : Int), .slice ad M.n cap] w (Left S F0 w M 0 (sbF M.n (fun u => M.tbl (H u)) (M.tbl f))) := by
  have o := s.ok
  have n8 := o.le8
  have np := o.pos
  have Kn := allNodes_any (cap := cap) s hH (fun i hi => by have := Mdl.isNode_lt o (hN i hi); omega) (by omega)
  obtain ⟨b, off, rfl, hb⟩ := hH.some (by omega)
  have Kf := s_is s f (by have := Mdl.isNode_lt o hf; omega)
  rw [Mdl.nodeB_true hf] at Kf
  have K1 := s_order' s
  have KV := s_vars s
  have KA : Aside (∀ u, St u S F0 M → Calls Try.prog 35 #[.agg (wA S (flI M (fun u => nodeI M (H u)) M.n)), .int .u32 (f : Int)] u (Left S F0 u M 0 (sbF M.n (fun u => M.tbl (H u)) (M.tbl f)))) := fun u su => fl_answer hf (fun u hu => node_wi o (hN u hu)) (fun u hu x _ => node_f o (hN u hu) x) su
  have oA : Aside M.Ok := o
  have nA : Aside (M.n ≤ 8) := n8
  have nN : Aside (∀ i, i < M.n → M.isNode (H i)) := hN
  have nN' : Aside (¬ ∃ i, i < M.n ∧ ¬ M.isNode (H i)) := fun ⟨i, a, b⟩ => b (hN i a)
  clear hf hN
  go_enter Try.func16, Try.ntmps16
  go_upto_region 6 with (first
    | (go_at_call 15; refine Kf.mono ?_; clear Kf; rintro e w1 ⟨rfl, e1⟩; subst w1)
    | (go_at_call 36; refine Kn.mono ?_; clear Kn; rintro e w1 hor; obtain ⟨rfl, e1⟩ := hor.resolve_right (fun q => nN'.out q.1) |>.2; clear hor; subst w1)
    | (go_at_call 32; refine KV.mono ?_; clear KV; rintro e w1 ⟨rfl, e1⟩; subst w1)
    | (go_at_call 7; refine K1.mono ?_; clear K1; rintro e w1 ⟨P, l, rfl, o1, inv, b1, p1⟩)
    | refine wpList_store_row rfl 82 (.tmp 9) (.tmp 32) rfl w1.heap.size #[.pointer (some ⟨S, 0, none⟩), .int .i64 0, .int .u32 0, .int .u32 0, .int .i64 0, .int .u32 0, .int .u32 0, .int .i64 0, .int .u32 0, .int .u32 0, .int .i64 0, .int .u32 0, .int .u32 0, .int .i64 0, .int .u32 0, .int .u32 0, .int .i64 0, .int .u32 0, .int .u32 0, .int .i64 0, .int .u32 0, .int .u32 0, .int .i64 0, .int .u32 0, .int .u32 0] rfl rfl 82 _ (heap_alloc_new w1 _) info_walk rfl (zero_one S) ?_)
  obtain ⟨i3, b3⟩ := zero_new w1 S
  have lA : Aside (∀ u, u < M.n → l u < M.n ∧ M.v (l u) = u) := fun u hu => lev_inv o inv hu
  have e0 : flI M (fun u => nodeI M (H u)) 0 = fun _ => (0, 0, 0) := funext fun i => if_neg (by omega)
  have i3A : Aside (IsW ((w1.alloc (.cells #[.pointer none, .int .i64 0, .int .u32 0, .int .u32 0, .int .i64 0, .int .u32 0, .int .u32 0, .int .i64 0, .int .u32 0, .int .u32 0, .int .i64 0, .int .u32 0, .int .u32 0, .int .i64 0, .int .u32 0, .int .u32 0, .int .i64 0, .int .u32 0, .int .u32 0, .int .i64 0, .int .u32 0, .int .u32 0, .int .i64 0, .int .u32 0, .int .u32 0] 82)).setRow w1.heap.size #[.pointer (some ⟨S, 0, none⟩), .int .i64 0, .int .u32 0, .int .u32 0, .int .i64 0, .int .u32 0, .int .u32 0, .int .i64 0, .int .u32 0, .int .u32 0, .int .i64 0, .int .u32 0, .int .u32 0, .int .i64 0, .int .u32 0, .int .u32 0, .int .i64 0, .int .u32 0, .int .u32 0, .int .i64 0, .int .u32 0, .int .u32 0, .int .i64 0, .int .u32 0, .int .u32 0]) w1.heap.size S (flI M (fun u => nodeI M (H u)) 0)) := by rw [e0]; exact i3
  have b3A : Aside (Below w1.heap.size w1 ((w1.alloc (.cells #[.pointer none, .int .i64 0, .int .u32 0, .int .u32 0, .int .i64 0, .int .u32 0, .int .u32 0, .int .i64 0, .int .u32 0, .int .u32 0, .int .i64 0, .int .u32 0, .int .u32 0, .int .i64 0, .int .u32 0, .int .u32 0, .int .i64 0, .int .u32 0, .int .u32 0, .int .i64 0, .int .u32 0, .int .u32 0, .int .i64 0, .int .u32 0, .int .u32 0] 82)).setRow w1.heap.size #[.pointer (some ⟨S, 0, none⟩), .int .i64 0, .int .u32 0, .int .u32 0, .int .i64 0, .int .u32 0, .int .u32 0, .int .i64 0, .int .u32 0, .int .u32 0, .int .i64 0, .int .u32 0, .int .u32 0, .int .i64 0, .int .u32 0, .int .u32 0, .int .i64 0, .int .u32 0, .int .u32 0, .int .i64 0, .int .u32 0, .int .u32 0, .int .i64 0, .int .u32 0, .int .u32 0])) := b3
  have put : Aside (∀ j, j < M.n → putI (flI M (fun u => nodeI M (H u)) j) (l j) (nodeI M (H j)) = flI M (fun u => nodeI M (H u)) (j + 1)) := fun j hj => fl_put o _ inv hj
  have s1 : Aside (St w1 S F0 M) := s.below b1
  have z1 : Aside (HdAt w1 (some ⟨b, off, none⟩) M.n H) := hH.kept b1
  have o1A : Aside (Od.IsOrd w1 P M.n M.v l) := o1
  have b1A : Aside (Below w.heap.size w w1) := b1
  generalize (w1.alloc (.cells #[.pointer none, .int .i64 0, .int .u32 0, .int .u32 0, .int .i64 0, .int .u32 0, .int .u32 0, .int .i64 0, .int .u32 0, .int .u32 0, .int .i64 0, .int .u32 0, .int .u32 0, .int .i64 0, .int .u32 0, .int .u32 0, .int .i64 0, .int .u32 0, .int .u32 0, .int .i64 0, .int .u32 0, .int .u32 0, .int .i64 0, .int .u32 0, .int .u32 0] 82)).setRow w1.heap.size #[.pointer (some ⟨S, 0, none⟩), .int .i64 0, .int .u32 0, .int .u32 0, .int .i64 0, .int .u32 0, .int .u32 0, .int .i64 0, .int .u32 0, .int .u32 0, .int .i64 0, .int .u32 0, .int .u32 0, .int .i64 0, .int .u32 0, .int .u32 0, .int .i64 0, .int .u32 0, .int .u32 0, .int .i64 0, .int .u32 0, .int .u32 0, .int .i64 0, .int .u32 0, .int .u32 0] = w3 at i3A b3A ⊢
  obtain ⟨q, hq⟩ : ∃ q, w1.heap.size = q := ⟨_, rfl⟩
  have qA : Aside (w1.heap.size = q) := hq
  rw [hq] at i3A ⊢
  clear hq i3 b3 b1 o1 p1 s hH o np hb inv e0 n8
  go_upto_region 7 with fail
  go_loopg [35, 10, 11] M.n (fun gn si _s1 _s2 wr => ∃ j : Nat, j + gn = M.n ∧ si = .int .i64 (j : Int) ∧ Aside (IsW wr q S (flI M (fun u => nodeI M (H u)) j)) ∧ Aside (Below w1.heap.size w1 wr))
  case atStart => exact ⟨0, by omega, rfl, i3A, b3A⟩
  case round =>
    obtain ⟨j, hj, rfl, i4, b4⟩ := hrel
    have hJ : Aside (j + gk = M.n) := hj
    clear hj i3A b3A
    by_cases hjn : j < M.n
    · have hji : (j : Int) < (M.n : Int) := by omega
      have n8 := nA.out
      have j8 : (j : Int) < 8 := by omega
      have c0 := (z1.out.kept b4.out).get hjn
      have jA : Aside (j < M.n) := hjn
      have pA : Aside (putI (flI M (fun u => nodeI M (H u)) j) (l j) (nodeI M (H j)) = flI M (fun u => nodeI M (H u)) (j + 1)) := put.out j hjn
      have l1 := lA.out j hjn
      have lj8 : (l j : Int) < 8 := by omega
      have ljA : Aside (l j < 8) := by show l j < 8; omega
      have KL : Aside (∀ u, Below w1.heap.size w1 u → Calls Try.prog 31 #[.pointer (some ⟨P, 0, none⟩), .int .i64 (j : Int)] u fun e w' => e = .returned (.int .i64 (l j : Int)) ∧ w' = u) := fun u bu => Od.level_in (Od_kept o1A.out bu) nA.out j jA.out
      have KN : Aside (∀ u, Below w1.heap.size w1 u → Calls Try.prog 34 #[.agg (wA S (flI M (fun u => nodeI M (H u)) j)), .int .u32 (H j : Int)] u fun e w' => e = .returned (.agg (inA (nodeI M (H j)))) ∧ Below u.heap.size u w') := fun u bu => cnode_any (s1.out.below bu) (nN.out j jA.out)
      unfold inA at KN
      generalize nodeI M (H j) = t at KN pA
      generalize H j = hj at KN c0
      generalize l j = lj at KL lj8 ljA pA
      clear hjn l1 n8
      go_upto_region 9 with fail
      have b4' := b4.out
      have i4' : Aside (IsW wr.drew q S (flI M (fun u => nodeI M (H u)) j)) := i4.out
      have b4d : Aside (Below w1.heap.size w1 wr.drew) := b4'.drew
      have szA : Aside ((wA S (flI M (fun u => nodeI M (H u)) j)).size = 25) := wA_size
      clear b4' c0
      refine wp_region_listed (by kernel_rfl) (SG wr.drew 8 40 (fun i => if i = 0 then .pointer (some ⟨P, 0, none⟩) else if i = 1 then .int .i64 (j : Int) else if i = 2 then .int .i64 (lj : Int) else if i = 3 then .agg (wA S (flI M (fun u => nodeI M (H u)) j)) else if i = 4 then .int .u32 (hj : Int) else if i = 5 then .agg #[.int .i64 (t.1 : Int), .int .u32 (t.2.1 : Int), .int .u32 (t.2.2 : Int)] else if i = 6 then .pointer (some ⟨q, 1, none⟩) else .pointer (some ⟨q, 1 + lj * 3, none⟩)) (fun u => laidI u q lj t) _) (by kernel_rfl) ?_ ?_ (SG.start _)
      · intro listed i o a w' ho hn hi hdep hcl g
        have hi9 : i < 9 := (Array.getElem?_eq_some_iff.1 ho).1
        have nl : i < 8 → listed.getD 8 false = false := fun hi8 => by
          cases r : listed.getD 8 false with
          | false => rfl
          | true =>
            have h7 : listed.getD 7 false = true := hcl 8 _ r rfl { on := 7, ground := .data } (by simp) (by decide)
            have : i = 0 ∨ i = 1 ∨ i = 2 ∨ i = 3 ∨ i = 4 ∨ i = 5 ∨ i = 6 ∨ i = 7 := by omega
            rcases this with rfl | rfl | rfl | rfl | rfl | rfl | rfl | rfl
            · rw [hcl 8 _ r rfl { on := 0, ground := .phase } (by simp) (by decide)] at hi; cases hi
            · rw [hcl 8 _ r rfl { on := 1, ground := .phase } (by simp) (by decide)] at hi; cases hi
            · rw [hcl 8 _ r rfl { on := 2, ground := .phase } (by simp) (by decide)] at hi; cases hi
            · rw [hcl 8 _ r rfl { on := 3, ground := .phase } (by simp) (by decide)] at hi; cases hi
            · rw [hcl 8 _ r rfl { on := 4, ground := .phase } (by simp) (by decide)] at hi; cases hi
            · rw [hcl 8 _ r rfl { on := 5, ground := .data } (by simp) (by decide)] at hi; cases hi
            · rw [hcl 7 _ h7 rfl { on := 6, ground := .data } (by simp) (by decide)] at hi; cases hi
            · rw [h7] at hi; cases hi
        have q8 : a.tmps.getD 8 undef = .pointer (some ⟨P, 0, none⟩) := g.other 8 (by omega)
        have q9 : a.tmps.getD 9 undef = .pointer (some ⟨q, 0, none⟩) := g.other 9 (by omega)
        have q10 : a.tmps.getD 10 undef = .int .i64 (j : Int) := g.other 10 (by omega)
        have q11 : a.tmps.getD 11 undef = .int .u32 (hj : Int) := g.other 11 (by omega)
        have nB : listed.getD 8 false = false → Below w1.heap.size w1 w' ∧ IsW w' q S (flI M (fun u => nodeI M (H u)) j) := fun r => ⟨Rf.below_far b4d.out (g.now r), i4'.out.below (g.now r)⟩
        rcases lt9 hi9 with rfl | rfl | rfl | rfl | rfl | rfl | rfl | rfl | rfl
        · simp at ho
          subst ho
          refine wpOp_plain rfl rfl ?_
          go_simp
          exact g.step (i := 0) (by omega) (show 40 + 8 ≤ 54 by omega) (nl (by omega)) (Below.refl _ _)
        · simp at ho
          subst ho
          refine wpOp_plain rfl rfl ?_
          go_simp
          exact g.step (i := 1) (by omega) (show 40 + 8 ≤ 54 by omega) (nl (by omega)) (Below.refl _ _)
        · simp at ho
          subst ho
          have v0 : a.tmps.getD 40 undef = .pointer (some ⟨P, 0, none⟩) := g.vals 0 (by omega) (hdep { on := 0, ground := .data } (by simp) (by decide))
          have v1 : a.tmps.getD 41 undef = .int .i64 (j : Int) := g.vals 1 (by omega) (hdep { on := 1, ground := .data } (by simp) (by decide))
          refine wpOp_plain rfl rfl ?_
          go_simp
          refine (KL.out _ (nB (nl (by omega))).1).mono ?_
          rintro e w'' ⟨rfl, e''⟩
          subst w''
          exact g.step (i := 2) (by omega) (show 40 + 8 ≤ 54 by omega) (nl (by omega)) (Below.refl _ _)
        · simp at ho
          subst ho
          refine wpOp_plain rfl rfl ?_
          refine wp_load_row 82 (.tmp 9) rfl q q9 82 _ (0, 0) _ (nB (nl (by omega))).2 Try.underlying82 rfl (by rw [szA.out]; exact info_walk) ?_
          exact g.step (i := 3) (by omega) (show 40 + 8 ≤ 54 by omega) (nl (by omega)) (Below.refl _ _)
        · simp at ho
          subst ho
          refine wpOp_plain rfl rfl ?_
          go_simp
          exact g.step (i := 4) (by omega) (show 40 + 8 ≤ 54 by omega) (nl (by omega)) (Below.refl _ _)
        · simp at ho
          subst ho
          have v0 : a.tmps.getD 43 undef = .agg (wA S (flI M (fun u => nodeI M (H u)) j)) := g.vals 3 (by omega) (hdep { on := 3, ground := .data } (by simp) (by decide))
          have v1 : a.tmps.getD 44 undef = .int .u32 (hj : Int) := g.vals 4 (by omega) (hdep { on := 4, ground := .data } (by simp) (by decide))
          refine wpOp_plain rfl rfl ?_
          go_simp
          refine (KN.out _ (nB (nl (by omega))).1).mono ?_
          rintro e w'' ⟨rfl, b''⟩
          exact g.step (i := 5) (by omega) (show 40 + 8 ≤ 54 by omega) (nl (by omega)) b''
        · simp at ho
          subst ho
          refine wpOp_plain rfl rfl ?_
          go_simp
          exact g.step (i := 6) (by omega) (show 40 + 8 ≤ 54 by omega) (nl (by omega)) (Below.refl _ _)
        · simp at ho
          subst ho
          have v0 : a.tmps.getD 46 undef = .pointer (some ⟨q, 1, none⟩) := g.vals 6 (by omega) (hdep { on := 6, ground := .data } (by simp) (by decide))
          have v1 : a.tmps.getD 42 undef = .int .i64 (lj : Int) := g.vals 2 (by omega) (hdep { on := 2, ground := .data } (by simp) (by decide))
          refine wpOp_plain rfl rfl ?_
          go_simp
          exact g.step (i := 7) (by omega) (show 40 + 8 ≤ 54 by omega) (nl (by omega)) (Below.refl _ _)
        · simp at ho
          subst ho
          have v0 : a.tmps.getD 47 undef = .pointer (some ⟨q, 1 + lj * 3, none⟩) := g.vals 7 (by omega) (hdep { on := 7, ground := .data } (by simp) (by decide))
          have v1 : a.tmps.getD 45 undef = .agg #[.int .i64 (t.1 : Int), .int .u32 (t.2.1 : Int), .int .u32 (t.2.2 : Int)] := g.vals 5 (by omega) (hdep { on := 5, ground := .data } (by simp) (by decide))
          have i5 := (nB hi).2
          have c1 := i5.lev ljA.out
          have c2 := i5.lo ljA.out
          have c3 := i5.hi ljA.out
          have f0 := i5.free (1 + lj * 3)
          have f1 := i5.free (1 + lj * 3 + 1)
          have f2 := i5.free (1 + lj * 3 + 2)
          refine wpOp_plain rfl rfl ?_
          go_simp
          exact g.store hn hi
      · intro listed a w' hall g
        obtain ⟨wy, by', ey⟩ := g.world
        rw [if_pos (hall 8 (show 8 < 9 by omega))] at ey
        have ea : a = Rf.vfin [(40, .pointer (some ⟨P, 0, none⟩)), (41, .int .i64 (j : Int)), (42, .int .i64 (lj : Int)), (43, .agg (wA S (flI M (fun u => nodeI M (H u)) j))), (44, .int .u32 (hj : Int)), (45, .agg #[.int .i64 (t.1 : Int), .int .u32 (t.2.1 : Int), .int .u32 (t.2.2 : Int)]), (46, .pointer (some ⟨q, 1, none⟩)), (47, .pointer (some ⟨q, 1 + lj * 3, none⟩))] _ := Rf.vact_fin _ _ _ (by simp) g.size g.defers (fun s hs => g.other s (by
            rcases Nat.lt_or_ge s 40 with q | q
            · exact .inl q
            · rcases Nat.lt_or_ge s 48 with r | r
              · have c : @Eq Nat s 40 ∨ @Eq Nat s 41 ∨ @Eq Nat s 42 ∨ @Eq Nat s 43 ∨ @Eq Nat s 44 ∨ @Eq Nat s 45 ∨ @Eq Nat s 46 ∨ @Eq Nat s 47 := by omega
                rcases c with rfl | rfl | rfl | rfl | rfl | rfl | rfl | rfl <;> exact absurd (by simp) hs
              · exact .inr r)) (fun k hk => by
            simp only [List.mem_cons, List.not_mem_nil, or_false] at hk
            rcases hk with rfl | rfl | rfl | rfl | rfl | rfl | rfl | rfl
            · exact ⟨show @LT.lt Nat _ 40 54 by omega, g.vals 0 (by omega) (hall 0 (show 0 < 9 by omega))⟩
            · exact ⟨show @LT.lt Nat _ 41 54 by omega, g.vals 1 (by omega) (hall 1 (show 1 < 9 by omega))⟩
            · exact ⟨show @LT.lt Nat _ 42 54 by omega, g.vals 2 (by omega) (hall 2 (show 2 < 9 by omega))⟩
            · exact ⟨show @LT.lt Nat _ 43 54 by omega, g.vals 3 (by omega) (hall 3 (show 3 < 9 by omega))⟩
            · exact ⟨show @LT.lt Nat _ 44 54 by omega, g.vals 4 (by omega) (hall 4 (show 4 < 9 by omega))⟩
            · exact ⟨show @LT.lt Nat _ 45 54 by omega, g.vals 5 (by omega) (hall 5 (show 5 < 9 by omega))⟩
            · exact ⟨show @LT.lt Nat _ 46 54 by omega, g.vals 6 (by omega) (hall 6 (show 6 < 9 by omega))⟩
            · exact ⟨show @LT.lt Nat _ 47 54 by omega, g.vals 7 (by omega) (hall 7 (show 7 < 9 by omega))⟩)
        clear g hall
        subst ea
        simp only [Rf.vfin, Act.put, List.setIfInBounds_toArray, List.set_cons_succ, List.set_cons_zero]
        have T := laidI_turned wy q lj t
        have By := Rf.below_far b4d.out by'
        have i6 : Aside (IsW w' q S (flI M (fun u => nodeI M (H u)) (j + 1))) := by
          show IsW _ _ _ _
          rw [← pA.out, ey]
          exact (i4'.out.below by').laid lj t
        have b6 : Aside (Below w1.heap.size w1 w') := by
          show Below _ _ _
          rw [ey]
          exact By.trans (T.below By.size (Nat.le_of_eq qA.out))
        clear ey by' T By i4' b4d i4 b4 KL KN pA ljA szA
        go_wp2_with fail
        go_roundg (gk - 1)
        case measure => have := hJ.out; have := jA.out; omega
        case rel =>
          have h1 := hJ.out
          have h2 := jA.out
          exact ⟨j + 1, by omega, rfl, i6, b6⟩
    · have ej : j = M.n := by have := hJ.out; omega
      subst ej
      have hji : ¬ (M.n : Int) < (M.n : Int) := by omega
      have i5 : Aside (wr.heap[q]? = some (.cells (wA S (flI M (fun u => nodeI M (H u)) M.n)) 82 (0, 0))) := i4.out
      have szA : Aside ((wA S (flI M (fun u => nodeI M (H u)) M.n)).size = 25) := wA_size
      have K5 := KA.out wr (s1.out.below b4.out)
      generalize wA S (flI M (fun u => nodeI M (H u)) M.n) = A5 at i5 szA K5
      clear hjn KA
      go_wp2_with (first
        | refine wpList_load_row rfl 82 (.tmp 9) rfl q rfl 82 A5 (0, 0) _ i5.out Try.underlying82 rfl (by rw [szA.out]; exact info_walk) ?_
        | (go_at_call 35; refine K5.mono ?_; clear K5; rintro e w8 ⟨p, er, M8, F8, rfl, t8, s8, b8⟩; have tA : Aside (Told M 0 (sbF M.n (fun u => M.tbl (H u)) (M.tbl f)) p er M8) := t8; clear t8))
      go_ret2
      exact ⟨p, er, M8, F8, rfl, tA.out, s8, (Wf.of_below (Rf.below_far b1A.out b4.out) F0).trans b8⟩
set_option maxHeartbeats 1000000 in
theorem subst_node (s : St w S F0 M) (hf : f < 4294967296) (no : ¬ M.isNode f) (v : Value) :
    Calls Try.prog 16 #[.pointer (some ⟨S, 0, none⟩), .int .u32 (f : Int), v] w fun e w' => e = .returned (.tuple #[.int .u32 0, .int .i64 101]) ∧ w' = w := by
  have Kf := s_is s f hf
  rw [Mdl.nodeB_false no] at Kf
  clear no
  go_enter Try.func16, Try.ntmps16
  go_wp2_with (first
    | (go_at_call 15; refine Kf.mono ?_; clear Kf; rintro e w1 ⟨rfl, e1⟩; subst w1))
  go_ret2
  exact ⟨rfl, rfl⟩
set_option maxHeartbeats 1000000 in
theorem subst_nodes (s : St w S F0 M) (hf : M.isNode f) {ad : Option Addr} {n cap : Nat} {H : Nat → Nat} (hH : HdAt w ad n H) (hb : ∀ i, i < n → H i < 4294967296) (hn : n ≤ 1000000) (no : ∃ i, i < n ∧ ¬ M.isNode (H i)) :
    Calls Try.prog 16 #[.pointer (some ⟨S, 0, none⟩), .int .u32 (f : Int), .slice ad n cap] w fun e w' => e = .returned (.tuple #[.int .u32 0, .int .i64 101]) ∧ w' = w := by
  have Kf := s_is s f (by have := Mdl.isNode_lt s.ok hf; omega)
  rw [Mdl.nodeB_true hf] at Kf
  have Kn := allNodes_any (cap := cap) s hH hb hn
  have nN : Aside (¬ ∀ i, i < n → M.isNode (H i)) := fun q => by obtain ⟨i, a, b⟩ := no; exact b (q i a)
  clear hf no hb hn
  go_enter Try.func16, Try.ntmps16
  go_wp2_with (first
    | (go_at_call 15; refine Kf.mono ?_; clear Kf; rintro e w1 ⟨rfl, e1⟩; subst w1)
    | (go_at_call 36; refine Kn.mono ?_; clear Kn; rintro e w1 hor; obtain ⟨rfl, e1⟩ := hor.resolve_left (fun q => nN.out q.1) |>.2; clear hor; subst w1))
  go_ret2
  exact ⟨rfl, rfl⟩
set_option maxHeartbeats 1000000 in
theorem subst_len (s : St w S F0 M) (hf : M.isNode f) {ad : Option Addr} {n cap : Nat} {H : Nat → Nat} (hH : HdAt w ad n H) (hN : ∀ i, i < n → M.isNode (H i)) (hn : n ≤ 1000000) (ne : n ≠ M.n) :
    Calls Try.prog 16 #[.pointer (some ⟨S, 0, none⟩), .int .u32 (f : Int), .slice ad n cap] w fun e w' => e = .returned (.tuple #[.int .u32 0, .int .i64 40]) ∧ w' = w := by
  have Kf := s_is s f (by have := Mdl.isNode_lt s.ok hf; omega)
  rw [Mdl.nodeB_true hf] at Kf
  have Kn := allNodes_any (cap := cap) s hH (fun i hi => by have := Mdl.isNode_lt s.ok (hN i hi); omega) hn
  have nN' : Aside (¬ ∃ i, i < n ∧ ¬ M.isNode (H i)) := fun ⟨i, a, b⟩ => b (hN i a)
  have KV := s_vars s
  have hni : ¬ (n : Int) = (M.n : Int) := by omega
  clear hf hN hn ne
  go_enter Try.func16, Try.ntmps16
  go_wp2_with (first
    | (go_at_call 15; refine Kf.mono ?_; clear Kf; rintro e w1 ⟨rfl, e1⟩; subst w1)
    | (go_at_call 36; refine Kn.mono ?_; clear Kn; rintro e w1 hor; obtain ⟨rfl, e1⟩ := hor.resolve_right (fun q => nN'.out q.1) |>.2; clear hor; subst w1)
    | (go_at_call 32; refine KV.mono ?_; clear KV; rintro e w1 ⟨rfl, e1⟩; subst w1))
  go_ret2
  exact ⟨rfl, rfl⟩
end
end Go.Proofs.Ytbhjcaoiejdkfaa
