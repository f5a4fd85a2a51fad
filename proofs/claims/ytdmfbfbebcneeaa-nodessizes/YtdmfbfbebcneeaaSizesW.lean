/-
  NodesSizes, walked.
-/
import Derived.Test.YtdmfbfbebcneeaaBaseG
import Derived.Test.YtdmfbfbebcneeaaKnown
namespace Go.Proofs.Ytdmfbfbebcneeaa
open Go Go.RowKit
open Rf (tab word same IsTab TabsAt IntsAt prt dedup addN)
theorem lt8 {i : Nat} (h : i < 8) : i = 0 ∨ i = 1 ∨ i = 2 ∨ i = 3 ∨ i = 4 ∨ i = 5 ∨ i = 6 ∨ i = 7 := by omega

theorem size_one {M0 M1 : Mdl} {n x : Nat} {F : Nat → Bool} (o1 : M1.Ok) (e0 : M0.hs = []) (n0 : M0.n = n) (m1 : MadeIs M0 0 F x M1) (d : Dep M1 0 F) (T : Nat → Nat → Bool) (hT : T 0 = F) :
    (prt (fun i => (M0.v i : Int)) n (dedup T 1) (min n 8 + 1)).1.length = M1.hs.length := by
  have h := parts_len o1 [F] (fun G => ?_) (fun H hH => by rw [List.mem_singleton] at hH; subst hH; exact d)
  · rw [m1.grew.v, m1.grew.n, n0] at h
    rw [dedup_one, hT]
    exact h
  · rw [m1.subs G, m1.grew.v, m1.grew.n]
    constructor
    · rintro (⟨y, hy, _⟩ | q)
      · rw [e0] at hy; cases hy
      · exact ⟨F, List.mem_singleton.2 rfl, q⟩
    · rintro ⟨H, hH, q⟩
      rw [List.mem_singleton] at hH
      subst hH
      exact .inr q
theorem size_two {M0 M1 M2 : Mdl} {n x y : Nat} {F G : Nat → Bool} (o2 : M2.Ok) (e0 : M0.hs = []) (n0 : M0.n = n) (m1 : MadeIs M0 0 F x M1) (m2 : MadeIs M1 0 G y M2) (dF : Dep M2 0 F) (dG : Dep M2 0 G) (T : Nat → Nat → Bool) (hT : T 0 = F) (hT1 : T 1 = G) :
    (prt (fun i => (M0.v i : Int)) n (dedup T 2) (min n 8 + 1)).1.length = M2.hs.length := by
  have hv : M2.v = M0.v := m2.grew.v.trans m1.grew.v
  have hn : M2.n = n := m2.grew.n.trans (m1.grew.n.trans n0)
  have ed : dedup T 2 = addN [F] G := by
    show addN (dedup T 1) (T 1) = _
    rw [dedup_one, hT, hT1]
  have base : ∀ H, Has M2 H ↔ Subs M2.v M2.n 0 F H ∨ Subs M2.v M2.n 0 G H := fun H => by
    rw [m2.subs H, m1.subs H, hv, hn, m1.grew.v, m1.grew.n, n0]
    constructor
    · rintro ((⟨z, hz, _⟩ | q) | q)
      · rw [e0] at hz; cases hz
      · exact .inl q
      · exact .inr q
    · rintro (q | q)
      · exact .inl (.inr q)
      · exact .inr q
  have h := parts_len o2 (addN [F] G) (fun H => ?_) (fun H hH => ?_)
  · rw [hv, hn] at h
    rw [ed]
    exact h
  · rw [base]
    cases q : Rf.hasUpto (fun i => [F].getD i fun _ => false) G [F].length with
    | true =>
      rw [Rf.addN_skip q]
      obtain ⟨F', h1, h2⟩ := (has_iff [F] G).1 q
      rw [List.mem_singleton] at h1
      subst h1
      constructor
      · rintro (s | s)
        · exact ⟨F', List.mem_singleton.2 rfl, s⟩
        · exact ⟨F', List.mem_singleton.2 rfl, subs_congr o2 dG dF h2.symm s⟩
      · rintro ⟨H', hH, s⟩
        rw [List.mem_singleton] at hH
        subst hH
        exact .inl s
    | false =>
      rw [Rf.addN_new q]
      constructor
      · rintro (s | s)
        · exact ⟨F, by simp, s⟩
        · exact ⟨G, by simp, s⟩
      · rintro ⟨H', hH, s⟩
        simp at hH
        rcases hH with rfl | rfl
        · exact .inl s
        · exact .inr s
  · cases q : Rf.hasUpto (fun i => [F].getD i fun _ => false) G [F].length with
    | true =>
      rw [Rf.addN_skip q, List.mem_singleton] at hH
      subst hH
      exact dF
    | false =>
      rw [Rf.addN_new q] at hH
      simp at hH
      rcases hH with rfl | rfl
      · exact dF
      · exact dG
theorem tabs_one {v : World} {g : Nat} {X : Nat → Bool} (h : v.heap[g]? = some (.cells #[.int .u64 (word X 0 : Int), .int .u64 (word X 1 : Int), .int .u64 (word X 2 : Int), .int .u64 (word X 3 : Int)] 46 (0, 0))) : TabsAt v (some ⟨g, 0, none⟩) 1 (fun _ => X) := by
  have hT : IsTab v g X := h
  refine .inr ⟨g, 0, rfl, hT.lt, fun i hi k hk => ?_⟩
  obtain rfl : i = 0 := by omega
  have := hT.cell hk
  simpa using this
theorem tabs_two {v : World} {g : Nat} {X Y : Nat → Bool} (h : v.heap[g]? = some (.cells #[.int .u64 (word X 0 : Int), .int .u64 (word X 1 : Int), .int .u64 (word X 2 : Int), .int .u64 (word X 3 : Int), .int .u64 (word Y 0 : Int), .int .u64 (word Y 1 : Int), .int .u64 (word Y 2 : Int), .int .u64 (word Y 3 : Int)] 46 (0, 0))) : TabsAt v (some ⟨g, 0, none⟩) 2 (fun i => if i = 0 then X else Y) := by
  refine .inr ⟨g, 0, rfl, (Array.getElem?_eq_some_iff.1 h).1, fun i hi k hk => ?_⟩
  have ci : i = 0 ∨ i = 1 := by omega
  have ck : k = 0 ∨ k = 1 ∨ k = 2 ∨ k = 3 := by omega
  rcases ci with rfl | rfl <;> rcases ck with rfl | rfl | rfl | rfl <;> simp [World.cell?, h]
theorem pow6 {n : Nat} (h : n ≤ 8) : 2 ^ (n - 2) ≤ 64 := Nat.pow_le_pow_right (n := 2) (j := 6) (by omega) (by omega)

set_option maxRecDepth 100000 in
set_option maxHeartbeats 4000000 in
theorem sizes_walk (z : Int) (F G : Nat → Bool) (W : World) (z0 : 0 ≤ z) :
    Calls Try.prog 4 #[.int .u8 z, tab F, tab G] W fun e w' => e = .returned (.bool true) ∧ Below W.heap.size W w' := by
  obtain ⟨n, hn⟩ : ∃ n : Nat, z % 8 + 1 = (n : Int) := ⟨(z % 8 + 1).toNat, by omega⟩
  have n1 : 1 ≤ n := by omega
  have n8 : n ≤ 8 := by omega
  have hz : Int.tmod z 8 = z % 8 := Int.tmod_eq_emod_of_nonneg z0
  have e0 : Aside ((Mdl.empty n 200).hs = []) := rfl
  have up0 : Aside ((Mdl.empty n 200).up = 0) := rfl
  have nn0 : Aside ((Mdl.empty n 200).n = n) := rfl
  have rr0 : Aside ((Mdl.empty n 200).room = 200) := rfl
  have vv0 : Aside (∀ i, i < n → (Mdl.empty n 200).v i = i) := fun i hi => if_pos hi
  conv in #[Value.int .u8 z, tab F, tab G] => unfold tab
  go_enter Try.func4, Try.ntmps4
  go_upto_region 1 with fail
  have TF := (IsTab.new W F).alloc (.cells #[.int .u64 (word G 0 : Int), .int .u64 (word G 1 : Int), .int .u64 (word G 2 : Int), .int .u64 (word G 3 : Int)] 46)
  have TG := IsTab.new (W.alloc (.cells #[.int .u64 (word F 0 : Int), .int .u64 (word F 1 : Int), .int .u64 (word F 2 : Int), .int .u64 (word F 3 : Int)] 46)) G
  have hs : (W.alloc (.cells #[.int .u64 (word F 0 : Int), .int .u64 (word F 1 : Int), .int .u64 (word F 2 : Int), .int .u64 (word F 3 : Int)] 46)).heap.size = W.heap.size + 1 := by simp
  rw [hs] at TG
  have B0 := ((Below.refl _ W).alloc (Nat.le_refl _) (.cells #[.int .u64 (word F 0 : Int), .int .u64 (word F 1 : Int), .int .u64 (word F 2 : Int), .int .u64 (word F 3 : Int)] 46)).alloc (by simp) (.cells #[.int .u64 (word G 0 : Int), .int .u64 (word G 1 : Int), .int .u64 (word G 2 : Int), .int .u64 (word G 3 : Int)] 46)
  generalize (W.alloc (.cells #[.int .u64 (word F 0 : Int), .int .u64 (word F 1 : Int), .int .u64 (word F 2 : Int), .int .u64 (word F 3 : Int)] 46)).alloc (.cells #[.int .u64 (word G 0 : Int), .int .u64 (word G 1 : Int), .int .u64 (word G 2 : Int), .int .u64 (word G 3 : Int)] 46) = w4 at TF TG B0 ⊢
  have B0A : Aside (Below W.heap.size W w4) := B0
  clear hs
  obtain ⟨bg, hbg⟩ : ∃ bg, W.heap.size + 1 = bg := ⟨_, rfl⟩
  obtain ⟨bf, hbf⟩ : ∃ bf, W.heap.size = bf := ⟨_, rfl⟩
  have hfg : bf ≠ bg := by omega
  have lf : Aside (W.heap.size ≤ bf) := by show W.heap.size ≤ bf; omega
  have lg : Aside (W.heap.size ≤ bg) := by show W.heap.size ≤ bg; omega
  rw [hbg] at TG ⊢
  rw [hbf] at TF
  generalize hB : W.heap.size = bf' at hbf ⊢
  subst hbf
  clear hB B0 hbg
  have K0 := known_any w4
  go_upto_region 7 with (first
    | (go_at_call 8; refine K0.mono ?_; clear K0; rintro e w1 ⟨rfl, b1⟩; have Kn : Calls Try.prog 9 #[.int .i64 (n : Int), .int .i64 200] w1 _ := s_new n 200 w1 n1 n8 (by omega) (by omega))
    | (go_at_call 9; refine Kn.mono ?_; clear Kn; rintro e w2 ⟨S, F0, rfl, h2, b2, f2⟩))
  have TF2 := kept (kept TF b1) b2
  have TG2 := kept (kept TG b1) b2
  have Bw2 := Rf.below_far (Rf.below_far B0A.out b1) b2
  have hW1 : W.heap.size ≤ w1.heap.size := Nat.le_trans B0A.out.size b1.size
  have f2' : Aside (∀ i, F0 i → W.heap.size ≤ i) := fun i hi => Nat.le_trans hW1 (f2 i hi)
  generalize hM : Mdl.empty n 200 = M0 at h2 e0 up0 nn0 rr0 vv0
  clear hM TF TG b1 b2 f2 hW1 B0A
  have Ko := s_order h2
  rw [nn0.out] at Ko
  go_upto_region 8 with (first
    | (go_at_call 21; refine Ko.mono ?_; clear Ko; rintro e w3 ⟨P, l, rfl, o3, b3, p3⟩; have Ka := Od.all_any o3 n8)
    | (go_at_call 22; refine Ka.mono ?_; clear Ka; rintro e w5 ⟨rfl, r5, b5⟩))
  have B35 := Rf.below_far b3 b5
  have s5 := h2.below B35
  have TF5 := kept TF2 B35
  have TG5 := kept TG2 B35
  have Bw5 := Rf.below_far Bw2 B35
  generalize w3.heap.size = rb at r5 ⊢
  clear TF2 TG2 Bw2 b3 b5 B35 h2 o3 p3
  obtain ⟨F', hF'⟩ : ∃ F', trimF F n (8 - n) = F' := ⟨_, rfl⟩
  obtain ⟨G', hG'⟩ : ∃ G', trimF G n (8 - n) = G' := ⟨_, rfl⟩
  have KF := trim_any F n n8
  have KG := trim_any G n n8
  rw [hF'] at KF
  rw [hG'] at KG
  have dF : Aside (∀ M : Mdl, M.Ok → M.n = M0.n → M.v = M0.v → Dep M 0 F') := fun M o hn hv => by
    have := Dep.trim o F fun i hi => by rw [hv]; exact vv0.out i (by rw [← nn0.out, ← hn]; exact hi)
    rwa [hn, nn0.out, hF'] at this
  have dG : Aside (∀ M : Mdl, M.Ok → M.n = M0.n → M.v = M0.v → Dep M 0 G') := fun M o hn hv => by
    have := Dep.trim o G fun i hi => by rw [hv]; exact vv0.out i (by rw [← nn0.out, ← hn]; exact hi)
    rwa [hn, nn0.out, hG'] at this
  clear hF' hG' vv0
  have hbl : bf' < w5.heap.size := TF5.lt
  have hgl : bg < w5.heap.size := TG5.lt
  refine wp_region_listed (by kernel_rfl) (PG w5.drew bf' bg F' G' 32 (fun i => if i = 0 then tab F else if i = 1 then .int .i64 (n : Int) else if i = 2 then tab F' else if i = 3 then tab G else if i = 4 then .int .i64 (n : Int) else tab G') _) (by kernel_rfl) ?_ ?_ (PG.start _)
  · intro listed i o a w' ho hn hi hdep hcl g
    have hi8 : i < 8 := (Array.getElem?_eq_some_iff.1 ho).1
    have ci := lt8 hi8
    have c7 : listed.getD 7 false = true → listed.getD 6 false = true := fun q => hcl 7 _ q rfl { on := 6, ground := .chain } (by simp) (by decide)
    have c6 : listed.getD 6 false = true → listed.getD 0 false = true ∧ listed.getD 1 false = true ∧ listed.getD 2 false = true ∧ listed.getD 3 false = true ∧ listed.getD 4 false = true ∧ listed.getD 5 false = true := fun q => by
      have h5 : listed.getD 5 false = true := hcl 6 _ q rfl { on := 5, ground := .chain } (by simp) (by decide)
      exact ⟨hcl 6 _ q rfl { on := 0, ground := .phase } (by simp) (by decide), hcl 6 _ q rfl { on := 1, ground := .phase } (by simp) (by decide), hcl 6 _ q rfl { on := 2, ground := .data } (by simp) (by decide), hcl 5 _ h5 rfl { on := 3, ground := .data } (by simp) (by decide), hcl 5 _ h5 rfl { on := 4, ground := .data } (by simp) (by decide), h5⟩
    have T32 : ∀ i, i < 6 → listed.getD i false = true → a.tmps.getD (32 + i) undef = _ := g.vals
    have q4 : a.tmps.getD 4 undef = .pointer (some ⟨bf', 0, none⟩) := g.other 4 (by omega)
    have q5 : a.tmps.getD 5 undef = .pointer (some ⟨bg, 0, none⟩) := g.other 5 (by omega)
    have q7 : a.tmps.getD 7 undef = .int .i64 (n : Int) := g.other 7 (by omega)
    have n6' : i < 6 → listed.getD 6 false = false := fun hi6 => by
      cases q : listed.getD 6 false with
      | false => rfl
      | true =>
        obtain ⟨p0, p1, p2, p3, p4, p5⟩ := c6 q
        have : i = 0 ∨ i = 1 ∨ i = 2 ∨ i = 3 ∨ i = 4 ∨ i = 5 := by omega
        rcases this with rfl | rfl | rfl | rfl | rfl | rfl
        · rw [p0] at hi; cases hi
        · rw [p1] at hi; cases hi
        · rw [p2] at hi; cases hi
        · rw [p3] at hi; cases hi
        · rw [p4] at hi; cases hi
        · rw [p5] at hi; cases hi
    have n7' : listed.getD 6 false = false → listed.getD 7 false = false := fun q => by
      cases r : listed.getD 7 false with
      | false => rfl
      | true => rw [c7 r] at q; cases q
    rcases ci with rfl | rfl | rfl | rfl | rfl | rfl | rfl | rfl
    · simp at ho
      subst ho
      have n6 := n6' (by omega)
      have n7 := n7' n6
      obtain ⟨c0, c1, c2, c3⟩ := (kept TF5.drew (g.now n6 n7)).copy
      refine wpOp_plain rfl rfl ?_
      go_simp
      exact g.step (i := 0) (by omega) (show 32 + 6 ≤ 74 by omega) n6 n7 (Below.refl _ _)
    · simp at ho
      subst ho
      have n6 := n6' (by omega)
      have n7 := n7' n6
      refine wpOp_plain rfl rfl ?_
      go_simp
      exact g.step (i := 1) (by omega) (show 32 + 6 ≤ 74 by omega) n6 n7 (Below.refl _ _)
    · simp at ho
      subst ho
      have n6 := n6' (by omega)
      have n7 := n7' n6
      have v0 : a.tmps.getD 32 undef = tab F := g.vals 0 (by omega) (hdep { on := 0, ground := .data } (by simp) (by decide))
      have v1 : a.tmps.getD 33 undef = .int .i64 (n : Int) := g.vals 1 (by omega) (hdep { on := 1, ground := .data } (by simp) (by decide))
      refine wpOp_plain rfl rfl ?_
      go_simp
      refine (KF _).mono ?_
      rintro e w'' ⟨rfl, b''⟩
      exact g.step (i := 2) (by omega) (show 32 + 6 ≤ 74 by omega) n6 n7 b''
    · simp at ho
      subst ho
      have n6 := n6' (by omega)
      have n7 := n7' n6
      obtain ⟨c0, c1, c2, c3⟩ := (kept TG5.drew (g.now n6 n7)).copy
      refine wpOp_plain rfl rfl ?_
      go_simp
      exact g.step (i := 3) (by omega) (show 32 + 6 ≤ 74 by omega) n6 n7 (Below.refl _ _)
    · simp at ho
      subst ho
      have n6 := n6' (by omega)
      have n7 := n7' n6
      refine wpOp_plain rfl rfl ?_
      go_simp
      exact g.step (i := 4) (by omega) (show 32 + 6 ≤ 74 by omega) n6 n7 (Below.refl _ _)
    · simp at ho
      subst ho
      have n6 := n6' (by omega)
      have n7 := n7' n6
      have v0 : a.tmps.getD 35 undef = tab G := g.vals 3 (by omega) (hdep { on := 3, ground := .data } (by simp) (by decide))
      have v1 : a.tmps.getD 36 undef = .int .i64 (n : Int) := g.vals 4 (by omega) (hdep { on := 4, ground := .data } (by simp) (by decide))
      refine wpOp_plain rfl rfl ?_
      go_simp
      refine (KG _).mono ?_
      rintro e w'' ⟨rfl, b''⟩
      exact g.step (i := 5) (by omega) (show 32 + 6 ≤ 74 by omega) n6 n7 b''
    · simp at ho
      subst ho
      have n7 := n7' hi
      have v0 : a.tmps.getD 34 undef = tab F' := g.vals 2 (by omega) (hdep { on := 2, ground := .data } (by simp) (by decide))
      have T := kept TF5.drew (g.now hi n7)
      obtain ⟨c0, c1, c2, c3⟩ := T.copy
      have z0 := T.free 0
      have z1 := T.free 1
      have z2 := T.free 2
      have z3 := T.free 3
      unfold tab at v0
      refine wpOp_plain rfl rfl ?_
      go_simp
      exact g.store hn hi n7
    · simp at ho
      subst ho
      have h6 : listed.getD 6 false = true := hdep { on := 6, ground := .chain } (by simp) (by decide)
      have v0 : a.tmps.getD 37 undef = tab G' := g.vals 5 (by omega) (hdep { on := 5, ground := .data } (by simp) (by decide))
      have g2 := (g.store2 hn h6 hi).1
      have T : IsTab w' bg G := by
        obtain ⟨_, wy, by', ey⟩ := g.store2 hn h6 hi
        rw [ey]
        exact (Rf.laid_turned wy bf' F').tab (kept TG5.drew by') hfg.symm
      obtain ⟨c0, c1, c2, c3⟩ := T.copy
      have z0 := T.free 0
      have z1 := T.free 1
      have z2 := T.free 2
      have z3 := T.free 3
      unfold tab at v0
      refine wpOp_plain rfl rfl ?_
      go_simp
      exact g2
  · intro listed a w' hall g
    obtain ⟨wy, by', ey⟩ := g.world
    rw [if_pos (hall 7 (show 7 < 8 by omega))] at ey
    have ea : a = Rf.vfin [(32, tab F), (33, .int .i64 (n : Int)), (34, tab F'), (35, tab G), (36, .int .i64 (n : Int)), (37, tab G')] _ := Rf.vact_fin _ _ _ (by simp) g.size g.defers (fun s hs => g.other s (by
        rcases Nat.lt_or_ge s 32 with q | q
        · exact .inl q
        · rcases Nat.lt_or_ge s 38 with r | r
          · have c : @Eq Nat s 32 ∨ @Eq Nat s 33 ∨ @Eq Nat s 34 ∨ @Eq Nat s 35 ∨ @Eq Nat s 36 ∨ @Eq Nat s 37 := by omega
            rcases c with rfl | rfl | rfl | rfl | rfl | rfl <;> exact absurd (by simp) hs
          · exact .inr r)) (fun k hk => by
        simp only [List.mem_cons, List.not_mem_nil, or_false] at hk
        rcases hk with rfl | rfl | rfl | rfl | rfl | rfl
        · exact ⟨show @LT.lt Nat _ 32 74 by omega, g.vals 0 (by omega) (hall 0 (show 0 < 8 by omega))⟩
        · exact ⟨show @LT.lt Nat _ 33 74 by omega, g.vals 1 (by omega) (hall 1 (show 1 < 8 by omega))⟩
        · exact ⟨show @LT.lt Nat _ 34 74 by omega, g.vals 2 (by omega) (hall 2 (show 2 < 8 by omega))⟩
        · exact ⟨show @LT.lt Nat _ 35 74 by omega, g.vals 3 (by omega) (hall 3 (show 3 < 8 by omega))⟩
        · exact ⟨show @LT.lt Nat _ 36 74 by omega, g.vals 4 (by omega) (hall 4 (show 4 < 8 by omega))⟩
        · exact ⟨show @LT.lt Nat _ 37 74 by omega, g.vals 5 (by omega) (hall 5 (show 5 < 8 by omega))⟩)
    clear g hall
    subst ea
    simp only [Rf.vfin, Act.put, List.setIfInBounds_toArray, List.set_cons_succ, List.set_cons_zero]
    have t1 := Rf.laid_turned wy bf' F'
    have t2 := Rf.laid_turned (Rf.laid wy bf' F') bg G'
    have bw : Below w5.heap.size w5 wy := ⟨by'.os, by'.tape, by'.output, by'.size, by'.block⟩
    have sy := s5.below bw
    have keep : ∀ k, k < wy.heap.size → k ≠ bf' → k ≠ bg → w'.heap[k]? = wy.heap[k]? := fun k hk h1 h2 => by
      rw [ey, t2.block k (Nat.lt_of_lt_of_le hk t1.size) h2, t1.block k hk h1]
    have s6 : St w' S F0 M0 := sy.kept fun k hk => keep k (sy.lt k hk) (fun e => s5.row TF5 (by decide) (e ▸ hk)) (fun e => s5.row TG5 (by decide) (e ▸ hk))
    have TF6 : IsTab w' bf' F' := by rw [ey]; exact t2.tab (Rf.laid_tab (kept TF5 bw) F') hfg
    have TG6 : IsTab w' bg G' := by rw [ey]; exact Rf.laid_tab (t1.tab (kept TG5 bw) hfg.symm) G'
    have r6 : w'.rowIs rb 3 n (fun i => .int .i64 (M0.v i : Int)) := by
      have ry := r5.of_block (bw.block rb r5.lt)
      refine ry.of_block (keep rb ry.lt (fun e => ?_) fun e => ?_)
      · obtain ⟨cs, hcs, _⟩ := r5
        have := TF5
        unfold IsTab at this
        rw [← e, hcs] at this
        simp at this
      · obtain ⟨cs, hcs, _⟩ := r5
        have := TG5
        unfold IsTab at this
        rw [← e, hcs] at this
        simp at this
    have Bw6 : Below W.heap.size W w' := by
      have b1 := Rf.below_far Bw5 bw
      rw [ey]
      exact (b1.trans (t1.below b1.size lf.out)).trans (t2.below (Nat.le_trans b1.size t1.size) lg.out)
    clear t1 t2 bw sy keep ey by' TF5 TG5 r5 Bw5 s5 hbl hgl KF KG
    have p6 := pow6 n8
    have Km := make_any s6 (dF.out M0 s6.ok rfl rfl) (by rw [up0.out, nn0.out, rr0.out]; omega)
    unfold tab at Km
    obtain ⟨c0, c1, c2, c3⟩ := TF6.copy
    go_upto_region 10 with (first
      | (go_at_call 24; refine Km.mono ?_; clear Km; rintro e w7 ⟨xa, M1, rfl, ⟨F1, s7, g7⟩, m1⟩))
    have TF7 : IsTab w7 bf' F' := (g7.block bf' TF6.lt (s6.row TF6 (by decide))).trans TF6
    have TG7 : IsTab w7 bg G' := (g7.block bg TG6.lt (s6.row TG6 (by decide))).trans TG6
    have r7 := Wf.row g7 s6 r6 (by decide)
    have Bw7 : Below W.heap.size W w7 := Wf.far Bw6 g7 Bw6.size f2'.out
    have f7' := g7.after Bw6.size f2'.out
    have u1 : M1.up ≤ 63 := by have := m1.up; rw [up0.out, nn0.out, Nat.sub_zero] at this; omega
    have nn1 : M1.n = n := m1.grew.n.trans nn0.out
    have rr1 : M1.room = 200 := m1.grew.room.trans rr0.out
    have Kl := s_len s7
    have Km := make_any s7 (dG.out M1 s7.ok m1.grew.n m1.grew.v) (by rw [nn1, rr1]; omega)
    unfold tab at Km
    clear c0 c1 c2 c3
    obtain ⟨c0, c1, c2, c3⟩ := TG7.copy
    have L1 : Aside (∀ T : Nat → Nat → Bool, T 0 = F' → (prt (fun i => (M0.v i : Int)) n (dedup T 1) (min n 8 + 1)).1.length = M1.hs.length) := fun T hT => size_one s7.ok e0.out nn0.out m1 (dF.out M1 s7.ok m1.grew.n m1.grew.v) T hT
    clear TF6 TG6 r6 Bw6 g7 s6
    go_upto_region 12 with (first
      | (go_at_call 18; refine Kl.mono ?_; clear Kl; rintro e w8 ⟨rfl, e8⟩; subst w8)
      | (go_at_call 24; refine Km.mono ?_; clear Km; rintro e w8 ⟨xb, M2, rfl, ⟨F2, s8, g8⟩, m2⟩))
    have TF8 : IsTab w8 bf' F' := (g8.block bf' TF7.lt (s7.row TF7 (by decide))).trans TF7
    have TG8 : IsTab w8 bg G' := (g8.block bg TG7.lt (s7.row TG7 (by decide))).trans TG7
    have r8 := Wf.row g8 s7 r7 (by decide)
    have Bw8 : Below W.heap.size W w8 := Wf.far Bw7 g8 Bw7.size f7'
    have hn2 := m2.grew.n.trans m1.grew.n
    have hv2 := m2.grew.v.trans m1.grew.v
    have L2 : Aside (∀ T : Nat → Nat → Bool, T 0 = F' → T 1 = G' → (prt (fun i => (M0.v i : Int)) n (dedup T 2) (min n 8 + 1)).1.length = M2.hs.length) := fun T hT hT1 => size_two s8.ok e0.out nn0.out m1 m2 (dF.out M2 s8.ok hn2 hv2) (dG.out M2 s8.ok hn2 hv2) T hT hT1
    clear TF7 TG7 r7 Bw7 g8 s7 f7' hn2 hv2 m1 m2 c0 c1 c2 c3 dF dG u1 nn1 rr1 f2' lf lg e0 up0 rr0
    have lw0 : ∀ u, Below w8.heap.size w8 u → u.cell? ⟨bf', 0, none⟩ = some (.int .u64 (word F' 0 : Int)) := fun u h => (kept TF8 h).cell (by decide)
    have lw1 : ∀ u, Below w8.heap.size w8 u → u.cell? ⟨bf', 1, none⟩ = some (.int .u64 (word F' 1 : Int)) := fun u h => (kept TF8 h).cell (by decide)
    have lw2 : ∀ u, Below w8.heap.size w8 u → u.cell? ⟨bf', 2, none⟩ = some (.int .u64 (word F' 2 : Int)) := fun u h => (kept TF8 h).cell (by decide)
    have lw3 : ∀ u, Below w8.heap.size w8 u → u.cell? ⟨bf', 3, none⟩ = some (.int .u64 (word F' 3 : Int)) := fun u h => (kept TF8 h).cell (by decide)
    have hw0 : ∀ u, Below w8.heap.size w8 u → u.cell? ⟨bg, 0, none⟩ = some (.int .u64 (word G' 0 : Int)) := fun u h => (kept TG8 h).cell (by decide)
    have hw1 : ∀ u, Below w8.heap.size w8 u → u.cell? ⟨bg, 1, none⟩ = some (.int .u64 (word G' 1 : Int)) := fun u h => (kept TG8 h).cell (by decide)
    have hw2 : ∀ u, Below w8.heap.size w8 u → u.cell? ⟨bg, 2, none⟩ = some (.int .u64 (word G' 2 : Int)) := fun u h => (kept TG8 h).cell (by decide)
    have hw3 : ∀ u, Below w8.heap.size w8 u → u.cell? ⟨bg, 3, none⟩ = some (.int .u64 (word G' 3 : Int)) := fun u h => (kept TG8 h).cell (by decide)
    have ints : Aside (∀ u, Below w8.heap.size w8 u → IntsAt u (some ⟨rb, 0, none⟩) n (fun i => (M0.v i : Int))) := fun u h => .inr ⟨rb, 0, rfl, Nat.lt_of_lt_of_le r8.lt h.size, fun i hi => by rw [Nat.zero_add, h.cell r8.lt]; exact r8.cell hi⟩
    have K1 : Calls Try.prog 25 #[.slice (some ⟨w8.heap.size, 0, none⟩) 1 1, .slice (some ⟨rb, 0, none⟩) n n] (w8.drew.alloc (.cells #[.int .u64 (word F' 0 : Int), .int .u64 (word F' 1 : Int), .int .u64 (word F' 2 : Int), .int .u64 (word F' 3 : Int)] 46)) fun e w' => e = .returned (.int .i64 (M1.hs.length : Int)) ∧ Below (w8.drew.alloc (.cells #[.int .u64 (word F' 0 : Int), .int .u64 (word F' 1 : Int), .int .u64 (word F' 2 : Int), .int .u64 (word F' 3 : Int)] 46)).heap.size (w8.drew.alloc (.cells #[.int .u64 (word F' 0 : Int), .int .u64 (word F' 1 : Int), .int .u64 (word F' 2 : Int), .int .u64 (word F' 3 : Int)] 46)) w' := by
      have bu : Below w8.heap.size w8 (w8.drew.alloc (.cells #[.int .u64 (word F' 0 : Int), .int .u64 (word F' 1 : Int), .int .u64 (word F' 2 : Int), .int .u64 (word F' 3 : Int)] 46)) := ((Below.refl _ w8).drew).alloc (Nat.le_refl _) _
      have := size_any (some ⟨w8.heap.size, 0, none⟩) 1 1 (fun _ => F') (some ⟨rb, 0, none⟩) n n (fun i => (M0.v i : Int)) _ (by omega) n8 (tabs_one (Go.Deep.blk_alloc_new w8.drew _)) (ints.out _ bu)
      rw [L1.out (fun _ => F') rfl] at this
      exact this
    have K2 : Aside (∀ u, Below w8.heap.size w8 u → Calls Try.prog 25 #[.slice (some ⟨u.heap.size, 0, none⟩) 2 2, .slice (some ⟨rb, 0, none⟩) n n] (u.alloc (.cells #[.int .u64 (word F' 0 : Int), .int .u64 (word F' 1 : Int), .int .u64 (word F' 2 : Int), .int .u64 (word F' 3 : Int), .int .u64 (word G' 0 : Int), .int .u64 (word G' 1 : Int), .int .u64 (word G' 2 : Int), .int .u64 (word G' 3 : Int)] 46)) fun e w' => e = .returned (.int .i64 (M2.hs.length : Int)) ∧ Below (u.alloc (.cells #[.int .u64 (word F' 0 : Int), .int .u64 (word F' 1 : Int), .int .u64 (word F' 2 : Int), .int .u64 (word F' 3 : Int), .int .u64 (word G' 0 : Int), .int .u64 (word G' 1 : Int), .int .u64 (word G' 2 : Int), .int .u64 (word G' 3 : Int)] 46)).heap.size (u.alloc (.cells #[.int .u64 (word F' 0 : Int), .int .u64 (word F' 1 : Int), .int .u64 (word F' 2 : Int), .int .u64 (word F' 3 : Int), .int .u64 (word G' 0 : Int), .int .u64 (word G' 1 : Int), .int .u64 (word G' 2 : Int), .int .u64 (word G' 3 : Int)] 46)) w') := fun u hu => by
      have bu : Below w8.heap.size w8 (u.alloc (.cells #[.int .u64 (word F' 0 : Int), .int .u64 (word F' 1 : Int), .int .u64 (word F' 2 : Int), .int .u64 (word F' 3 : Int), .int .u64 (word G' 0 : Int), .int .u64 (word G' 1 : Int), .int .u64 (word G' 2 : Int), .int .u64 (word G' 3 : Int)] 46)) := hu.alloc hu.size _
      have := size_any (some ⟨u.heap.size, 0, none⟩) 2 2 (fun i => if i = 0 then F' else G') (some ⟨rb, 0, none⟩) n n (fun i => (M0.v i : Int)) _ (by omega) n8 (tabs_two (Go.Deep.blk_alloc_new u _)) (ints.out _ bu)
      rw [L2.out (fun i => if i = 0 then F' else G') rfl rfl] at this
      exact this
    clear ints L1 L2
    have Bd : Aside (Below w8.heap.size w8 (w8.drew.alloc (.cells #[.int .u64 (word F' 0 : Int), .int .u64 (word F' 1 : Int), .int .u64 (word F' 2 : Int), .int .u64 (word F' 3 : Int)] 46))) := ((Below.refl _ w8).drew).alloc (Nat.le_refl _) _
    go_region_held3 (fun u => Below w8.heap.size w8 u) (first | assumption | exact (Below.refl _ w8).drew | exact Bd.out | exact Rf.below_far (by assumption) (by assumption) | exact (fun h : Below w8.heap.size w8 _ => h.alloc h.size _) (by assumption)) (first
      | (go_at_call 25; refine K1.mono ?_; clear K1; rintro e w9 ⟨rfl, b9⟩; have Bu9 : Below w8.heap.size w8 w9 := Rf.below_far Bd.out b9; have K29 := K2.out w9 Bu9)
      | (go_at_call 18; refine (s_len (s8.below (by assumption))).mono ?_; rintro e w10 ⟨rfl, e10⟩; subst w10)
      | (go_at_call 25; refine K29.mono ?_; clear K29; rintro e w11 ⟨rfl, b11⟩))
    all_goals (go_wp2_with fail; go_ret; exact ⟨rfl, Rf.below_far Bw8 (by assumption)⟩)
end Go.Proofs.Ytdmfbfbebcneeaa
