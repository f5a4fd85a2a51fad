/-
  CountTells, walked.
-/
import Derived.Test.YtdjbkpmokamkiaaGreatCtK
import Derived.Test.YtdjbkpmokamkiaaGreatBaseG
namespace Go.Proofs.YtdjbkpmokamkiaaGreat
open Go Go.RowKit
open Rf (tab word IsTab TabsAt IntsAt countUpto supUpto fixF fixAt prt dedup)

theorem trim_low (F : Nat → Bool) {n : Nat} (hn : n ≤ 8) : ∀ x y, x < 256 → y < 256 → (∀ j, j < n → x.testBit j = y.testBit j) → trimF F n (8 - n) x = trimF F n (8 - n) y := fun x y hx hy h => trim_eq F n (8 - n) (by omega) x y hx hy fun i _ q => h i (by omega)
theorem low_mod {F : Nat → Bool} {n : Nat} (hn : n ≤ 8) (h : ∀ x y, x < 256 → y < 256 → (∀ j, j < n → x.testBit j = y.testBit j) → F x = F y) (x : Nat) (hx : x < 256) : F x = F (x % 2 ^ n) := by
  have l : 2 ^ n ≤ 256 := Nat.pow_le_pow_right (n := 2) (j := 8) (by omega) hn
  have m := Nat.mod_lt x (pow_pos2 n)
  refine h x _ hx (by omega) fun j hj => ?_
  rw [Nat.testBit_mod_two_pow, decide_eq_true hj, Bool.true_and]
theorem rone_any (F : Nat → Bool) (w : World) : Calls Tryz.prog 17 #[tab F] w fun e w' => e = .returned (.tuple #[.int .u8 (oneN F : Int), .bool (oneB F)]) ∧ Below w.heap.size w w' := by
  refine (Rf.one_any F w).mono ?_
  rintro e w' ⟨⟨x, hx, h1, h2, rfl⟩ | ⟨h, rfl⟩, b⟩
  · have e : lst F = x := (lst_is F).one (.inl ⟨hx, h1, h2⟩)
    refine ⟨?_, b⟩
    unfold oneN oneB
    rw [e, if_pos hx, decide_eq_true hx]
  · have e : lst F = 256 := (lst_is F).one (.inr ⟨rfl, h⟩)
    refine ⟨?_, b⟩
    unfold oneN oneB
    rw [e]
    rfl
theorem lt8' {i : Nat} (h : i < 8) : i = 0 ∨ i = 1 ∨ i = 2 ∨ i = 3 ∨ i = 4 ∨ i = 5 ∨ i = 6 ∨ i = 7 := by omega
set_option maxHeartbeats 1000000 in
/-- Two rows of the same numbers are the same. -/
theorem ints_true {w : World} {p q n c d : Nat} {Z : Nat → Int} (hp : w.rowIs p 3 n (fun i => .int .i64 (Z i))) (hq : w.rowIs q 3 n (fun i => .int .i64 (Z i))) (hn : n ≤ 1000) :
    Calls Tryz.prog 26 #[.slice (some ⟨p, 0, none⟩) n c, .slice (some ⟨q, 0, none⟩) n d] w fun e w' => e = .returned (.bool true) ∧ Below w.heap.size w w' := by
  go_enter Tryz.func26, Tryz.ntmps26
  go_wp2_with fail
  go_loopg [4, 5] n (fun g s4 si wr => ∃ j : Nat, j + g = n ∧ s4 = .bool false ∧ si = .int .i64 (j : Int) ∧ Below w.heap.size w wr)
  case atStart => exact ⟨0, by omega, rfl, rfl, Below.refl _ _⟩
  case round =>
    obtain ⟨j, hj, rfl, rfl, hb⟩ := hrel
    have hJ : Aside (j + gk = n) := hj
    by_cases hlt : j < n
    · have hlt' : (j : Int) < (n : Int) := by omega
      have k1 : wr.cell? ⟨p, j, none⟩ = some (.int .i64 (Z j)) := by rw [hb.cell hp.lt]; exact hp.cell hlt
      have k2 : wr.cell? ⟨q, j, none⟩ = some (.int .i64 (Z j)) := by rw [hb.cell hq.lt]; exact hq.cell hlt
      generalize Z j = y at k1 k2
      clear hj
      go_wp2_with fail
      go_region
      go_wp2_with fail
      go_roundg (gk - 1)
      case measure => have := hJ.out; omega
      case rel =>
        have hj := hJ.out
        exact ⟨j + 1, by omega, rfl, by go_num, hb.drew⟩
    · obtain rfl : j = n := by omega
      clear hj
      go_wp2_with fail
      go_ret
      exact ⟨rfl, hb⟩

theorem tabs_two {v : World} {g : Nat} {X Y : Nat → Bool} (h : v.heap[g]? = some (.cells #[.int .u64 (word X 0 : Int), .int .u64 (word X 1 : Int), .int .u64 (word X 2 : Int), .int .u64 (word X 3 : Int), .int .u64 (word Y 0 : Int), .int .u64 (word Y 1 : Int), .int .u64 (word Y 2 : Int), .int .u64 (word Y 3 : Int)] 24 (0, 0))) : TabsAt v (some ⟨g, 0, none⟩) 2 (fun i => if i = 0 then X else Y) := by
  refine .inr ⟨g, 0, rfl, (Array.getElem?_eq_some_iff.1 h).1, fun i hi k hk => ?_⟩
  have ci : i = 0 ∨ i = 1 := by omega
  have ck : k = 0 ∨ k = 1 ∨ k = 2 ∨ k = 3 := by omega
  rcases ci with rfl | rfl <;> rcases ck with rfl | rfl | rfl | rfl <;> simp [World.cell?, h]
set_option maxRecDepth 100000 in
set_option maxHeartbeats 4000000 in
theorem tells_walk (z : Int) (F G : Nat → Bool) (zx : Int) (W : World) (z0 : 0 ≤ z) (x0 : 0 ≤ zx) (x1 : zx < 256) :
    Calls Tryz.prog 3 #[.int .u8 z, tab F, tab G, .int .u8 zx] W fun e w' => e = .returned (.bool true) ∧ Below W.heap.size W w' := by
  obtain ⟨x, rfl⟩ : ∃ x : Nat, zx = (x : Int) := ⟨zx.toNat, by omega⟩
  have hx : x < 256 := by omega
  have hxA : Aside (x < 256) := hx
  clear x0 x1
  obtain ⟨n, hn⟩ : ∃ n : Nat, z % 8 + 1 = (n : Int) := ⟨(z % 8 + 1).toNat, by omega⟩
  have n1 : 1 ≤ n := by omega
  have n8 : n ≤ 8 := by omega
  have hz : Int.tmod z 8 = z % 8 := Int.tmod_eq_emod_of_nonneg z0
  conv in #[Value.int .u8 z, tab F, tab G, Value.int .u8 (x : Int)] => unfold tab
  go_enter Tryz.func3, Tryz.ntmps3
  go_upto_region 1 with fail
  obtain ⟨TF, TG, B3⟩ := boxes2 W F G
  generalize (W.alloc (.cells #[.int .u64 (word F 0 : Int), .int .u64 (word F 1 : Int), .int .u64 (word F 2 : Int), .int .u64 (word F 3 : Int)] 24)).alloc (.cells #[.int .u64 (word G 0 : Int), .int .u64 (word G 1 : Int), .int .u64 (word G 2 : Int), .int .u64 (word G 3 : Int)] 24) = v3 at TF TG B3 ⊢
  have B3A : Aside (Below W.heap.size W v3) := B3
  clear B3
  obtain ⟨bf, hbf⟩ : ∃ bf, W.heap.size = bf := ⟨_, rfl⟩
  obtain ⟨bg, hbg⟩ : ∃ bg, W.heap.size + 1 = bg := ⟨_, rfl⟩
  have bd : Aside (W.heap.size ≤ bf ∧ W.heap.size ≤ bg ∧ bf ≠ bg) := ⟨by omega, by omega, by omega⟩
  rw [hbf] at TF
  rw [hbg] at TG ⊢
  rw [hbf]
  clear hbf hbg
  have Kk := nknown_any v3
  go_upto_region 3 with (first
    | (go_at_call 9; refine Kk.mono ?_; clear Kk; rintro e v4 ⟨rfl, b4⟩))
  have TF4 := kept TF b4
  have TG4 := kept TG b4
  have B4A : Aside (Below W.heap.size W v4) := Rf.below_far B3A.out b4
  have Kn : Calls Tryz.prog 10 #[.int .i64 (n : Int), .int .i64 1000] v4 _ := s_new n 1000 v4 n1 n8 (by omega) (by omega)
  clear TF TG B3A b4
  go_upto_region 7 with (first
    | (go_at_call 10; refine Kn.mono ?_; clear Kn; rintro e w5 ⟨S, F0, rfl, s5, b5, f5⟩))
  have TFo := kept TF4 b5
  have TGo := kept TG4 b5
  have B5A : Aside (Below W.heap.size W w5) := Rf.below_far B4A.out b5
  have f5A : Aside (∀ k, F0 k → W.heap.size ≤ k) := fun k hk => Nat.le_trans B4A.out.size (f5 k hk)
  clear TF4 TG4 b5 f5 B4A
  have lowF : Aside (∀ x y, x < 256 → y < 256 → (∀ j, j < n → x.testBit j = y.testBit j) → trimF F n (8 - n) x = trimF F n (8 - n) y) := trim_low F n8
  have dF : Aside (∀ M : Mdl, M.Ok → M.n = n → (∀ i, i < n → M.v i = i) → Dep M 0 (trimF F n (8 - n))) := fun M o hn hv => by
    have := Dep.trim o F (by rw [hn]; exact hv)
    rwa [hn] at this
  have dG : Aside (∀ M : Mdl, M.Ok → M.n = n → (∀ i, i < n → M.v i = i) → Dep M 0 (trimF G n (8 - n))) := fun M o hn hv => by
    have := Dep.trim o G (by rw [hn]; exact hv)
    rwa [hn] at this
  have KF := fun u => trim_any F n n8 u
  have KG := fun u => trim_any G n n8 u
  generalize trimF F n (8 - n) = F' at lowF dF KF
  generalize trimF G n (8 - n) = G' at dG KG
  have hfg := bd.out.2.2
  unfold tab at KF KG
  refine wp_region_listed (by kernel_rfl) (PG w5.drew bf bg F' G' 45 (fun i => if i = 0 then tab F else if i = 1 then .int .i64 (n : Int) else if i = 2 then tab F' else if i = 3 then tab G else if i = 4 then .int .i64 (n : Int) else tab G') _) (by kernel_rfl) ?_ ?_ (PG.start _)
  · intro listed i o a w' ho hn hi hdep hcl g
    have hi8 : i < 8 := (Array.getElem?_eq_some_iff.1 ho).1
    have c7 : listed.getD 7 false = true → listed.getD 6 false = true := fun q => hcl 7 _ q rfl { on := 6, ground := .chain } (by simp) (by decide)
    have c6 : listed.getD 6 false = true → listed.getD 0 false = true ∧ listed.getD 1 false = true ∧ listed.getD 2 false = true ∧ listed.getD 3 false = true ∧ listed.getD 4 false = true ∧ listed.getD 5 false = true := fun q => by
      have h5 : listed.getD 5 false = true := hcl 6 _ q rfl { on := 5, ground := .chain } (by simp) (by decide)
      exact ⟨hcl 6 _ q rfl { on := 0, ground := .phase } (by simp) (by decide), hcl 6 _ q rfl { on := 1, ground := .phase } (by simp) (by decide), hcl 6 _ q rfl { on := 2, ground := .data } (by simp) (by decide), hcl 5 _ h5 rfl { on := 3, ground := .data } (by simp) (by decide), hcl 5 _ h5 rfl { on := 4, ground := .data } (by simp) (by decide), h5⟩
    have q7 : a.tmps.getD 5 undef = .pointer (some ⟨bf, 0, none⟩) := g.other 5 (by omega)
    have q8 : a.tmps.getD 6 undef = .pointer (some ⟨bg, 0, none⟩) := g.other 6 (by omega)
    have q13 : a.tmps.getD 9 undef = .int .i64 (n : Int) := g.other 9 (by omega)
    have n6' : i < 6 → listed.getD 6 false = false := fun hi6 => by
      cases q : listed.getD 6 false with
      | false => rfl
      | true =>
        obtain ⟨p0, p1, p2, p3, p4, p5⟩ := c6 q
        have : i = 0 ∨ i = 1 ∨ i = 2 ∨ i = 3 ∨ i = 4 ∨ i = 5 := by omega
        rcases this with rfl | rfl | rfl | rfl | rfl | rfl
        · rw [p0] at hi; cases hi
        · rw [p1] at hi; cases hi
        · rw [p2] at hi; cases hi
        · rw [p3] at hi; cases hi
        · rw [p4] at hi; cases hi
        · rw [p5] at hi; cases hi
    have n7' : listed.getD 6 false = false → listed.getD 7 false = false := fun q => by
      cases r : listed.getD 7 false with
      | false => rfl
      | true => rw [c7 r] at q; cases q
    rcases lt8' hi8 with rfl | rfl | rfl | rfl | rfl | rfl | rfl | rfl
    · simp at ho
      subst ho
      have n6 := n6' (by omega)
      have n7 := n7' n6
      obtain ⟨e0, e1, e2, e3⟩ := (kept TFo.drew (g.now n6 n7)).copy
      refine wpOp_plain rfl rfl ?_
      go_simp
      exact g.step (i := 0) (by omega) (show 45 + 6 ≤ 193 by omega) n6 n7 (Below.refl _ _)
    · simp at ho
      subst ho
      have n6 := n6' (by omega)
      have n7 := n7' n6
      refine wpOp_plain rfl rfl ?_
      go_simp
      exact g.step (i := 1) (by omega) (show 45 + 6 ≤ 193 by omega) n6 n7 (Below.refl _ _)
    · simp at ho
      subst ho
      have n6 := n6' (by omega)
      have n7 := n7' n6
      have v0 : a.tmps.getD 45 undef = tab F := g.vals 0 (by omega) (hdep { on := 0, ground := .data } (by simp) (by decide))
      have v1 : a.tmps.getD 46 undef = .int .i64 (n : Int) := g.vals 1 (by omega) (hdep { on := 1, ground := .data } (by simp) (by decide))
      unfold tab at v0
      refine wpOp_plain rfl rfl ?_
      go_simp
      refine (KF _).mono ?_
      rintro e w'' ⟨rfl, b''⟩
      exact g.step (i := 2) (by omega) (show 45 + 6 ≤ 193 by omega) n6 n7 b''
    · simp at ho
      subst ho
      have n6 := n6' (by omega)
      have n7 := n7' n6
      obtain ⟨e0, e1, e2, e3⟩ := (kept TGo.drew (g.now n6 n7)).copy
      refine wpOp_plain rfl rfl ?_
      go_simp
      exact g.step (i := 3) (by omega) (show 45 + 6 ≤ 193 by omega) n6 n7 (Below.refl _ _)
    · simp at ho
      subst ho
      have n6 := n6' (by omega)
      have n7 := n7' n6
      refine wpOp_plain rfl rfl ?_
      go_simp
      exact g.step (i := 4) (by omega) (show 45 + 6 ≤ 193 by omega) n6 n7 (Below.refl _ _)
    · simp at ho
      subst ho
      have n6 := n6' (by omega)
      have n7 := n7' n6
      have v0 : a.tmps.getD 48 undef = tab G := g.vals 3 (by omega) (hdep { on := 3, ground := .data } (by simp) (by decide))
      have v1 : a.tmps.getD 49 undef = .int .i64 (n : Int) := g.vals 4 (by omega) (hdep { on := 4, ground := .data } (by simp) (by decide))
      unfold tab at v0
      refine wpOp_plain rfl rfl ?_
      go_simp
      refine (KG _).mono ?_
      rintro e w'' ⟨rfl, b''⟩
      exact g.step (i := 5) (by omega) (show 45 + 6 ≤ 193 by omega) n6 n7 b''
    · simp at ho
      subst ho
      have n7 := n7' hi
      have v0 : a.tmps.getD 47 undef = tab F' := g.vals 2 (by omega) (hdep { on := 2, ground := .data } (by simp) (by decide))
      have T := kept TFo.drew (g.now hi n7)
      obtain ⟨e0, e1, e2, e3⟩ := T.copy
      have z0 := T.free 0
      have z1 := T.free 1
      have z2 := T.free 2
      have z3 := T.free 3
      unfold tab at v0
      refine wpOp_plain rfl rfl ?_
      go_simp
      exact g.store hn hi n7
    · simp at ho
      subst ho
      have h6 : listed.getD 6 false = true := hdep { on := 6, ground := .chain } (by simp) (by decide)
      have v0 : a.tmps.getD 50 undef = tab G' := g.vals 5 (by omega) (hdep { on := 5, ground := .data } (by simp) (by decide))
      have g2 := (g.store2 hn h6 hi).1
      have T : IsTab w' bg G := by
        obtain ⟨_, wy, by', ey⟩ := g.store2 hn h6 hi
        rw [ey]
        exact (Rf.laid_turned wy bf F').tab (kept TGo.drew by') hfg.symm
      obtain ⟨e0, e1, e2, e3⟩ := T.copy
      have z0 := T.free 0
      have z1 := T.free 1
      have z2 := T.free 2
      have z3 := T.free 3
      unfold tab at v0
      refine wpOp_plain rfl rfl ?_
      go_simp
      exact g2
  · intro listed a w' hall g
    obtain ⟨wy, by', ey⟩ := g.world
    rw [if_pos (hall 7 (show 7 < 8 by omega))] at ey
    have ea : a = Rf.vfin [(45, tab F), (46, .int .i64 (n : Int)), (47, tab F'), (48, tab G), (49, .int .i64 (n : Int)), (50, tab G')] _ := Rf.vact_fin _ _ _ (by simp) g.size g.defers (fun s hs => g.other s (by
        rcases Nat.lt_or_ge s 45 with q | q
        · exact .inl q
        · rcases Nat.lt_or_ge s 51 with r | r
          · have c : @Eq Nat s 45 ∨ @Eq Nat s 46 ∨ @Eq Nat s 47 ∨ @Eq Nat s 48 ∨ @Eq Nat s 49 ∨ @Eq Nat s 50 := by omega
            rcases c with rfl | rfl | rfl | rfl | rfl | rfl <;> exact absurd (by simp) hs
          · exact .inr r)) (fun k hk => by
        simp only [List.mem_cons, List.not_mem_nil, or_false] at hk
        rcases hk with rfl | rfl | rfl | rfl | rfl | rfl
        · exact ⟨show @LT.lt Nat _ 45 193 by omega, g.vals 0 (by omega) (hall 0 (show 0 < 8 by omega))⟩
        · exact ⟨show @LT.lt Nat _ 46 193 by omega, g.vals 1 (by omega) (hall 1 (show 1 < 8 by omega))⟩
        · exact ⟨show @LT.lt Nat _ 47 193 by omega, g.vals 2 (by omega) (hall 2 (show 2 < 8 by omega))⟩
        · exact ⟨show @LT.lt Nat _ 48 193 by omega, g.vals 3 (by omega) (hall 3 (show 3 < 8 by omega))⟩
        · exact ⟨show @LT.lt Nat _ 49 193 by omega, g.vals 4 (by omega) (hall 4 (show 4 < 8 by omega))⟩
        · exact ⟨show @LT.lt Nat _ 50 193 by omega, g.vals 5 (by omega) (hall 5 (show 5 < 8 by omega))⟩)
    clear g hall
    subst ea
    simp only [Rf.vfin, Act.put, List.setIfInBounds_toArray, List.set_cons_succ, List.set_cons_zero]
    have t1 := Rf.laid_turned wy bf F'
    have t2 := Rf.laid_turned (Rf.laid wy bf F') bg G'
    have bw : Below w5.heap.size w5 wy := ⟨by'.os, by'.tape, by'.output, by'.size, by'.block⟩
    have sy := s5.below bw
    have TFy := kept TFo bw
    have TGy := kept TGo bw
    have keep : ∀ k, k < wy.heap.size → k ≠ bf → k ≠ bg → w'.heap[k]? = wy.heap[k]? := fun k hk h1 h2 => by
      rw [ey, t2.block k (Nat.lt_of_lt_of_le hk t1.size) h2, t1.block k hk h1]
    have s6 : St w' S F0 (Mdl.empty n 1000) := sy.kept fun k hk => keep k (sy.lt k hk) (fun e => s5.row TFo (by decide) (e ▸ hk)) (fun e => s5.row TGo (by decide) (e ▸ hk))
    have TF6 : IsTab w' bf F' := by rw [ey]; exact t2.tab (Rf.laid_tab TFy F') hfg
    have TG6 : IsTab w' bg G' := by rw [ey]; exact Rf.laid_tab (t1.tab TGy hfg.symm) G'
    have B6 : Below W.heap.size W w' := by
      have b1 := Rf.below_far B5A.out bw
      rw [ey]
      exact (b1.trans (t1.below b1.size bd.out.1)).trans (t2.below (Nat.le_trans b1.size t1.size) bd.out.2.1)
    have B6A : Aside (Below W.heap.size W w') := B6
    clear t1 t2 bw sy TFy TGy keep ey by' TFo TGo KF KG s5 hfg B6 B5A bd
    have hv0 : ∀ i, i < n → (Mdl.empty n 1000).v i = i := fun i hi => by
      show Od.idn n i = i
      unfold Od.idn
      rw [if_pos hi]
    have p6 := pow63 n8
    have K1 := make_any s6 (dF.out _ s6.ok rfl hv0) (by show 0 + (2 ^ (n - 2) - 1) + 19 ≤ 1000; omega)
    unfold tab at K1 ⊢
    obtain ⟨y0, y1, y2, y3⟩ := TF6.copy
    go_upto_region 9 with (first
      | (go_at_call 12; refine K1.mono ?_; clear K1; rintro e w7 ⟨a, M1, rfl, ⟨F7, s7, g7⟩, m1⟩))
    have TF7 : IsTab w7 bf F' := (g7.block bf TF6.lt (s6.row TF6 (by decide))).trans TF6
    have TG7 : IsTab w7 bg G' := (g7.block bg TG6.lt (s6.row TG6 (by decide))).trans TG6
    have B7A : Aside (Below W.heap.size W w7) := Wf.far B6A.out g7 B6A.out.size f5A.out
    have f7A : Aside (∀ k, F7 k → W.heap.size ≤ k) := g7.after B6A.out.size f5A.out
    have n1' : M1.n = n := m1.grew.n
    have v1' : M1.v = (Mdl.empty n 1000).v := m1.grew.v
    have r1' : M1.room = 1000 := m1.grew.room
    have u1' : M1.up ≤ 0 + (2 ^ (n - 2 - 0) - 1) := m1.up
    rw [Nat.sub_zero] at u1'
    have K2 := make_any s7 (dG.out M1 s7.ok n1' (fun i hi => by rw [v1']; exact hv0 i hi)) (by rw [n1', r1']; omega)
    have m1A : Aside (MadeIs (Mdl.empty n 1000) 0 F' a M1) := m1
    clear y0 y1 y2 y3 TF6 TG6 B6A f5A g7 s6 u1' r1' m1
    unfold tab at K2
    obtain ⟨y0, y1, y2, y3⟩ := TG7.copy
    go_upto_region 10 with (first
      | (go_at_call 12; refine K2.mono ?_; clear K2; rintro e w9 ⟨b, M, rfl, ⟨F9, s9, g9⟩, m2⟩))
    have TF9 : IsTab w9 bf F' := (g9.block bf TF7.lt (s7.row TF7 (by decide))).trans TF7
    have TG9 : IsTab w9 bg G' := (g9.block bg TG7.lt (s7.row TG7 (by decide))).trans TG7
    have B9A : Aside (Below W.heap.size W w9) := Wf.far B7A.out g9 B7A.out.size f7A.out
    have o9 := s9.ok
    have n9 : M.n = n := m2.grew.n.trans n1'
    have v9 : ∀ i, i < n → M.v i = i := fun i hi => by rw [m2.grew.v, v1']; exact hv0 i hi
    have r9 : M.room = 1000 := m2.grew.room.trans m1A.out.grew.room
    have t := TwoIs.made s7.ok rfl m1A.out m2 (dF.out M o9 n9 v9) (dG.out M o9 n9 v9)
    have ll := o9.len
    have vv8 : ∀ i, i < M.n → M.v i < 8 := fun i hi => v8 o9 hi
    clear y0 y1 y2 y3 TF7 TG7 g9 s7 m1A m2 B7A f7A hv0 dF dG n1' v1' v9
    have l256 : 2 ^ n ≤ 256 := Nat.pow_le_pow_right (n := 2) (j := 8) (by omega) n8
    obtain ⟨k, hk⟩ : ∃ k, countUpto F' (2 ^ n) = k := ⟨_, rfl⟩
    have kle : k ≤ 256 := by have := cnt_le F' (2 ^ n); omega
    have hdiv : countUpto F' 256 / 2 ^ (8 - n) = k := by rw [cnt_low F' n8 (low_mod n8 lowF.out), hk]
    have C1 := count_op s9 t.nx
    unfold tCnt at C1
    rw [cnt_congr (G := F') _ (fun y hy => t.tx y (by rw [n9] at hy; omega)), n9, hk] at C1
    have C2 : Aside (∀ u, Below w9.heap.size w9 u → Calls Tryz.prog 14 #[.pointer (some ⟨S, 0, none⟩), .int .u32 (a : Int)] u fun e w' => e = .returned (.tuple #[.int .u8 (supUpto F' 8 : Int), .int .i64 0]) ∧ Below u.heap.size u w') := fun u k => by
      have := support_op (s9.below k) t.nx
      unfold tSup at this
      rwa [sup_congr t.tx] at this
    have C3 : Aside (∀ u, Below w9.heap.size w9 u → Calls Tryz.prog 15 #[.pointer (some ⟨S, 0, none⟩), .int .u32 (a : Int), .int .u8 (x : Int)] u fun e w' => e = .returned (.tuple #[.bool (F' x), .int .i64 0]) ∧ Below u.heap.size u w') := fun u k => by
      have := eval_op (s9.below k) t.nx x hxA.out
      rwa [t.tx x hxA.out] at this
    have C4 : Aside (∀ u, Below w9.heap.size w9 u → Calls Tryz.prog 16 #[.pointer (some ⟨S, 0, none⟩), .int .u32 (a : Int)] u fun e w' => e = .returned (.tuple #[.int .u8 (oneN F' : Int), .bool (oneB F'), .int .i64 0]) ∧ Below u.heap.size u w') := fun u k => by
      have := one_op (s9.below k) t.nx
      unfold oneN oneB at this ⊢
      rwa [lst_congr t.tx] at this
    have C5 := fun u => rone_any F' u
    have C6 : Aside (∀ u, Below w9.heap.size w9 u → Calls Tryz.prog 18 #[.pointer (some ⟨S, 0, none⟩), .slice (some ⟨u.heap.size, 0, none⟩) 3 3] (u.alloc (.cells #[.int .u32 (a : Int), .int .u32 (b : Int), .int .u32 0] 32)) fun e w' => e = .returned (.tuple #[.int .i64 (M.hs.length : Int), .int .i64 0]) ∧ Below u.heap.size u w') := fun u k => by
      have hN : ∀ i, i < 3 → M.isNode ((fun i => if i = 0 then a else if i = 1 then b else 0) i) := fun i _ => by
        show M.isNode (if i = 0 then a else if i = 1 then b else 0)
        split
        · exact t.nx
        · split
          · exact t.ny
          · exact .inl (by omega)
      have B := nb u (.cells #[.int .u32 (a : Int), .int .u32 (b : Int), .int .u32 ((0 : Nat) : Int)] 32)
      refine (size_op (cap := 3) ((s9.below k).below B) (hs3 u a b 0) (fun i hi => Nat.lt_trans (Mdl.isNode_lt o9 (hN i hi)) (by decide)) (by omega)).mono ?_
      rintro e w' ⟨⟨_, ks, nd, r, rfl⟩ | ⟨⟨i, hi, bad⟩, _⟩, B'⟩
      · rw [t.len o9 r nd ⟨0, by omega, rfl⟩ ⟨1, by omega, rfl⟩]
        exact ⟨rfl, Rf.below_far B B'⟩
      · exact absurd (hN i hi) bad
    have C7 : Aside (∀ u, Below w9.heap.size w9 u → Calls Tryz.prog 19 #[.pointer (some ⟨S, 0, none⟩), .slice (some ⟨u.heap.size, 0, none⟩) 2 2] (u.alloc (.cells #[.int .u32 (b : Int), .int .u32 (a : Int)] 32)) fun e w' => ∃ g, e = .returned (.tuple #[.slice (some ⟨g, 0, none⟩) n n, .int .i64 0]) ∧ Aside (w'.rowIs g 3 n (fun i => .int .i64 (lvN M M.hs i : Int))) ∧ Below u.heap.size u w') := fun u k => by
      have hN : ∀ i, i < 2 → M.isNode ((fun i => if i = 0 then b else a) i) := fun i _ => by
        show M.isNode (if i = 0 then b else a)
        split
        · exact t.ny
        · exact t.nx
      have B := nb u (.cells #[.int .u32 (b : Int), .int .u32 (a : Int)] 32)
      refine (levels_op (cap := 2) ((s9.below k).below B) (hs2 u b a) (fun i hi => Nat.lt_trans (Mdl.isNode_lt o9 (hN i hi)) (by decide)) (by omega)).mono ?_
      rintro e w' ⟨⟨_, g, ks, nd, r, rfl, row, _⟩ | ⟨⟨i, hi, bad⟩, _⟩, B'⟩
      · rw [n9] at row ⊢
        refine ⟨g, rfl, row.congr fun i _ => ?_, Rf.below_far B B'⟩
        rw [t.lev o9 r nd ⟨1, by omega, rfl⟩ ⟨0, by omega, rfl⟩]
      · exact absurd (hN i hi) bad
    have C8 : Aside (∀ u, Below w9.heap.size w9 u → Calls Tryz.prog 20 #[.pointer (some ⟨S, 0, none⟩)] u fun e w' => ∃ P l, e = .returned (.pointer (some ⟨P, 0, none⟩)) ∧ Od.IsOrd w' P n M.v l ∧ Below u.heap.size u w') := fun u k => by
      have := s_order (s9.below k)
      rw [n9] at this
      exact this.mono fun e w' ⟨P, l, h1, h2, h3, _⟩ => ⟨P, l, h1, h2, h3⟩
    have TFA : Aside (∀ u, Below w9.heap.size w9 u → IsTab u bf F') := fun u k => kept TF9 k
    have TGA : Aside (∀ u, Below w9.heap.size w9 u → IsTab u bg G') := fun u k => kept TG9 k
    obtain ⟨q1, q2⟩ := t.parts o9 (fun i => if i = 0 then F' else G') rfl rfl
    rw [n9] at q1 q2 vv8
    have C9 : Aside (∀ u rb, u.rowIs rb 3 n (fun i => .int .i64 (M.v i : Int)) → Calls Tryz.prog 25 #[.slice (some ⟨u.heap.size, 0, none⟩) 2 2, .slice (some ⟨rb, 0, none⟩) n n] (u.alloc (.cells #[.int .u64 (word F' 0 : Int), .int .u64 (word F' 1 : Int), .int .u64 (word F' 2 : Int), .int .u64 (word F' 3 : Int), .int .u64 (word G' 0 : Int), .int .u64 (word G' 1 : Int), .int .u64 (word G' 2 : Int), .int .u64 (word G' 3 : Int)] 24)) fun e w' => e = .returned (.int .i64 (M.hs.length : Int)) ∧ Below u.heap.size u w') := fun u rb r => by
      have B := nb u (.cells #[.int .u64 (word F' 0 : Int), .int .u64 (word F' 1 : Int), .int .u64 (word F' 2 : Int), .int .u64 (word F' 3 : Int), .int .u64 (word G' 0 : Int), .int .u64 (word G' 1 : Int), .int .u64 (word G' 2 : Int), .int .u64 (word G' 3 : Int)] 24)
      have r' := r.of_block (B.block rb r.lt)
      have := size_any (some ⟨u.heap.size, 0, none⟩) 2 2 (fun i => if i = 0 then F' else G') (some ⟨rb, 0, none⟩) n n (fun i => (M.v i : Int)) _ (by omega) n8 (tabs_two (Go.Deep.blk_alloc_new u _)) (.inr ⟨rb, 0, rfl, r'.lt, fun i hi => by rw [Nat.zero_add]; exact r'.cell hi⟩)
      rw [q1] at this
      exact this.mono fun e w' h => ⟨h.1, Rf.below_far B h.2⟩
    have C10 : Aside (∀ u rb, u.rowIs rb 3 n (fun i => .int .i64 (M.v i : Int)) → Calls Tryz.prog 27 #[.slice (some ⟨u.heap.size, 0, none⟩) 2 2, .slice (some ⟨rb, 0, none⟩) n n] (u.alloc (.cells #[.int .u64 (word F' 0 : Int), .int .u64 (word F' 1 : Int), .int .u64 (word F' 2 : Int), .int .u64 (word F' 3 : Int), .int .u64 (word G' 0 : Int), .int .u64 (word G' 1 : Int), .int .u64 (word G' 2 : Int), .int .u64 (word G' 3 : Int)] 24)) fun e w' => ∃ g, e = .returned (.slice (some ⟨g, 0, none⟩) n n) ∧ Aside (w'.rowIs g 3 n (fun i => .int .i64 (lvN M M.hs i : Int))) ∧ Below u.heap.size u w') := fun u rb r => by
      have B := nb u (.cells #[.int .u64 (word F' 0 : Int), .int .u64 (word F' 1 : Int), .int .u64 (word F' 2 : Int), .int .u64 (word F' 3 : Int), .int .u64 (word G' 0 : Int), .int .u64 (word G' 1 : Int), .int .u64 (word G' 2 : Int), .int .u64 (word G' 3 : Int)] 24)
      have r' := r.of_block (B.block rb r.lt)
      refine (rlevels_any (some ⟨u.heap.size, 0, none⟩) 2 2 (fun i => if i = 0 then F' else G') (some ⟨rb, 0, none⟩) n n M.v _ (by omega) n8 vv8 (tabs_two (Go.Deep.blk_alloc_new u _)) (.inr ⟨rb, 0, rfl, r'.lt, fun i hi => by rw [Nat.zero_add]; exact r'.cell hi⟩) _ rfl (by rw [q1]; omega)).mono ?_
      rintro e w' ⟨g, rfl, row, B', _⟩
      refine ⟨g, rfl, row.congr fun i _ => ?_, Rf.below_far B B'⟩
      rw [q2]
    have C11 : Aside (∀ (u : World) (p q : Nat), u.rowIs p 3 n (fun i => .int .i64 (lvN M M.hs i : Int)) → u.rowIs q 3 n (fun i => .int .i64 (lvN M M.hs i : Int)) → Calls Tryz.prog 26 #[.slice (some ⟨p, 0, none⟩) n n, .slice (some ⟨q, 0, none⟩) n n] u fun e w' => e = .returned (.bool true) ∧ Below u.heap.size u w') := fun u p q hp hq => ints_true (Z := fun i => (lvN M M.hs i : Int)) hp hq (by omega)
    have RC := Rf.count_any F'
    have RS := Rf.support_any F'
    have RE := Rf.eval_any F' x hxA.out
    have c256 := cnt_le F' 256
    have sl := Rf.sup_lt F' 8 (Nat.le_refl _)
    obtain ⟨d, hd⟩ : ∃ d, 8 - n = d := ⟨_, rfl⟩
    rw [hd] at hdiv
    have d8 : d ≤ 8 := by omega
    have hdi : (8 : Int) - (n : Int) = (d : Int) := by omega
    have hdw : IntKind.i64.wrap (d : Int) = (d : Int) := by rw [IntKind.wrap_i64]; omega
    have hdw' : IntKind.u64.wrap (d : Int) = (d : Int) := by rw [IntKind.wrap_u64]; omega
    have m64 : min d 64 = d := by omega
    have kw : IntKind.i64.wrap (k : Int) = (k : Int) := by rw [IntKind.wrap_i64]; omega
    generalize countUpto F' 256 = c at RC hdiv c256
    have hsh : (c : Int) / 2 ^ d = (k : Int) := by rw [← hdiv]; push_cast; rfl
    clear hk hdiv l256 lowF q1 q2 vv8 t o9 n9 r9 ll hd p6 TF9 TG9 s9
    generalize supUpto F' 8 = m at C2 RS sl
    generalize F' x = r at C3 RE
    generalize oneN F' = on at C4 C5
    generalize oneB F' = ob at C4 C5
    generalize M.hs.length = L at C6 C9
    generalize lvN M M.hs = lv at C7 C10 C11
    generalize M.v = vv at C8 C9 C10
    unfold tab at C5 RC RS RE
    go_upto_region 14 with (first
      | (go_at_call 13; refine C1.mono ?_; clear C1; rintro e w10 ⟨rfl, b10⟩; have K2 := C2.out w10 b10)
      | (go_at_call 14; refine K2.mono ?_; clear K2; rintro e w11 ⟨rfl, b11⟩; have b11' := Rf.below_far b10 b11; have K3 := C3.out w11 b11')
      | (go_at_call 15; refine K3.mono ?_; clear K3; rintro e w12 ⟨rfl, b12⟩; have b12' := Rf.below_far b11' b12; have K4 := C4.out w12 b12')
      | (go_at_call 16; refine K4.mono ?_; clear K4; rintro e w13 ⟨rfl, b13⟩; have b13' := Rf.below_far b12' b13))
    clear b10 b11 b12 b13 b11' b12' C2 C3 C4
    obtain ⟨y0, y1, y2, y3⟩ := (TFA.out w13 b13').copy
    have K5 := C5 w13
    go_upto_region 15 with (first
      | (go_at_call 17; refine K5.mono ?_; clear K5; rintro e w14 ⟨rfl, b14⟩))
    have b14' := Rf.below_far b13' b14
    have K6 := C6.out w14 b14'
    clear y0 y1 y2 y3 b13' b14 C5
    go_upto_region 16 with (first
      | (go_at_call 18; refine K6.mono ?_; clear K6; rintro e w15 ⟨rfl, b15⟩))
    have b15' := Rf.below_far b14' b15
    have K7 := C7.out w15 b15'
    clear b14' b15 C6
    go_upto_region 17 with (first
      | (go_at_call 19; refine K7.mono ?_; clear K7; rintro e w16 ⟨g, rfl, row16, b16⟩))
    have b16' := Rf.below_far b15' b16
    have K8 := C8.out w16 b16'
    clear b15' b16 C7
    go_upto_region 18 with (first
      | (go_at_call 20; refine K8.mono ?_; clear K8; rintro e w17 ⟨P, lq, rfl, ord, b17⟩; have K9 := Od.all_any ord n8)
      | (go_at_call 21; refine K9.mono ?_; clear K9; rintro e w18 ⟨rfl, row18, b18⟩))
    have b18a := Rf.below_far b17 b18
    have b18' := Rf.below_far b16' b18a
    have rowG : Aside (∀ u, Below w18.heap.size w18 u → u.rowIs g 3 n (fun i => .int .i64 (lv i : Int))) := fun u k => by
      have q := row16.out.of_block (b18a.block g row16.out.lt)
      exact q.of_block (k.block g q.lt)
    have rowV : Aside (∀ u, Below w18.heap.size w18 u → u.rowIs w17.heap.size 3 n (fun i => .int .i64 (vv i : Int))) := fun u k => row18.of_block (k.block _ row18.lt)
    have BF : Aside (∀ u, Below w18.heap.size w18 u → IsTab u bf F') := fun u k => TFA.out u (Rf.below_far b18' k)
    have BG : Aside (∀ u, Below w18.heap.size w18 u → IsTab u bg G') := fun u k => TGA.out u (Rf.below_far b18' k)
    have BW : Aside (∀ u, Below w18.heap.size w18 u → Below W.heap.size W u) := fun u k => Rf.below_far B9A.out (Rf.below_far b18' k)
    clear b16' b17 b18 b18a b18' row16 row18 ord TFA TGA C8 B9A
    generalize w17.heap.size = rb at rowV ⊢
    have b0 : Below w18.heap.size w18 w18 := Below.refl _ _
    obtain ⟨y0, y1, y2, y3⟩ := (BF.out w18 b0).copy
    have K1 := RC w18
    go_wp2_with (first
      | (go_at_call 22; refine K1.mono ?_; clear K1 y0 y1 y2 y3; rintro e w19 ⟨rfl, b19⟩; obtain ⟨y0, y1, y2, y3⟩ := (BF.out w19 b19).copy; have K2 := RS w19)
      | (go_at_call 23; refine K2.mono ?_; clear K2 y0 y1 y2 y3; rintro e w20 ⟨rfl, b20⟩; have b20' := Rf.below_far b19 b20; obtain ⟨y0, y1, y2, y3⟩ := (BF.out w20 b20').copy; have K3 := RE w20)
      | (go_at_call 24; refine K3.mono ?_; clear K3 y0 y1 y2 y3; rintro e w21 ⟨rfl, b21⟩; have b21' := Rf.below_far b20' b21; obtain ⟨y0, y1, y2, y3⟩ := (BF.out w21 b21').copy; obtain ⟨z0, z1, z2, z3⟩ := (BG.out w21 b21').copy; have K4 := C9.out w21 rb (rowV.out w21 b21'))
      | (go_at_call 25; refine K4.mono ?_; clear K4 y0 y1 y2 y3 z0 z1 z2 z3; rintro e w22 ⟨rfl, b22⟩; have b22' := Rf.below_far b21' b22; obtain ⟨y0, y1, y2, y3⟩ := (BF.out w22 b22').copy; obtain ⟨z0, z1, z2, z3⟩ := (BG.out w22 b22').copy; have K5 := C10.out w22 rb (rowV.out w22 b22'))
      | (go_at_call 27; refine K5.mono ?_; clear K5 y0 y1 y2 y3 z0 z1 z2 z3; rintro e w23 ⟨g', rfl, row23, b23⟩; have b23' := Rf.below_far b22' b23; have K6 := C11.out w23 g g' (rowG.out w23 b23') row23.out)
      | (go_at_call 26; refine K6.mono ?_; clear K6; rintro e w24 ⟨rfl, b24⟩))
    go_ret
    exact ⟨by simp, BW.out w24 (Rf.below_far b23' b24)⟩
end Go.Proofs.YtdjbkpmokamkiaaGreat
