/-
  LogicTells, walked.
-/
import Derived.Test.YthadeopmnedccaaGreatLgd
import Derived.Test.YthadeopmnedccaaGreatBaseD
namespace Go.Proofs.YthadeopmnedccaaGreat
open Go Go.RowKit
open Rf (tab word IsTab laid laid_turned laid_tab)

theorem apart3 (s : Nat) : s ≠ s + 1 ∧ s ≠ s + 1 + 1 ∧ s + 1 ≠ s + 1 + 1 := by omega
set_option maxRecDepth 100000 in
set_option maxHeartbeats 4000000 in
theorem tells_walk (z : Int) (F G H : Nat → Bool) (y : Int) (on : Bool) (W : World) (z0 : 0 ≤ z) (y0 : 0 ≤ y) :
    Calls Tryz.prog 3 #[.int .u8 z, tab F, tab G, tab H, .int .u8 y, .bool on] W fun e w' => e = .returned (.bool true) ∧ Below W.heap.size W w' := by
  obtain ⟨n, hn⟩ : ∃ n : Nat, z % 8 + 1 = (n : Int) := ⟨(z % 8 + 1).toNat, by omega⟩
  have n1 : 1 ≤ n := by omega
  have n8 : n ≤ 8 := by omega
  have hz : Int.tmod z 8 = z % 8 := Int.tmod_eq_emod_of_nonneg z0
  obtain ⟨k, hk⟩ : ∃ k : Nat, y % 5 = (k : Int) := ⟨(y % 5).toNat, by omega⟩
  have k5 : k < 5 := by omega
  have hy : Int.tmod y 5 = y % 5 := Int.tmod_eq_emod_of_nonneg y0
  have hwk : IntKind.i64.wrap (k : Int) = (k : Int) := by rw [IntKind.wrap_i64]; omega
  have up0 : Aside ((Mdl.empty n 1000).up = 0) := rfl
  have nn0 : Aside ((Mdl.empty n 1000).n = n) := rfl
  have rr0 : Aside ((Mdl.empty n 1000).room = 1000) := rfl
  have vv0 : Aside (∀ i, i < n → (Mdl.empty n 1000).v i = i) := fun i hi => if_pos hi
  conv in #[Value.int .u8 z, tab F, tab G, tab H, Value.int .u8 y, Value.bool on] => unfold tab
  go_enter Tryz.func3, Tryz.ntmps3
  go_upto_region 1 with fail
  obtain ⟨TF, TG, TH, B3, hs⟩ := boxes3 W F G H
  generalize ((W.alloc (.cells #[.int .u64 (word F 0 : Int), .int .u64 (word F 1 : Int), .int .u64 (word F 2 : Int), .int .u64 (word F 3 : Int)] 24)).alloc (.cells #[.int .u64 (word G 0 : Int), .int .u64 (word G 1 : Int), .int .u64 (word G 2 : Int), .int .u64 (word G 3 : Int)] 24)).alloc (.cells #[.int .u64 (word H 0 : Int), .int .u64 (word H 1 : Int), .int .u64 (word H 2 : Int), .int .u64 (word H 3 : Int)] 24) = v3 at TF TG TH B3 hs ⊢
  have B3A : Aside (Below W.heap.size W v3) := B3
  obtain ⟨hfg, hfh, hgh⟩ := apart3 W.heap.size
  have lf : Aside (W.heap.size ≤ W.heap.size) := Nat.le_refl _
  have lg : Aside (W.heap.size ≤ W.heap.size + 1) := Nat.le_succ _
  have lh : Aside (W.heap.size ≤ W.heap.size + 1 + 1) := by show _ ≤ _; omega
  clear hs B3
  generalize W.heap.size + 1 + 1 = bh at TH hfh hgh lh ⊢
  generalize W.heap.size + 1 = bg at TG hfg hgh lg ⊢
  obtain ⟨bf, hbf⟩ : ∃ bf, W.heap.size = bf := ⟨_, rfl⟩
  have lf : Aside (W.heap.size ≤ bf) := by show _ ≤ _; omega
  rw [hbf] at TF hfg hfh ⊢
  clear hbf
  have Kk := known_any v3
  go_upto_region 8 with (first
    | (go_at_call 9; refine Kk.mono ?_; clear Kk; rintro e w1 ⟨rfl, b1⟩; have Kn : Calls Tryz.prog 10 #[.int .i64 (n : Int), .int .i64 1000] w1 _ := s_new n 1000 w1 n1 n8 (by omega) (by omega))
    | (go_at_call 10; refine Kn.mono ?_; clear Kn; rintro e w2 ⟨S, F0, rfl, s2, b2, f2⟩; have Kc := s_cached s2 on)
    | (go_at_call 11; refine Kc.mono ?_; clear Kc; rintro e w5 ⟨rfl, F1, s5, g5⟩))
  have TF2 := kept (kept TF b1) b2
  have TG2 := kept (kept TG b1) b2
  have TH2 := kept (kept TH b1) b2
  have Bw2 := Rf.below_far (Rf.below_far B3A.out b1) b2
  have hW1 : W.heap.size ≤ w1.heap.size := Nat.le_trans B3A.out.size b1.size
  have f2' : ∀ i, F0 i → W.heap.size ≤ i := fun i hi => Nat.le_trans hW1 (f2 i hi)
  have TF5 : IsTab w5 bf F := (g5.block bf TF2.lt (s2.row TF2 (by decide))).trans TF2
  have TG5 : IsTab w5 bg G := (g5.block bg TG2.lt (s2.row TG2 (by decide))).trans TG2
  have TH5 : IsTab w5 bh H := (g5.block bh TH2.lt (s2.row TH2 (by decide))).trans TH2
  have Bw5 : Below W.heap.size W w5 := Wf.far Bw2 g5 Bw2.size f2'
  have f5' : Aside (∀ i, F1 i → W.heap.size ≤ i) := g5.after Bw2.size f2'
  generalize hM : Mdl.empty n 1000 = M0 at s5 up0 nn0 rr0 vv0
  clear hM TF TG TH TF2 TG2 TH2 b1 b2 f2 hW1 B3A s2 g5 Bw2 f2'
  obtain ⟨F', hF'⟩ : ∃ F', trimF F n (8 - n) = F' := ⟨_, rfl⟩
  obtain ⟨G', hG'⟩ : ∃ G', trimF G n (8 - n) = G' := ⟨_, rfl⟩
  obtain ⟨H', hH'⟩ : ∃ H', trimF H n (8 - n) = H' := ⟨_, rfl⟩
  have KF := trim_any F n n8
  have KG := trim_any G n n8
  have KH := trim_any H n n8
  rw [hF'] at KF
  rw [hG'] at KG
  rw [hH'] at KH
  have dT : Aside (∀ M : Mdl, M.Ok → M.n = M0.n → M.v = M0.v → Dep M 0 F' ∧ Dep M 0 G' ∧ Dep M 0 H') := fun M o hn hv => by
    have onto : ∀ i, i < M.n → M.v i = i := fun i hi => by rw [hv]; exact vv0.out i (by rw [← nn0.out, ← hn]; exact hi)
    have hF := Dep.trim o F onto
    have hG := Dep.trim o G onto
    have hH := Dep.trim o H onto
    rw [hn, nn0.out] at hF hG hH
    rw [hF'] at hF
    rw [hG'] at hG
    rw [hH'] at hH
    exact ⟨hF, hG, hH⟩
  clear hF' hG' hH' vv0
  refine trip_region (b := 42) (p := 7) (q := 8) (r := 9) (m := 13) (by decide) (by decide) (by decide) (by decide) (show 42 + 9 ≤ 136 by omega) rfl rfl rfl rfl TF5 TG5 TH5 hfg hfh hgh KF KG KH fun wy by' => ?_
  simp only [Rf.vfin, Act.put, List.setIfInBounds_toArray, List.set_cons_succ, List.set_cons_zero]
  have t1 := laid_turned wy bf F'
  have t2 := laid_turned (laid wy bf F') bg G'
  have t3 := laid_turned (laid (laid wy bf F') bg G') bh H'
  have sy := s5.below by'
  have keep : ∀ k, k < wy.heap.size → k ≠ bf → k ≠ bg → k ≠ bh → (laid (laid (laid wy bf F') bg G') bh H').heap[k]? = wy.heap[k]? := fun k hk h1 h2 h3 => by
    rw [t3.block k (Nat.lt_of_lt_of_le hk (Nat.le_trans t1.size t2.size)) h3, t2.block k (Nat.lt_of_lt_of_le hk t1.size) h2, t1.block k hk h1]
  have s6 : St (laid (laid (laid wy bf F') bg G') bh H') S F1 M0 := sy.kept fun k hk => keep k (sy.lt k hk) (fun e => s5.row TF5 (by decide) (e ▸ hk)) (fun e => s5.row TG5 (by decide) (e ▸ hk)) (fun e => s5.row TH5 (by decide) (e ▸ hk))
  have TF6 : IsTab (laid (laid (laid wy bf F') bg G') bh H') bf F' := t3.tab (t2.tab (laid_tab (kept TF5 by') F') hfg) hfh
  have TG6 : IsTab (laid (laid (laid wy bf F') bg G') bh H') bg G' := t3.tab (laid_tab (t1.tab (kept TG5 by') hfg.symm) G') hgh
  have TH6 : IsTab (laid (laid (laid wy bf F') bg G') bh H') bh H' := laid_tab (t2.tab (t1.tab (kept TH5 by') hfh.symm) hgh.symm) H'
  have Bw6 : Below W.heap.size W (laid (laid (laid wy bf F') bg G') bh H') := by
    have b1 := Rf.below_far Bw5 by'
    have c1 := b1.trans (t1.below b1.size lf.out)
    have c2 := c1.trans (t2.below c1.size lg.out)
    exact c2.trans (t3.below c2.size lh.out)
  generalize laid (laid (laid wy bf F') bg G') bh H' = w6 at s6 TF6 TG6 TH6 Bw6 ⊢
  clear t1 t2 t3 by' sy keep TF5 TG5 TH5 Bw5 s5 KF KG KH hfg hfh hgh lf lg lh
  have p6 := pow63 n8
  have Km := make_any s6 (dT.out M0 s6.ok rfl rfl).1 (by rw [up0.out, nn0.out, rr0.out]; omega)
  unfold tab at Km
  obtain ⟨c0, c1, c2, c3⟩ := TF6.copy
  go_upto_region 10 with (first
    | (go_at_call 13; refine Km.mono ?_; clear Km; rintro e w7 ⟨xa, M1, rfl, ⟨F7, s7, g7⟩, m1⟩))
  have TF7 : IsTab w7 bf F' := (g7.block bf TF6.lt (s6.row TF6 (by decide))).trans TF6
  have TG7 : IsTab w7 bg G' := (g7.block bg TG6.lt (s6.row TG6 (by decide))).trans TG6
  have TH7 : IsTab w7 bh H' := (g7.block bh TH6.lt (s6.row TH6 (by decide))).trans TH6
  have Bw7 : Below W.heap.size W w7 := Wf.far Bw6 g7 Bw6.size f5'.out
  have f7' := g7.after Bw6.size f5'.out
  have u1 : M1.up ≤ 63 := by have := m1.up; rw [up0.out, nn0.out, Nat.sub_zero] at this; omega
  have n1' : M1.n = n := m1.grew.n.trans nn0.out
  have r1' : M1.room = 1000 := m1.grew.room.trans rr0.out
  have o0 := s6.ok
  have o1 := s7.ok
  have Km := make_any s7 (dT.out M1 o1 m1.grew.n m1.grew.v).2.1 (by rw [n1', r1']; omega)
  unfold tab at Km
  clear c0 c1 c2 c3 TF6 TG6 TH6 Bw6 g7 s6
  obtain ⟨c0, c1, c2, c3⟩ := TG7.copy
  have a1 : Aside (M1.up ≤ 63) := u1
  have a2 : Aside (M1.n = n) := n1'
  have a3 : Aside (M1.room = 1000) := r1'
  have a4 : Aside (∀ i, F7 i → W.heap.size ≤ i) := f7'
  clear u1 n1' r1' f7' f5'
  go_upto_region 11 with (first
    | (go_at_call 13; refine Km.mono ?_; clear Km; rintro e w8 ⟨xb, M2, rfl, ⟨F8, s8, g8⟩, m2⟩))
  have TF8 : IsTab w8 bf F' := (g8.block bf TF7.lt (s7.row TF7 (by decide))).trans TF7
  have TG8 : IsTab w8 bg G' := (g8.block bg TG7.lt (s7.row TG7 (by decide))).trans TG7
  have TH8 : IsTab w8 bh H' := (g8.block bh TH7.lt (s7.row TH7 (by decide))).trans TH7
  have Bw8 : Below W.heap.size W w8 := Wf.far Bw7 g8 Bw7.size a4.out
  have f8' := g8.after Bw7.size a4.out
  have u2 : M2.up ≤ 126 := by have := m2.up; have := a1.out; rw [a2.out, Nat.sub_zero] at *; omega
  have n2' : M2.n = n := m2.grew.n.trans a2.out
  have r2' : M2.room = 1000 := m2.grew.room.trans a3.out
  have o2 := s8.ok
  have Km := make_any s8 (dT.out M2 o2 (m2.grew.n.trans m1.grew.n) (m2.grew.v.trans m1.grew.v)).2.2 (by rw [n2', r2']; omega)
  unfold tab at Km
  clear c0 c1 c2 c3 TF7 TG7 TH7 Bw7 g8 s7
  obtain ⟨c0, c1, c2, c3⟩ := TH8.copy
  have b1 : Aside (M2.up ≤ 126) := u2
  have b2 : Aside (M2.n = n) := n2'
  have b3 : Aside (M2.room = 1000) := r2'
  have b4 : Aside (∀ i, F8 i → W.heap.size ≤ i) := f8'
  clear u2 n2' r2' f8' a1 a2 a3 a4
  go_upto_region 12 with (first
    | (go_at_call 13; refine Km.mono ?_; clear Km; rintro e w9 ⟨xc, M3, rfl, ⟨F9, s9, g9⟩, m3⟩))
  have TF9 : IsTab w9 bf F' := (g9.block bf TF8.lt (s8.row TF8 (by decide))).trans TF8
  have TG9 : IsTab w9 bg G' := (g9.block bg TG8.lt (s8.row TG8 (by decide))).trans TG8
  have TH9 : IsTab w9 bh H' := (g9.block bh TH8.lt (s8.row TH8 (by decide))).trans TH8
  have Bw9 : Below W.heap.size W w9 := Wf.far Bw8 g9 Bw8.size b4.out
  have f9' : Aside (∀ i, F9 i → W.heap.size ≤ i) := g9.after Bw8.size b4.out
  have o3 := s9.ok
  have u3 : Aside (M3.up + (2 ^ (M3.n - 2 - 0) - 1) + 19 ≤ M3.room) := by
    show M3.up + (2 ^ (M3.n - 2 - 0) - 1) + 19 ≤ M3.room
    have hu := m3.up
    have := b1.out
    rw [b2.out, Nat.sub_zero] at hu
    rw [m3.grew.n, m3.grew.room, b2.out, b3.out, Nat.sub_zero]
    omega
  have na : M3.isNode xa := m3.grew.isNode (m2.grew.isNode m1.node)
  have nb' : M3.isNode xb := m3.grew.isNode m2.node
  have ta : Eqt (M3.tbl xa) F' := fun y hy => by rw [m3.grew.tbl o2 (m2.grew.isNode m1.node), m2.grew.tbl o1 m1.node]; exact m1.tbl y hy
  have tb : Eqt (M3.tbl xb) G' := fun y hy => by rw [m3.grew.tbl o2 m2.node]; exact m2.tbl y hy
  have d3 := dT.out M3 o3 (m3.grew.n.trans (m2.grew.n.trans m1.grew.n)) (m3.grew.v.trans (m2.grew.v.trans m1.grew.v))
  obtain ⟨X, hX⟩ : ∃ X, resK k F' G' H' = X := ⟨_, rfl⟩
  have dX : Aside (Dep M3 0 X) := hX ▸ dep_res k d3.1 d3.2.1 d3.2.2
  have eX : Aside (Eqt (ans M3 (opK k) xa xb xc) X) := hX ▸ ans_res k ta tb m3.tbl
  have dA : Aside (Dep M3 0 (ans M3 (opK k) xa xb xc)) := ans_dep o3 ⟨na, Nat.zero_le _⟩ ⟨nb', Nat.zero_le _⟩ ⟨m3.node, Nat.zero_le _⟩
  have KR := result_any k5 F' G' H'
  rw [hX] at KR
  have used : usedK M3 k xa xb xc := ⟨na, fun _ => nb', fun _ => m3.node⟩
  have naA : Aside (M3.isNode xa ∧ Eqt (M3.tbl xa) F') := ⟨na, ta⟩
  have nbA : Aside (M3.isNode xb ∧ Eqt (M3.tbl xb) G') := ⟨nb', tb⟩
  have KL := s_len s9
  have bl : Aside (both M3 X ≤ (prts M3 X).length) := both_le o3 X
  have pl : Aside ((prts M3 X).length ≤ 512000) := prts_len M3 X
  have ml : Aside (M3.hs.length ≤ 32768) := by have := o3.len; have := s9.room; show _ ≤ _; omega
  clear hX d3 m1 m2 m3 na nb' ta tb TF8 TG8 TH8 Bw8 g9 s8 c0 c1 c2 c3 b1 b2 b3 b4 dT o0 o1 o2
  obtain ⟨L, hL⟩ : ∃ L, M3.hs.length = L := ⟨_, rfl⟩
  have hLA : Aside (M3.hs.length = L) := hL
  rw [hL] at KL
  clear hL
  have o3A : Aside M3.Ok := o3
  clear o3
  unfold tab at KR
  obtain ⟨p0, p1, p2, p3⟩ := TF9.copy
  obtain ⟨q0, q1, q2, q3⟩ := TG9.copy
  obtain ⟨r0, r1, r2, r3⟩ := TH9.copy
  go_upto_region 17 with (first
    | (go_at_call 14; refine KL.mono ?_; clear KL; rintro e w ⟨rfl, e⟩; subst w)
    | (go_at_call 16; refine (KR _).mono ?_; rintro e w10 ⟨rfl, b10⟩; have s10 := s9.below b10; have KFr := fresh_any (X := X) s10; unfold tab at KFr)
    | (go_at_call 15; refine KFr.mono ?_; clear KFr; rintro e w11 ⟨rfl, b11⟩))
  have b911 := Rf.below_far b10 b11
  have TF11 := kept TF9 b911
  have TG11 := kept TG9 b911
  have TH11 := kept TH9 b911
  have s11 := s9.below b911
  have Bw11 := Rf.below_far Bw9 b911
  have KC := call_any k5 s11 used
  have never : Aside (∀ {x : Nat} {er : Int} {M' : Mdl}, M'.Ok → Told M3 0 (ans M3 (opK k) xa xb xc) x er M' → er = 0 ∧ Got M3 0 X x M') := fun {x er M'} o' t => by
    rcases t with ⟨e, g⟩ | ⟨_, _, t⟩
    · exact ⟨e, g.like o3A.out dA.out eX.out⟩
    · exact (t.never o' u3.out).elim
  clear p0 p1 p2 p3 q0 q1 q2 q3 r0 r1 r2 r3 TF9 TG9 TH9 s9 s10 b10 b11 b911 Bw9 used
  go_upto_region 18 with (first
    | (go_at_call 17; refine KC.mono ?_; clear KC; rintro e w12 ⟨x, er, M4, F12, rfl, t12, s12, b12⟩; obtain ⟨er0, g12⟩ := never.out s12.ok t12; subst er0; clear t12))
  have TF12 : IsTab w12 bf F' := (b12.block bf TF11.lt (s11.row TF11 (by decide))).trans TF11
  have TG12 : IsTab w12 bg G' := (b12.block bg TG11.lt (s11.row TG11 (by decide))).trans TG11
  have TH12 : IsTab w12 bh H' := (b12.block bh TH11.lt (s11.row TH11 (by decide))).trans TH11
  have Bw12 : Aside (Below W.heap.size W w12) := Wf.far Bw11 b12 Bw11.size f9'.out
  have KI : Aside (∀ {u : World}, St u S F12 M4 → Calls Tryz.prog 18 #[.pointer (some ⟨S, 0, none⟩), .int .u32 (x : Int), tab X] u fun e w' => e = .returned (.bool true) ∧ Below u.heap.size u w') := fun {u} su => by
    have := isf_any (G := X) su g12.node
    rwa [same_true g12.tbl] at this
  have KA : Aside (∀ {u : World}, St u S F12 M4 → Calls Tryz.prog 18 #[.pointer (some ⟨S, 0, none⟩), .int .u32 (xa : Int), tab F'] u fun e w' => e = .returned (.bool true) ∧ Below u.heap.size u w') := fun {u} su => by
    have := isf_any (G := F') su (g12.grew.isNode naA.out.1)
    rwa [same_true fun y hy => by rw [g12.grew.tbl o3A.out naA.out.1]; exact naA.out.2 y hy] at this
  have KB : Aside (∀ {u : World}, St u S F12 M4 → Calls Tryz.prog 18 #[.pointer (some ⟨S, 0, none⟩), .int .u32 (xb : Int), tab G'] u fun e w' => e = .returned (.bool true) ∧ Below u.heap.size u w') := fun {u} su => by
    have := isf_any (G := G') su (g12.grew.isNode nbA.out.1)
    rwa [same_true fun y hy => by rw [g12.grew.tbl o3A.out nbA.out.1]; exact nbA.out.2 y hy] at this
  have len4 : (M4.hs.length : Int) = (L : Int) + (((prts M3 X).length : Int) - (both M3 X : Int)) := by
    have := g12.len o3A.out s12.ok dX.out
    have := bl.out
    have := hLA.out
    omega
  have KL4 : Aside (∀ {u : World}, St u S F12 M4 → Calls Tryz.prog 14 #[.pointer (some ⟨S, 0, none⟩)] u fun e w' => e = .returned (.int .i64 ((L : Int) + (((prts M3 X).length : Int) - (both M3 X : Int)))) ∧ w' = u) := fun {u} su => by
    have := s_len su
    rwa [len4] at this
  have hwl : IntKind.i64.wrap ((L : Int) + (((prts M3 X).length : Int) - (both M3 X : Int))) = (L : Int) + (((prts M3 X).length : Int) - (both M3 X : Int)) := by
    have := bl.out
    have := pl.out
    have := ml.out
    have := hLA.out
    rw [IntKind.wrap_i64]
    omega
  clear len4 g12 s11 b12 TF11 TG11 TH11 Bw11
  generalize ((prts M3 X).length : Int) - (both M3 X : Int) = fr at KL4 hwl ⊢
  obtain ⟨p0, p1, p2, p3⟩ := TF12.copy
  obtain ⟨q0, q1, q2, q3⟩ := TG12.copy
  obtain ⟨r0, r1, r2, r3⟩ := TH12.copy
  go_wp2_with (first
    | (go_at_call 16; refine (KR _).mono ?_; rintro e w13 ⟨rfl, b13⟩; have s13 := s12.below b13; have K13 := KI.out s13; unfold tab at K13)
    | (go_at_call 18; refine K13.mono ?_; clear K13; rintro e w14 ⟨rfl, b14⟩; have b1214 := Rf.below_far b13 b14; have s14 := s12.below b1214; have TF14 := kept TF12 b1214; have TG14 := kept TG12 b1214; obtain ⟨x0, x1, x2, x3⟩ := TF14.copy; have K14 := KL4.out s14; have K15 := KA.out s14; unfold tab at K15)
    | (go_at_call 14; refine K14.mono ?_; clear K14; rintro e w ⟨rfl, e⟩; subst w)
    | (go_at_call 18; refine K15.mono ?_; clear K15; rintro e w16 ⟨rfl, b16⟩; have s16 := s14.below b16; have TG16 := kept TG14 b16; obtain ⟨y0, y1, y2, y3⟩ := TG16.copy; have K17 := KB.out s16; unfold tab at K17)
    | (go_at_call 18; refine K17.mono ?_; clear K17; rintro e w18 ⟨rfl, b18⟩; have s18 := s16.below b18; have K19 := once_any s18)
    | (go_at_call 19; refine K19.mono ?_; clear K19; rintro e w20 ⟨rfl, b20⟩))
  go_ret
  exact ⟨rfl, Rf.below_far (Rf.below_far (Rf.below_far (Rf.below_far Bw12.out b1214) b16) b18) b20⟩
end Go.Proofs.YthadeopmnedccaaGreat
