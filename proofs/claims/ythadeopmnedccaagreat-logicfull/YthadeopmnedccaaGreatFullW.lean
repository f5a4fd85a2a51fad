/-
  LogicFull, walked.
-/
import Derived.Test.YthadeopmnedccaaGreatLgd
import Derived.Test.YthadeopmnedccaaGreatBaseG
namespace Go.Proofs.YthadeopmnedccaaGreat
open Go Go.RowKit
open Rf (tab word IsTab TabsAt IntsAt prt dedup)

/-- Three tables. -/
def tri (F G H : Nat → Bool) (i : Nat) : Nat → Bool := if i = 0 then F else if i = 1 then G else H
theorem tabs_tri {v : World} {g : Nat} {F G H : Nat → Bool} (h : v.heap[g]? = some (.cells #[.int .u64 (word F 0 : Int), .int .u64 (word F 1 : Int), .int .u64 (word F 2 : Int), .int .u64 (word F 3 : Int), .int .u64 (word G 0 : Int), .int .u64 (word G 1 : Int), .int .u64 (word G 2 : Int), .int .u64 (word G 3 : Int), .int .u64 (word H 0 : Int), .int .u64 (word H 1 : Int), .int .u64 (word H 2 : Int), .int .u64 (word H 3 : Int)] 24 (0, 0))) : TabsAt v (some ⟨g, 0, none⟩) 3 (tri F G H) := by
  refine .inr ⟨g, 0, rfl, (Array.getElem?_eq_some_iff.1 h).1, fun i hi k hk => ?_⟩
  have ci : i = 0 ∨ i = 1 ∨ i = 2 := by omega
  have ck : k = 0 ∨ k = 1 ∨ k = 2 ∨ k = 3 := by omega
  rcases ci with rfl | rfl | rfl <;> rcases ck with rfl | rfl | rfl | rfl <;> simp [World.cell?, h, tri]
theorem ints8 {v : World} {g : Nat} (h : v.heap[g]? = some (.cells #[.int .i64 0, .int .i64 1, .int .i64 2, .int .i64 3, .int .i64 4, .int .i64 5, .int .i64 6, .int .i64 7] 3 (0, 0))) (V : Nat → Nat) (hV : ∀ i, i < 8 → V i = i) : IntsAt v (some ⟨g, 0, none⟩) 8 (fun i => (V i : Int)) := by
  refine .inr ⟨g, 0, rfl, (Array.getElem?_eq_some_iff.1 h).1, fun i hi => ?_⟩
  show v.cell? ⟨g, 0 + i, none⟩ = some (.int .i64 ((V i : Nat) : Int))
  rw [hV i hi]
  have ci : i = 0 ∨ i = 1 ∨ i = 2 ∨ i = 3 ∨ i = 4 ∨ i = 5 ∨ i = 6 ∨ i = 7 := by omega
  rcases ci with rfl | rfl | rfl | rfl | rfl | rfl | rfl | rfl <;> simp [World.cell?, h]
theorem tri_prt {M : Mdl} {F G H X : Nat → Bool} : PrtT M (tri F G H) 3 X ↔ Prt M F X ∨ Prt M G X ∨ Prt M H X := by
  constructor
  · rintro ⟨i, hi, p⟩
    have ci : i = 0 ∨ i = 1 ∨ i = 2 := by omega
    rcases ci with rfl | rfl | rfl
    · exact .inl p
    · exact .inr (.inl p)
    · exact .inr (.inr p)
  · rintro (p | p | p)
    · exact ⟨0, by omega, p⟩
    · exact ⟨1, by omega, p⟩
    · exact ⟨2, by omega, p⟩
theorem dep8 {M : Mdl} (o : M.Ok) (e : M.n = 8) (F : Nat → Bool) : Dep M 0 F := Dep.all o e F

set_option maxRecDepth 100000 in
set_option maxHeartbeats 4000000 in
theorem full_walk (F G H : Nat → Bool) (y z : Int) (W : World) (y0 : 0 ≤ y) (z0 : 0 ≤ z) :
    Calls Tryz.prog 4 #[tab F, tab G, tab H, .int .u8 y, .int .u8 z] W fun e w' => e = .returned (.bool true) ∧ Below W.heap.size W w' := by
  obtain ⟨k, hk⟩ : ∃ k : Nat, y % 5 = (k : Int) := ⟨(y % 5).toNat, by omega⟩
  have k5 : k < 5 := by omega
  have hy : Int.tmod y 5 = y % 5 := Int.tmod_eq_emod_of_nonneg y0
  have hwk : IntKind.i64.wrap (k : Int) = (k : Int) := by rw [IntKind.wrap_i64]; omega
  obtain ⟨q, hq⟩ : ∃ q : Nat, z % 100 = (q : Int) := ⟨(z % 100).toNat, by omega⟩
  have q100 : q < 100 := by omega
  have hz : Int.tmod z 100 = z % 100 := Int.tmod_eq_emod_of_nonneg z0
  have hwq : IntKind.i64.wrap (q : Int) = (q : Int) := by rw [IntKind.wrap_i64]; omega
  obtain ⟨N, hN⟩ : ∃ N, sizeN (Mdl.empty 8 1) (tri F G H) 3 = N := ⟨_, rfl⟩
  have hNA : Aside (∀ r, sizeN (Mdl.empty 8 r) (tri F G H) 3 = N) := fun r => hN
  have N1 : N ≤ 1533 := by have := sizeN_le (Mdl.empty 8 1) (tri F G H) 3; omega
  have KS : Aside (∀ (u : World), Calls Tryz.prog 20 #[.slice (some ⟨u.heap.size, 0, none⟩) 3 3, .slice (some ⟨u.heap.size + 1, 0, none⟩) 8 8] ((u.alloc (.cells #[.int .u64 (word F 0 : Int), .int .u64 (word F 1 : Int), .int .u64 (word F 2 : Int), .int .u64 (word F 3 : Int), .int .u64 (word G 0 : Int), .int .u64 (word G 1 : Int), .int .u64 (word G 2 : Int), .int .u64 (word G 3 : Int), .int .u64 (word H 0 : Int), .int .u64 (word H 1 : Int), .int .u64 (word H 2 : Int), .int .u64 (word H 3 : Int)] 24)).alloc (.cells #[.int .i64 0, .int .i64 1, .int .i64 2, .int .i64 3, .int .i64 4, .int .i64 5, .int .i64 6, .int .i64 7] 3)) fun e w' => e = .returned (.int .i64 (N : Int)) ∧ Below u.heap.size u w') := fun u => by
    have t := tabs_tri (F := F) (G := G) (H := H) (Go.Deep.blk_alloc_new u (.cells #[.int .u64 (word F 0 : Int), .int .u64 (word F 1 : Int), .int .u64 (word F 2 : Int), .int .u64 (word F 3 : Int), .int .u64 (word G 0 : Int), .int .u64 (word G 1 : Int), .int .u64 (word G 2 : Int), .int .u64 (word G 3 : Int), .int .u64 (word H 0 : Int), .int .u64 (word H 1 : Int), .int .u64 (word H 2 : Int), .int .u64 (word H 3 : Int)] 24))
    have i8 := ints8 (Go.Deep.blk_alloc_new (u.alloc (.cells #[.int .u64 (word F 0 : Int), .int .u64 (word F 1 : Int), .int .u64 (word F 2 : Int), .int .u64 (word F 3 : Int), .int .u64 (word G 0 : Int), .int .u64 (word G 1 : Int), .int .u64 (word G 2 : Int), .int .u64 (word G 3 : Int), .int .u64 (word H 0 : Int), .int .u64 (word H 1 : Int), .int .u64 (word H 2 : Int), .int .u64 (word H 3 : Int)] 24)) (.cells #[.int .i64 0, .int .i64 1, .int .i64 2, .int .i64 3, .int .i64 4, .int .i64 5, .int .i64 6, .int .i64 7] 3)) (Od.idn 8) (fun i hi => if_pos hi)
    rw [show (u.alloc (.cells #[.int .u64 (word F 0 : Int), .int .u64 (word F 1 : Int), .int .u64 (word F 2 : Int), .int .u64 (word F 3 : Int), .int .u64 (word G 0 : Int), .int .u64 (word G 1 : Int), .int .u64 (word G 2 : Int), .int .u64 (word G 3 : Int), .int .u64 (word H 0 : Int), .int .u64 (word H 1 : Int), .int .u64 (word H 2 : Int), .int .u64 (word H 3 : Int)] 24)).heap.size = u.heap.size + 1 by simp] at i8
    have := size_any (some ⟨u.heap.size, 0, none⟩) 3 3 (tri F G H) (some ⟨u.heap.size + 1, 0, none⟩) 8 8 (fun i => (Od.idn 8 i : Int)) _ (by omega) (by omega) (t.kept (nb _ (.cells #[.int .i64 0, .int .i64 1, .int .i64 2, .int .i64 3, .int .i64 4, .int .i64 5, .int .i64 6, .int .i64 7] 3))) i8
    have hN' : (prt (fun i => (Od.idn 8 i : Int)) 8 (dedup (tri F G H) 3) (min 8 8 + 1)).1.length = N := hN
    rw [hN'] at this
    exact this.mono fun e w' ⟨h1, h2⟩ => ⟨h1, Rf.below_far (Rf.below_far (nb u (.cells #[.int .u64 (word F 0 : Int), .int .u64 (word F 1 : Int), .int .u64 (word F 2 : Int), .int .u64 (word F 3 : Int), .int .u64 (word G 0 : Int), .int .u64 (word G 1 : Int), .int .u64 (word G 2 : Int), .int .u64 (word G 3 : Int), .int .u64 (word H 0 : Int), .int .u64 (word H 1 : Int), .int .u64 (word H 2 : Int), .int .u64 (word H 3 : Int)] 24)) (nb _ (.cells #[.int .i64 0, .int .i64 1, .int .i64 2, .int .i64 3, .int .i64 4, .int .i64 5, .int .i64 6, .int .i64 7] 3))) h2⟩
  clear hN
  conv in #[tab F, tab G, tab H, Value.int .u8 y, Value.int .u8 z] => unfold tab
  go_enter Tryz.func4, Tryz.ntmps4
  go_upto_region 1 with fail
  obtain ⟨TF, TG, TH, B3, hs⟩ := boxes3 W F G H
  generalize ((W.alloc (.cells #[.int .u64 (word F 0 : Int), .int .u64 (word F 1 : Int), .int .u64 (word F 2 : Int), .int .u64 (word F 3 : Int)] 24)).alloc (.cells #[.int .u64 (word G 0 : Int), .int .u64 (word G 1 : Int), .int .u64 (word G 2 : Int), .int .u64 (word G 3 : Int)] 24)).alloc (.cells #[.int .u64 (word H 0 : Int), .int .u64 (word H 1 : Int), .int .u64 (word H 2 : Int), .int .u64 (word H 3 : Int)] 24) = v3 at TF TG TH B3 hs ⊢
  have B3A : Aside (Below W.heap.size W v3) := B3
  clear hs B3
  generalize W.heap.size + 1 + 1 = bh at TH ⊢
  generalize W.heap.size + 1 = bg at TG ⊢
  generalize W.heap.size = bf at TF ⊢
  have Kk := known_any v3
  go_upto_region 4 with (first
    | (go_at_call 9; refine Kk.mono ?_; clear Kk; rintro e w1 ⟨rfl, b1⟩))
  have TF1 := kept TF b1
  have TG1 := kept TG b1
  have TH1 := kept TH b1
  have B1A : Aside (Below W.heap.size W w1) := Rf.below_far B3A.out b1
  clear TF TG TH B3A b1
  obtain ⟨p0, p1, p2, p3⟩ := TF1.copy
  obtain ⟨q0, q1, q2, q3⟩ := TG1.copy
  obtain ⟨r0, r1, r2, r3⟩ := TH1.copy
  have K1 := KS.out w1
  clear KS
  obtain ⟨r, hr⟩ : ∃ r : Nat, (N : Int) + (q : Int) + 1 = (r : Int) := ⟨N + q + 1, by omega⟩
  have hrA : Aside (r = N + q + 1) := by show r = _; omega
  have hw1 : IntKind.i64.wrap ((N : Int) + (q : Int)) = (N : Int) + (q : Int) := by rw [IntKind.wrap_i64]; omega
  have hw2 : IntKind.i64.wrap ((N : Int) + (q : Int) + 1) = (r : Int) := by rw [IntKind.wrap_i64]; omega
  go_upto_region 8 with (first
    | (go_at_call 20; refine K1.mono ?_; clear K1; rintro e w2 ⟨rfl, b2⟩; have Kn : Calls Tryz.prog 10 #[.int .i64 8, .int .i64 (r : Int)] w2 _ := s_new 8 r w2 (by omega) (by omega) (by have := hrA.out; omega) (by have := hrA.out; omega))
    | (go_at_call 10; refine Kn.mono ?_; clear Kn; rintro e w3 ⟨S, F0, rfl, s6, b3, f3⟩))
  have b13 := Rf.below_far b2 b3
  have TF6 := kept TF1 b13
  have TG6 := kept TG1 b13
  have TH6 := kept TH1 b13
  have Bw6 := Rf.below_far B1A.out b13
  have f5' : Aside (∀ i, F0 i → W.heap.size ≤ i) := fun i hi => Nat.le_trans (Nat.le_trans B1A.out.size b2.size) (f3 i hi)
  have nn0 : Aside ((Mdl.empty 8 r).n = 8) := rfl
  have rr0 : Aside ((Mdl.empty 8 r).room = r) := rfl
  have e0 : Aside (∀ X, ¬ Has (Mdl.empty 8 r) X) := fun X ⟨x, hx, _⟩ => by cases hx
  have sz0 : Aside (sizeN (Mdl.empty 8 r) (tri F G H) 3 = N) := hNA.out r
  generalize hM : Mdl.empty 8 r = M0 at s6 nn0 rr0 e0 sz0
  clear hM b13 b2 b3 f3 B1A TF1 TG1 TH1 p0 p1 p2 p3 q0 q1 q2 q3 r0 r1 r2 r3 hNA hr hw1 hw2
  have o0 := s6.ok
  have hNr : Aside (N ≤ r) := by have := hrA.out; show N ≤ r; omega
  have j0 := just_of (M := M0) (T := tri F G H) (L := 3) (A := F) o0 (fun i _ => dep8 o0 nn0.out _) (dep8 o0 nn0.out F) (fun X h => tri_prt.2 (h.elim (fun h => absurd h (e0.out X)) .inl)) (by rw [sz0.out, rr0.out]; exact hNr.out) 0
  have Km := make_any' Rm.just s6 (dep8 o0 nn0.out F) j0
  unfold tab at Km
  obtain ⟨c0, c1, c2, c3⟩ := TF6.copy
  clear j0
  go_upto_region 9 with (first
    | (go_at_call 13; refine Km.mono ?_; clear Km; rintro e w7 ⟨xa, M1, rfl, ⟨F7, s7, g7⟩, m1⟩))
  have TF7 : IsTab w7 bf F := (g7.block bf TF6.lt (s6.row TF6 (by decide))).trans TF6
  have TG7 : IsTab w7 bg G := (g7.block bg TG6.lt (s6.row TG6 (by decide))).trans TG6
  have TH7 : IsTab w7 bh H := (g7.block bh TH6.lt (s6.row TH6 (by decide))).trans TH6
  have Bw7 : Below W.heap.size W w7 := Wf.far Bw6 g7 Bw6.size f5'.out
  have a4 : Aside (∀ i, F7 i → W.heap.size ≤ i) := g7.after Bw6.size f5'.out
  have a2 : Aside (M1.n = 8) := m1.grew.n.trans nn0.out
  have a3 : Aside (M1.room = r) := m1.grew.room.trans rr0.out
  have o1 := s7.ok
  have h1 : Aside (∀ X, Has M1 X ↔ Prt M0 F X) := fun X => by
    rw [(m1.got o0 (Nat.zero_le _) (dep8 o0 nn0.out F)).has X]
    exact ⟨fun h => h.elim (fun h => absurd h (e0.out X)) id, .inr⟩
  have j1 := just_of (M := M1) (T := tri F G H) (L := 3) (A := G) o1 (fun i _ => dep8 o1 a2.out _) (dep8 o1 a2.out G) (fun X h => tri_prt.2 (by
    rcases h with h | h
    · exact .inl ((Prt.grew_iff m1.grew).2 ((h1.out X).1 h))
    · exact .inr (.inl h))) (by rw [sizeN_grew m1.grew, sz0.out, a3.out]; exact hNr.out) 0
  have Km := make_any' Rm.just s7 (dep8 o1 a2.out G) j1
  unfold tab at Km
  clear c0 c1 c2 c3 TF6 TG6 TH6 Bw6 g7 s6 j1 f5'
  obtain ⟨c0, c1, c2, c3⟩ := TG7.copy
  go_upto_region 10 with (first
    | (go_at_call 13; refine Km.mono ?_; clear Km; rintro e w8 ⟨xb, M2, rfl, ⟨F8, s8, g8⟩, m2⟩))
  have TF8 : IsTab w8 bf F := (g8.block bf TF7.lt (s7.row TF7 (by decide))).trans TF7
  have TG8 : IsTab w8 bg G := (g8.block bg TG7.lt (s7.row TG7 (by decide))).trans TG7
  have TH8 : IsTab w8 bh H := (g8.block bh TH7.lt (s7.row TH7 (by decide))).trans TH7
  have Bw8 : Below W.heap.size W w8 := Wf.far Bw7 g8 Bw7.size a4.out
  have b4 : Aside (∀ i, F8 i → W.heap.size ≤ i) := g8.after Bw7.size a4.out
  have b2 : Aside (M2.n = 8) := m2.grew.n.trans a2.out
  have b3 : Aside (M2.room = r) := m2.grew.room.trans a3.out
  have o2 := s8.ok
  have gr2 := m1.grew.trans m2.grew
  have h2 : Aside (∀ X, Has M2 X ↔ Prt M0 F X ∨ Prt M0 G X) := fun X => by
    rw [(m2.got o1 (Nat.zero_le _) (dep8 o1 a2.out G)).has X, h1.out X, Prt.grew_iff m1.grew]
  have j2 := just_of (M := M2) (T := tri F G H) (L := 3) (A := H) o2 (fun i _ => dep8 o2 b2.out _) (dep8 o2 b2.out H) (fun X h => tri_prt.2 (by
    rw [Prt.grew_iff gr2, Prt.grew_iff gr2, Prt.grew_iff gr2]
    rcases h with h | h
    · exact ((h2.out X).1 h).elim .inl fun h => .inr (.inl h)
    · exact .inr (.inr ((Prt.grew_iff gr2).1 h)))) (by rw [sizeN_grew gr2, sz0.out, b3.out]; exact hNr.out) 0
  have Km := make_any' Rm.just s8 (dep8 o2 b2.out H) j2
  unfold tab at Km
  clear c0 c1 c2 c3 TF7 TG7 TH7 Bw7 g8 s7 j2 a4
  obtain ⟨c0, c1, c2, c3⟩ := TH8.copy
  go_upto_region 11 with (first
    | (go_at_call 13; refine Km.mono ?_; clear Km; rintro e w9 ⟨xc, M3, rfl, ⟨F9, s9, g9⟩, m3⟩))
  have TF9 : IsTab w9 bf F := (g9.block bf TF8.lt (s8.row TF8 (by decide))).trans TF8
  have TG9 : IsTab w9 bg G := (g9.block bg TG8.lt (s8.row TG8 (by decide))).trans TG8
  have TH9 : IsTab w9 bh H := (g9.block bh TH8.lt (s8.row TH8 (by decide))).trans TH8
  have Bw9 : Below W.heap.size W w9 := Wf.far Bw8 g9 Bw8.size b4.out
  have f9' : Aside (∀ i, F9 i → W.heap.size ≤ i) := g9.after Bw8.size b4.out
  have o3 := s9.ok
  have d2 : Aside (M3.n = 8) := m3.grew.n.trans b2.out
  have d3 : Aside (M3.room = r) := m3.grew.room.trans b3.out
  have gr3 := gr2.trans m3.grew
  have len3 : M3.hs.length = N := by
    rw [← sz0.out, ← sizeN_grew gr3]
    refine size_len o3 (fun i _ => dep8 o3 d2.out _) fun X => ?_
    rw [tri_prt, Prt.grew_iff gr3, Prt.grew_iff gr3, Prt.grew_iff gr3, (m3.got o2 (Nat.zero_le _) (dep8 o2 b2.out H)).has X, h2.out X, Prt.grew_iff gr2]
    constructor
    · rintro ((h | h) | h)
      · exact .inl h
      · exact .inr (.inl h)
      · exact .inr (.inr h)
    · rintro (h | h | h)
      · exact .inl (.inl h)
      · exact .inl (.inr h)
      · exact .inr h
  have na : M3.isNode xa := m3.grew.isNode (m2.grew.isNode m1.node)
  have nb' : M3.isNode xb := m3.grew.isNode m2.node
  have ta : Eqt (M3.tbl xa) F := fun y hy => by rw [m3.grew.tbl o2 (m2.grew.isNode m1.node), m2.grew.tbl o1 m1.node]; exact m1.tbl y hy
  have tb : Eqt (M3.tbl xb) G := fun y hy => by rw [m3.grew.tbl o2 m2.node]; exact m2.tbl y hy
  obtain ⟨X, hX⟩ : ∃ X, resK k F G H = X := ⟨_, rfl⟩
  have dX : Aside (Dep M3 0 X) := dep8 o3 d2.out X
  have eX : Aside (Eqt (ans M3 (opK k) xa xb xc) X) := hX ▸ ans_res k ta tb m3.tbl
  have dA : Aside (Dep M3 0 (ans M3 (opK k) xa xb xc)) := dep8 o3 d2.out _
  have KR := result_any k5 F G H w9
  rw [hX] at KR
  have used : usedK M3 k xa xb xc := ⟨na, fun _ => nb', fun _ => m3.node⟩
  have naA : Aside (M3.isNode xa ∧ Eqt (M3.tbl xa) F) := ⟨na, ta⟩
  have nbA : Aside (M3.isNode xb ∧ Eqt (M3.tbl xb) G) := ⟨nb', tb⟩
  have ncA : Aside (M3.isNode xc ∧ Eqt (M3.tbl xc) H) := ⟨m3.node, m3.tbl⟩
  have KL := s_len s9
  rw [len3] at KL
  have lenA : Aside (M3.hs.length = N) := len3
  have bl : Aside (both M3 X ≤ (prts M3 X).length) := both_le o3 X
  have pl : Aside ((prts M3 X).length ≤ 512000) := prts_len M3 X
  have o3A : Aside M3.Ok := o3
  clear hX m1 m2 m3 na nb' ta tb TF8 TG8 TH8 Bw8 g9 s8 c0 c1 c2 c3 b2 b3 b4 a2 a3 o0 o1 o2 gr2 gr3 h1 h2 len3 o3 nn0 rr0 e0 sz0 hNr
  unfold tab at KR
  obtain ⟨p0, p1, p2, p3⟩ := TF9.copy
  obtain ⟨q0, q1, q2, q3⟩ := TG9.copy
  obtain ⟨r0, r1, r2, r3⟩ := TH9.copy
  go_upto_region 14 with (first
    | (go_at_call 14; refine KL.mono ?_; clear KL; rintro e w ⟨rfl, e⟩; subst w)
    | (go_at_call 16; refine KR.mono ?_; clear KR; rintro e w10 ⟨rfl, b10⟩))
  have bX := nb w10 (.cells #[.int .u64 (word X 0 : Int), .int .u64 (word X 1 : Int), .int .u64 (word X 2 : Int), .int .u64 (word X 3 : Int)] 24)
  have TX := IsTab.new w10 X
  have b911 := Rf.below_far b10 bX
  have TF11 := kept TF9 b911
  have TG11 := kept TG9 b911
  have TH11 := kept TH9 b911
  have s11 := s9.below b911
  have Bw11 := Rf.below_far Bw9 b911
  generalize w10.alloc (.cells #[.int .u64 (word X 0 : Int), .int .u64 (word X 1 : Int), .int .u64 (word X 2 : Int), .int .u64 (word X 3 : Int)] 24) = w11 at TX TF11 TG11 TH11 s11 Bw11 b911 ⊢
  generalize w10.heap.size = bx at TX ⊢
  have KFr := fresh_any (X := X) s11
  unfold tab at KFr
  obtain ⟨x0, x1, x2, x3⟩ := TX.copy
  clear p0 p1 p2 p3 q0 q1 q2 q3 r0 r1 r2 r3 TF9 TG9 TH9 s9 b10 bX b911 Bw9
  go_upto_region 15 with (first
    | (go_at_call 15; refine KFr.mono ?_; clear KFr; rintro e w12 ⟨rfl, b12⟩))
  have TF12 := kept TF11 b12
  have TG12 := kept TG11 b12
  have TH12 := kept TH11 b12
  have TX12 := kept TX b12
  have s12 := s11.below b12
  have Bw12 := Rf.below_far Bw11 b12
  obtain ⟨fr, hfr⟩ : ∃ fr : Nat, ((prts M3 X).length : Int) - (both M3 X : Int) = (fr : Int) := ⟨(prts M3 X).length - both M3 X, by have := bl.out; omega⟩
  have hfA : Aside ((prts M3 X).length - both M3 X = fr) := by show _ = _; omega
  have frl : fr ≤ 512000 := by have := pl.out; omega
  rw [hfr]
  have KC := call_any k5 s12 used
  have hw3 : IntKind.i64.wrap ((N : Int) + (fr : Int)) = (N : Int) + (fr : Int) := by rw [IntKind.wrap_i64]; omega
  clear x0 x1 x2 x3 TF11 TG11 TH11 TX s11 b12 Bw11 used hfr
  go_upto_region 16 with (first
    | (go_at_call 17; refine KC.mono ?_; clear KC; rintro e w13 ⟨x, er, M4, F13, rfl, t13, s13, b13⟩))
  have TF13 : IsTab w13 bf F := (b13.block bf TF12.lt (s12.row TF12 (by decide))).trans TF12
  have TG13 : IsTab w13 bg G := (b13.block bg TG12.lt (s12.row TG12 (by decide))).trans TG12
  have TH13 : IsTab w13 bh H := (b13.block bh TH12.lt (s12.row TH12 (by decide))).trans TH12
  have TX13 : IsTab w13 bx X := (b13.block bx TX12.lt (s12.row TX12 (by decide))).trans TX12
  have Bw13 : Aside (Below W.heap.size W w13) := Wf.far Bw12 b13 Bw12.size f9'.out
  have KRm := s_room s13
  have gr : Mdl.Grew M3 M4 := by rcases t13 with ⟨_, g⟩ | ⟨_, _, g⟩ <;> exact g.grew
  rw [gr.room, d3.out] at KRm
  have KI : Aside (∀ {u : World} {v : Nat} {Y : Nat → Bool}, St u S F13 M4 → (M3.isNode v ∧ Eqt (M3.tbl v) Y) → Calls Tryz.prog 18 #[.pointer (some ⟨S, 0, none⟩), .int .u32 (v : Int), tab Y] u fun e w' => e = .returned (.bool true) ∧ Below u.heap.size u w') := fun {u v Y} su h => by
    have := isf_any (G := Y) su (gr.isNode h.1)
    rwa [same_true fun y hy => by rw [gr.tbl o3A.out h.1]; exact h.2 y hy] at this
  clear gr s12 b13 TF12 TG12 TH12 TX12 Bw12
  rcases t13 with ⟨rfl, g13⟩ | ⟨rfl, rfl, g13⟩
  · have g13' := g13.like o3A.out dA.out eX.out
    have l4 := g13'.len o3A.out s13.ok dX.out
    rw [lenA.out, hfA.out] at l4
    have lr : ¬ (r : Int) < (N : Int) + (fr : Int) := by
      have := s13.ok.len
      rw [g13'.grew.room, d3.out] at this
      omega
    have KIx : Aside (∀ {u : World}, St u S F13 M4 → Calls Tryz.prog 18 #[.pointer (some ⟨S, 0, none⟩), .int .u32 (x : Int), tab X] u fun e w' => e = .returned (.bool true) ∧ Below u.heap.size u w') := fun {u} su => by
      have := isf_any (G := X) su g13'.node
      rwa [same_true g13'.tbl] at this
    have KL4 : Aside (∀ {u : World}, St u S F13 M4 → Calls Tryz.prog 14 #[.pointer (some ⟨S, 0, none⟩)] u fun e w' => e = .returned (.int .i64 ((N : Int) + (fr : Int))) ∧ w' = u) := fun {u} su => by
      have := s_len su
      rw [l4] at this
      rwa [show ((N + fr : Nat) : Int) = (N : Int) + (fr : Int) by omega] at this
    have K13 := KIx.out s13
    unfold tab at K13
    obtain ⟨x0, x1, x2, x3⟩ := TX13.copy
    clear l4 g13 g13' TF13 TG13 TH13
    go_wp2_with (first
      | (go_at_call 21; refine KRm.mono ?_; clear KRm; rintro e w ⟨rfl, e⟩; subst w)
      | (go_at_call 18; refine K13.mono ?_; clear K13; rintro e w14 ⟨rfl, b14⟩; have K14 := KL4.out (s13.below b14))
      | (go_at_call 14; refine K14.mono ?_; clear K14; rintro e w ⟨rfl, e⟩; subst w))
    go_ret
    exact ⟨rfl, Rf.below_far Bw13.out b14⟩
  · have l4 := g13.like o3A.out dA.out eX.out |>.len o3A.out s13.ok dX.out
    rw [lenA.out, hfA.out, d3.out] at l4
    have lr : (r : Int) < (N : Int) + (fr : Int) := by omega
    have K13 := KI.out s13 naA.out
    unfold tab at K13
    obtain ⟨x0, x1, x2, x3⟩ := TF13.copy
    clear l4 g13 TX13
    go_wp2_with (first
      | (go_at_call 21; refine KRm.mono ?_; clear KRm; rintro e w ⟨rfl, e⟩; subst w)
      | (go_at_call 18; refine K13.mono ?_; clear K13; rintro e w14 ⟨rfl, b14⟩; have s14 := s13.below b14; have TG14 := kept TG13 b14; have TH14 := kept TH13 b14; obtain ⟨y0, y1, y2, y3⟩ := TG14.copy; have K14 := KI.out s14 nbA.out; unfold tab at K14)
      | (go_at_call 18; refine K14.mono ?_; clear K14; rintro e w15 ⟨rfl, b15⟩; have s15 := s14.below b15; have TH15 := kept TH14 b15; obtain ⟨z0, z1, z2, z3⟩ := TH15.copy; have K15 := KI.out s15 ncA.out; unfold tab at K15)
      | (go_at_call 18; refine K15.mono ?_; clear K15; rintro e w16 ⟨rfl, b16⟩; have s16 := s15.below b16; have K16 := once_any s16)
      | (go_at_call 19; refine K16.mono ?_; clear K16; rintro e w17 ⟨rfl, b17⟩))
    go_ret
    exact ⟨rfl, Rf.below_far (Rf.below_far (Rf.below_far (Rf.below_far Bw13.out b14) b15) b16) b17⟩
end Go.Proofs.YthadeopmnedccaaGreat
