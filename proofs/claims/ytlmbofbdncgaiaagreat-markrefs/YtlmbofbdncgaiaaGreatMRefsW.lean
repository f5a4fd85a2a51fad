/-
  MarkRefs, walked.
-/
import Derived.Test.YtlmbofbdncgaiaaGreatMkM
namespace Go.Proofs.YtlmbofbdncgaiaaGreat.Mk
open Go Go.RowKit
open Rf (tab word IsTab)

def pA (a : Nat) : Int → Option Int := Rs.at1 (fun _ => none) (a : Int) (some (0 + 1))
def tB (b : Nat) : Nat → List Int := Rs.up (fun _ => []) 1 ([] ++ [(b : Int)])
def tC (b : Nat) : Nat → List Int := Rs.up (tB b) 1 []
theorem held_ab {a b : Nat} {x : Int} : Held (pA a) 2 (tB b) x ↔ x = (a : Int) ∨ x = (b : Int) := by
  unfold Held pA tB Rs.at1 Rs.up
  constructor
  · rintro (h | ⟨k, _, h⟩)
    · by_cases e : x = (a : Int)
      · exact .inl e
      · rw [if_neg e] at h; cases h
    · by_cases e : k = 1
      · rw [if_pos e] at h; simp at h; exact .inr h
      · rw [if_neg e] at h; cases h
  · rintro (rfl | rfl)
    · exact .inl (by simp)
    · exact .inr ⟨1, by omega, by simp⟩
theorem held_a {a b : Nat} {x : Int} : Held (pA a) 2 (tC b) x ↔ x = (a : Int) := by
  unfold Held pA tC tB Rs.at1 Rs.up
  constructor
  · rintro (h | ⟨k, _, h⟩)
    · by_cases e : x = (a : Int)
      · exact e
      · rw [if_neg e] at h; cases h
    · by_cases e : k = 1
      · rw [if_pos e] at h; cases h
      · rw [if_neg e, if_neg e] at h; cases h
  · rintro rfl
    exact .inl (by simp)
section
variable {M : Mdl} {a b k : Nat} {H : Nat → Nat} {xs ys : List Nat}
/-- The roots are these two, but for the constants. -/
theorem rt_in {P : Nat → Prop} {x : Nat} (q : ∀ y : Nat, 2 ≤ y → ((∃ i, i < k ∧ H i = y) ↔ P y)) (hx : P x) (r : Rch M H k xs) : (only M xs).isNode x := by
  by_cases c : x < 2
  · exact .inl c
  · obtain ⟨i, hi, e⟩ := (q x (by omega)).2 hx
    have := r.top i hi
    rw [e] at this
    exact this
theorem rt_two (q : ∀ y : Nat, 2 ≤ y → ((∃ i, i < k ∧ H i = y) ↔ Held (pA a) 2 (tB b) (y : Int))) (q2 : ∀ i, i < k → 2 ≤ H i) : ∀ i, i < k → H i < 2 ∨ ∃ i', i' < 2 ∧ at2 a b i' = H i := fun i hi => by
  rcases held_ab.1 ((q (H i) (q2 i hi)).1 ⟨i, hi, rfl⟩) with e | e
  · exact .inr ⟨0, by omega, by show a = _; omega⟩
  · exact .inr ⟨1, by omega, by show b = _; omega⟩
theorem rt_one (q : ∀ y : Nat, 2 ≤ y → ((∃ i, i < k ∧ H i = y) ↔ Held (pA a) 2 (tC b) (y : Int))) (q2 : ∀ i, i < k → 2 ≤ H i) : ∀ i, i < k → H i < 2 ∨ ∃ i', i' < 1 ∧ (fun _ : Nat => a) i' = H i := fun i hi => by
  have e := held_a.1 ((q (H i) (q2 i hi)).1 ⟨i, hi, rfl⟩)
  exact .inr ⟨0, by omega, by show a = _; omega⟩
end
set_option maxRecDepth 100000 in
set_option maxHeartbeats 4000000 in
theorem refs_walk (F G H : Nat → Bool) (W : World) :
    Calls Tryz.prog 7 #[tab F, tab G, tab H] W fun e w' => e = .returned (.bool true) ∧ Below W.heap.size W w' := by
  conv in #[tab F, tab G, tab H] => unfold tab
  go_enter Tryz.func7, Tryz.ntmps7
  go_upto_region 1 with fail
  obtain ⟨TF, TG, TH, B3⟩ := boxes3 W F G H
  unfold fo at TF TG TH B3
  generalize ((W.alloc (.cells #[.int .u64 (word F 0 : Int), .int .u64 (word F 1 : Int), .int .u64 (word F 2 : Int), .int .u64 (word F 3 : Int)] 24)).alloc (.cells #[.int .u64 (word G 0 : Int), .int .u64 (word G 1 : Int), .int .u64 (word G 2 : Int), .int .u64 (word G 3 : Int)] 24)).alloc (.cells #[.int .u64 (word H 0 : Int), .int .u64 (word H 1 : Int), .int .u64 (word H 2 : Int), .int .u64 (word H 3 : Int)] 24) = w3 at TF TG TH B3 ⊢
  have B3A : Aside (Below W.heap.size W w3) := B3
  clear B3
  generalize W.heap.size + 1 + 1 = bh at TH ⊢
  generalize W.heap.size + 1 = bg at TG ⊢
  generalize hbf : W.heap.size = bf at TF ⊢
  clear hbf
  have Kk := known_any w3
  go_upto_region 3 with (first
    | (go_at_call 8; refine Kk.mono ?_; clear Kk; rintro e w4 ⟨rfl, b4⟩))
  have B4A : Aside (Below w3.heap.size w3 w4) := b4
  have tF : Aside (∀ u, Below w3.heap.size w3 u → IsTab u bf F) := fun u k => kept TF k
  have tG : Aside (∀ u, Below w3.heap.size w3 u → IsTab u bg G) := fun u k => kept TG k
  have tH : Aside (∀ u, Below w3.heap.size w3 u → IsTab u bh H) := fun u k => kept TH k
  clear TF TG TH b4
  have Kn : Calls Tryz.prog 9 #[.int .i64 8, .int .i64 400] w4 _ := new_x w3 w4 8 400 (by omega) (by omega) (by omega) (by omega) B4A.out
  go_upto_region 6 with (first
    | (go_at_call 9; refine Kn.mono ?_; clear Kn; rintro e w5 ⟨S, rfl, f5, x5, b5⟩))
  have K1 := make_x x5 (by omega) F
  obtain ⟨y0, y1, y2, y3⟩ := (tF.out w5 x5.base).copy
  clear B4A b5 f5 x5
  unfold tab at K1
  go_upto_region 7 with (first
    | (go_at_call 11; refine K1.mono ?_; clear K1; rintro e w6 ⟨a, rfl, x6, u6⟩))
  have K2 := make_x x6 (by omega) G
  clear y0 y1 y2 y3 u6
  obtain ⟨y0, y1, y2, y3⟩ := (tG.out w6 x6.base).copy
  clear x6
  unfold tab at K2
  go_upto_region 8 with (first
    | (go_at_call 11; refine K2.mono ?_; clear K2; rintro e w7 ⟨b, rfl, x7, u7⟩))
  have K3 := make_x x7 (by omega) H
  clear y0 y1 y2 y3 u7
  obtain ⟨y0, y1, y2, y3⟩ := (tH.out w7 x7.base).copy
  clear x7
  unfold tab at K3
  go_upto_region 9 with (first
    | (go_at_call 11; refine K3.mono ?_; clear K3; rintro e w8 ⟨c, rfl, x8, u8⟩))
  obtain ⟨Fs, M, s8, n8, r8, up8, ⟨na, ea⟩, ⟨nb', eb⟩, ⟨nc, _⟩, B8, f8⟩ := St3.of x8
  clear y0 y1 y2 y3 u8 x8 up8 tH n8
  have hc32 := lt32 s8.ok nc
  have oA : Aside M.Ok := s8.ok
  have naA : Aside (M.isNode a ∧ Eqt (M.tbl a) F) := ⟨na, ea⟩
  have nbA : Aside (M.isNode b ∧ Eqt (M.tbl b) G) := ⟨nb', eb⟩
  have hlen : Aside (M.hs.length ≤ 400) := by have := s8.ok.len; show _ ≤ _; omega
  clear na nb' nc ea eb r8
  have K4 : Calls Tryz.prog 10 #[.int .i64 2] w8 _ := Rfs.start s8 B8 f8 2 (by omega)
  clear s8 B8 f8
  go_upto_region 10 with (first
    | (go_at_call 10; refine K4.mono ?_; clear K4; rintro e w9 ⟨R, rfl, x9⟩))
  have K5 := x9.protect (a : Int) 0 rfl (by omega) (by omega)
  clear x9
  go_upto_region 11 with (first
    | (go_at_call 12; refine K5.mono ?_; clear K5; rintro e w10 ⟨rfl, x10⟩))
  have K6 : Calls Tryz.prog 27 #[.pointer (some ⟨R, 0, none⟩), .int .i64 1, .int .u32 (b : Int)] w10 _ := x10.push 1 (by omega) (b : Int) (by decide)
  clear x10
  go_upto_region 12 with (first
    | (go_at_call 27; refine K6.mono ?_; clear K6; rintro e w11 ⟨rfl, x11⟩))
  have x11 : Rfs w3 w11 S R 1 2 M (pA a) (tB b) := x11
  have K7 := x11.sweep (by simp [Rs.cat, tB, Rs.up, List.range_succ]) (fun x hx => by
    rcases held_ab.1 hx with e | e
    · exact ⟨a, e, naA.out.1⟩
    · exact ⟨b, e, nbA.out.1⟩)
  clear x11
  go_upto_region 13 with (first
    | (go_at_call 18; refine K7.mono ?_; clear K7; rintro e w12 ⟨xs, k1, H1, rfl, q1, q2, r1, u1, x12⟩; have rA : Aside ((∀ y : Nat, 2 ≤ y → ((∃ i, i < k1 ∧ H1 i = y) ↔ Held (pA a) 2 (tB b) (y : Int))) ∧ (∀ i, i < k1 → 2 ≤ H1 i) ∧ Rch M H1 k1 xs ∧ xs.Pairwise (· < ·)) := ⟨q1, q2, r1, u1⟩; clear q1 q2 r1 u1))
  have na1 : (only M xs).isNode a := rt_in (P := fun y => Held (pA a) 2 (tB b) (y : Int)) rA.out.1 (held_ab.2 (.inl rfl)) rA.out.2.2.1
  have nb1 : (only M xs).isNode b := rt_in (P := fun y => Held (pA a) 2 (tB b) (y : Int)) rA.out.1 (held_ab.2 (.inr rfl)) rA.out.2.2.1
  have naA1 : Aside ((only M xs).isNode a ∧ Eqt ((only M xs).tbl a) F) := ⟨na1, only_tbl rA.out.2.2.1 x12.ok na1 naA.out.2⟩
  have nbA1 : Aside ((only M xs).isNode b ∧ Eqt ((only M xs).tbl b) G) := ⟨nb1, only_tbl rA.out.2.2.1 x12.ok nb1 nbA.out.2⟩
  clear na1 nb1 naA nbA
  have K8 := x12.isf naA1.out.1 naA1.out.2
  obtain ⟨y0, y1, y2, y3⟩ := (tF.out w12 x12.base).copy
  clear x12
  unfold tab at K8
  go_upto_region 14 with (first
    | (go_at_call 23; refine K8.mono ?_; clear K8 y0 y1 y2 y3; rintro e w13 ⟨rfl, x13, _⟩; have K9 := x13.isf nbA1.out.1 nbA1.out.2; obtain ⟨y0, y1, y2, y3⟩ := (tG.out w13 x13.base).copy; clear x13; unfold tab at K9)
    | (go_at_call 23; refine K9.mono ?_; clear K9 y0 y1 y2 y3; rintro e w14 ⟨rfl, x14, _⟩))
  have x15 := x14.below (nb w14 (.cells #[.int .u32 (a : Int), .int .u32 (b : Int)] 32))
  have K10 := x15.reach (cap := 2) (hs_two w14 a b) (at2_yes (P := fun x => (only M xs).isNode x) naA1.out.1 nbA1.out.1) (by omega)
  have lxs : Aside (xs.length ≤ 400) := by have := nodup_lenN xs M.hs rA.out.2.2.1.once rA.out.2.2.1.inn; have := hlen.out; show _ ≤ _; omega
  clear x14 x15 tG hlen
  go_upto_region 15 with (first
    | (go_at_call 14; refine K10.mono ?_; clear K10; rintro e w16 ⟨ad2, cap2, ys, rfl, r2, u2, l2, x16⟩; obtain rfl : ys = xs := Rch.again oA.out rA.out.2.2.1 rA.out.2.2.2 r2 u2 (rt_two rA.out.1 rA.out.2.1); clear r2 u2 l2))
  have KL := x16.len
  have oA1 : Aside (only M ys).Ok := x16.ok
  rw [show (only M ys).hs.length = ys.length from rfl] at KL
  clear rA nbA1 oA
  generalize only M ys = M1 at KL x16 naA1 oA1
  have lm : Aside (∀ xs : List Nat, (∀ x ∈ xs, x ∈ M1.hs) → xs.Nodup → xs.length ≤ 1000000) := fun xs h n => by
    have := nodup_lenN xs M1.hs n h
    have := oA1.out.len
    obtain ⟨F, s⟩ := x16.st
    have := s.room
    omega
  generalize ys.length = lx at KL
  go_upto_region 17 with (first
    | (go_at_call 13; refine KL.mono ?_; clear KL; rintro e w ⟨rfl, q, rfl⟩))
  have x17 := x16.drewN q
  have K11 : Calls Tryz.prog 28 #[.pointer (some ⟨R, 0, none⟩), .int .i64 1] (w16.drewN q) _ := x17.pop 1 (by omega) [] (b : Int) (by simp [tB, Rs.up]) (by simp [tB, Rs.up])
  clear x16 x17
  go_upto_region 18 with (first
    | (go_at_call 28; refine K11.mono ?_; clear K11; rintro e w18 ⟨rfl, x18⟩))
  have x18 : Rfs w3 w18 S R 1 2 M1 (pA a) (tC b) := x18
  have K12 := x18.sweep (by simp [Rs.cat, tC, tB, Rs.up, List.range_succ]) (fun x hx => ⟨a, held_a.1 hx, naA1.out.1⟩)
  clear x18
  go_upto_region 19 with (first
    | (go_at_call 18; refine K12.mono ?_; clear K12; rintro e w19 ⟨zs, k2, H2, rfl, q1, q2, r1, u1, x19⟩; have rA : Aside ((∀ y : Nat, 2 ≤ y → ((∃ i, i < k2 ∧ H2 i = y) ↔ Held (pA a) 2 (tC b) (y : Int))) ∧ (∀ i, i < k2 → 2 ≤ H2 i) ∧ Rch M1 H2 k2 zs ∧ zs.Pairwise (· < ·)) := ⟨q1, q2, r1, u1⟩; clear q1 q2 r1 u1))
  have na2 : (only M1 zs).isNode a := rt_in (P := fun y => Held (pA a) 2 (tC b) (y : Int)) rA.out.1 (held_a.2 rfl) rA.out.2.2.1
  have naA2 : Aside ((only M1 zs).isNode a ∧ Eqt ((only M1 zs).tbl a) F) := ⟨na2, only_tbl rA.out.2.2.1 x19.ok na2 naA1.out.2⟩
  clear naA1
  have x20 := x19.below (nb w19 (.cells #[.int .u32 (a : Int)] 32))
  have K13 := x20.reach (cap := 1) (hs_one w19 a) (fun _ _ => na2) (by omega)
  clear x19 x20 na2
  go_upto_region 20 with (first
    | (go_at_call 14; refine K13.mono ?_; clear K13; rintro e w21 ⟨ad3, cap3, us, rfl, r3, u3, l3, x21⟩; obtain rfl : us = zs := Rch.again oA1.out rA.out.2.2.1 rA.out.2.2.2 r3 u3 (rt_one rA.out.1 rA.out.2.1); have hus := lm.out us rA.out.2.2.1.inn rA.out.2.2.1.once; clear r3 u3))
  clear rA lm oA1
  have KL := x21.len
  rw [show (only M1 us).hs.length = us.length from rfl] at KL
  have KF : Aside (∀ q, ∃ _ : True, Calls Tryz.prog 23 #[.pointer (some ⟨S, 0, none⟩), .int .u32 (a : Int), tab F] (w21.drewN q) fun e w' => e = .returned (.bool true) ∧ Rfs w3 w' S R 1 2 (only M1 us) (pA a) (tC b) ∧ Below (w21.drewN q).heap.size (w21.drewN q) w') := fun q => ⟨trivial, (x21.drewN q).isf naA2.out.1 naA2.out.2⟩
  have lA : Aside (∀ q, HsAt (w21.drewN q) ad3 us.length (fun i => us.getD i 0)) := fun q => HsAt.drewN l3 q
  have y : Aside (∀ q, IsTab (w21.drewN q) bf F) := fun q => tF.out _ (x21.drewN q).base
  clear l3 x21 naA2 tF
  have fin : Aside (∀ u, Rfs w3 u S R 1 2 (only M1 us) (pA a) (tC b) → Below W.heap.size W u) := fun u h => Rf.below_far B3A.out h.base
  by_cases c2 : c < 2
  · have hc1 : (c : Int) ≤ 1 := by omega
    clear lA hus hc32 c2
    go_wp2_with (first
      | (go_at_call 13; refine KL.mono ?_; clear KL; rintro e w ⟨rfl, q2, rfl⟩; obtain ⟨_, KF⟩ := KF.out q2; obtain ⟨y0, y1, y2, y3⟩ := (y.out q2).copy; clear y; unfold tab at KF)
      | (go_at_call 23; refine KF.mono ?_; clear KF y0 y1 y2 y3; rintro e w22 ⟨rfl, x22, b22⟩))
    go_ret
    exact ⟨rfl, fin.out _ x22⟩
  · have hc1 : ¬ (c : Int) ≤ 1 := by omega
    have hnb : (only M1 us).nodeB c = decide (c ∈ us) := by
      by_cases m : c ∈ us
      · rw [Mdl.nodeB_true (.inr m), decide_eq_true m]
      · rw [Mdl.nodeB_false (fun h => h.elim c2 m), decide_eq_false m]
    have hnbA : Aside ((only M1 us).nodeB c = decide (c ∈ us)) := hnb
    have KN : Aside (∀ u, HsAt u ad3 us.length (fun i => us.getD i 0) → Calls Tryz.prog 29 #[.slice ad3 us.length cap3, .int .u32 (c : Int)] u fun e w' => e = .returned (.bool (decide (c ∈ us))) ∧ w' = u) := fun u h => in_any h hus c
    have hcA : Aside (c < 4294967296) := hc32
    clear c2 hnb hus hc32
    go_wp2_with (first
      | (go_at_call 13; refine KL.mono ?_; clear KL; rintro e w ⟨rfl, q2, rfl⟩; obtain ⟨_, KF⟩ := KF.out q2; obtain ⟨y0, y1, y2, y3⟩ := (y.out q2).copy; have l := lA.out q2; clear y lA; unfold tab at KF)
      | (go_at_call 23; refine KF.mono ?_; clear KF y0 y1 y2 y3; rintro e w22 ⟨rfl, x22, b22⟩; have KI := x22.is c hcA.out; rw [hnbA.out] at KI; have KN := KN.out w22 (l.kept b22); clear l b22)
      | (go_at_call 24; refine KI.mono ?_; clear KI; rintro e w ⟨rfl, e⟩; subst w)
      | (go_at_call 29; refine KN.mono ?_; clear KN; rintro e w ⟨rfl, e⟩; subst w))
    go_ret
    exact ⟨rfl, fin.out _ x22⟩
end Go.Proofs.YtlmbofbdncgaiaaGreat.Mk
