/-
 SiftFull, walked.
-/
import Derived.Test.YtnnmdkaoiofabaaGreatSfV
import Derived.Deep.CutRange
namespace Go.Proofs.YtnnmdkaoiofabaaGreat.Sf
open Go Go.RowKit
open Rf (tab word same IsTab)
open Sw (tab_kept)
open Mk (HsAt at2)
theorem drewN_below (w : World) (q : Nat) : Below w.heap.size w (w.drewN q) := ⟨rfl, rfl, rfl, Nat.le_refl _, fun _ _ => rfl⟩
set_option maxRecDepth 100000 in
set_option maxHeartbeats 8000000 in
theorem full_walk (F G : Nat → Bool) (z y : Int) (W : World) (z0 : 0 ≤ z) (y0 : 0 ≤ y) (y1 : y ≤ 4294967295) :
  Calls Tryz.prog 4 #[tab F, tab G, .int .u16 z, .int .u32 y] W fun e w' => e = .returned (.bool true) ∧ Below W.heap.size W w' := by
 obtain ⟨k, hk⟩ : ∃ k : Nat, Int.tmod z 300 = (k : Int) := ⟨(z % 300).toNat, by rw [Int.tmod_eq_emod_of_nonneg z0]; omega⟩
 have k300 : k < 300 := by have := Int.tmod_lt_of_pos z (show (0 : Int) < 300 by omega); omega
 have wk1 : IntKind.u16.wrap (k : Int) = (k : Int) := by rw [IntKind.wrap_u16]; omega
 have wk2 : IntKind.i64.wrap (k : Int) = (k : Int) := by rw [IntKind.wrap_i64]; omega
 have wk3 : IntKind.i64.wrap (160 + (k : Int)) = ((160 + k : Nat) : Int) := by rw [IntKind.wrap_i64]; omega
 obtain ⟨x, rfl⟩ : ∃ x : Nat, y = (x : Int) := ⟨y.toNat, by omega⟩
 have x32 : x < 4294967296 := by omega
 clear z0 y0 y1
 conv in #[tab F, tab G, Value.int .u16 z, Value.int .u32 (x : Int)] => unfold tab
 go_enter Tryz.func4, Tryz.ntmps4
 go_upto_region 1 with fail
 obtain ⟨TF, TG, B1⟩ := boxes2' W F G
 unfold fo2 at TF TG B1
 generalize (W.alloc (.cells #[.int .u64 (word F 0 : Int), .int .u64 (word F 1 : Int), .int .u64 (word F 2 : Int), .int .u64 (word F 3 : Int)] 24)).alloc (.cells #[.int .u64 (word G 0 : Int), .int .u64 (word G 1 : Int), .int .u64 (word G 2 : Int), .int .u64 (word G 3 : Int)] 24) = w1 at TF TG B1 ⊢
 have B1A : Aside (Below W.heap.size W w1) := B1
 generalize hbg : W.heap.size + 1 = bg at TG ⊢
 generalize hbf : W.heap.size = bf at TF ⊢
 clear B1 hbg hbf
 have Kk := known_any w1
 go_upto_region 3 with (first
  | (go_at_call 8; refine Kk.mono ?_; clear Kk; rintro e w2 ⟨rfl, b2⟩))
 have B2 : Below W.heap.size W w2 := Rf.below_far B1A.out b2
 have TF2 := TF.kept b2
 have TG2 := TG.kept b2
 clear TF TG b2 B1A
 have K1 : Calls Tryz.prog 9 #[.int .i64 8, .int .i64 ((160 + k : Nat) : Int)] w2 _ := new_y W w2 8 (160 + k) (by omega) (by omega) (by omega) (by omega) B2
 go_upto_region 6 with (first
  | (go_at_call 9; refine K1.mono ?_; clear K1; rintro e w3 ⟨S, rfl, s3, b3⟩))
 have TF3 := TF2.kept b3
 have TG3 := TG2.kept b3
 clear TF2 TG2 b3 B2
 have K2 := make_y s3 (by omega) F
 unfold tab at K2
 obtain ⟨c0, c1, c2, c3⟩ := TF3.copy
 clear s3
 go_upto_region 7 with (first
  | (go_at_call 11; refine K2.mono ?_; clear K2; rintro e w4 ⟨a, rfl, s4, o4⟩))
 have TF4 := out_tab o4 TF3
 have TG4 := out_tab o4 TG3
 clear c0 c1 c2 c3 TF3 TG3 o4
 have K3 := make_y s4 (by omega) G
 unfold tab at K3
 obtain ⟨c0, c1, c2, c3⟩ := TG4.copy
 clear s4
 go_upto_region 8 with (first
  | (go_at_call 11; refine K3.mono ?_; clear K3; rintro e w5 ⟨b, rfl, s5, o5⟩))
 have TF5 := out_tab o5 TF4
 have TG5 := out_tab o5 TG4
 clear c0 c1 c2 c3 TF4 TG4 o5
 obtain ⟨F5, M5, s5, n5, r5, v5, _, k5, B5, f5⟩ := s5
 have q5A : Aside (Tq W w5 S F G a b bf bg F5 M5) := ⟨s5, k5 (a, F) (by simp), k5 (b, G) (by simp), B5, f5, TF5, TG5⟩
 have m5A : Aside (M5.n = 8 ∧ M5.room = 160 + k ∧ M5.v = Od.idn 8) := ⟨n5, r5, v5⟩
 clear s5 n5 r5 v5 k5 B5 f5 TF5 TG5
 have K4 := s_len q5A.out.st
 go_upto_region 10 with (first
  | (go_at_call 22; refine K4.mono ?_; clear K4; rintro e w7 ⟨rfl, q7, e7⟩; have q7A : Aside (Tq W w7 S F G a b bf bg F5 M5) := q5A.out.below (by rw [e7]; exact drewN_below _ _); clear e7))
 clear q5A
 clear hk wk1 wk2 wk3
 have KIs := s_is q7A.out.st x x32
 obtain ⟨nB, hnB⟩ : ∃ nB, M5.nodeB x = nB := ⟨_, rfl⟩
 have nbA : Aside (M5.nodeB x = nB) := hnB
 rw [hnB] at KIs
 clear hnB
 go_upto_if 57 with (first
  | (go_at_call 25; refine KIs.mono ?_; clear KIs; rintro e w8 ⟨rfl, e8⟩; subst w8))
 go_cut [8] from 17 to 93 (fun s8 wc => s8 = .bool false ∧ Aside (Tq W wc S F G a b bf bg F5 M5))
 case first =>
  by_cases nx : M5.isNode x
  ·obtain rfl : nB = true := by rw [← nbA.out]; exact Mdl.nodeB_true nx
   clear nx
   go_wp2_with fail
   go_meet
   case rel => exact ⟨rfl, q7A⟩
  ·obtain rfl : nB = false := by rw [← nbA.out]; exact Mdl.nodeB_false nx
   have KS1 := sift_no (cap := 2) (q7A.out.st.new (.cells #[.int .u32 (a : Int), .int .u32 (x : Int)] 36)) (Mk.hs_two w7 a x) (fun i hi => by
    have : i = 0 ∨ i = 1 := by omega
    rcases this with rfl | rfl
    ·exact lt32 q7A.out.st.ok q7A.out.na.1
    ·exact x32) (by omega) ⟨1, by omega, nx⟩
   go_upto_region 12 with (first
    | (go_at_call 18; refine KS1.mono ?_; clear KS1; rintro e w9 ⟨rfl, b9⟩))
   have q9A : Aside (Tq W w9 S F G a b bf bg F5 M5) := (q7A.out.below (nb w7 _)).below b9
   clear q7A b9
   have KS2 := plan_no (cap := 1) (q9A.out.st.new (.cells #[.int .u32 (x : Int)] 36)) (Mk.hs_one w9 x) (fun i _ => x32) (by omega) ⟨0, by omega, nx⟩
   clear nx
   go_upto_region 13 with (first
    | (go_at_call 16; refine KS2.mono ?_; clear KS2; rintro e w10 ⟨rfl, b10⟩))
   have q10A : Aside (Tq W w10 S F G a b bf bg F5 M5) := (q9A.out.below (nb w9 _)).below b10
   clear q9A b10
   have K5 := s_len q10A.out.st
   go_wp2_with (first
    | (go_at_call 22; refine K5.mono ?_; clear K5; rintro e w11 ⟨rfl, q11, e11⟩; have q8A : Aside (Tq W w11 S F G a b bf bg F5 M5) := q10A.out.below (by rw [e11]; exact drewN_below _ _); clear e11))
   go_meet
   case rel => exact ⟨rfl, q8A⟩
 case rest =>
  clear q7A
  obtain ⟨rfl, q8A⟩ := hcut
  go_upto_region 16 with fail
  have qrA : Aside (Tq W (wc.alloc (.cells #[.int .u32 (a : Int), .int .u32 (b : Int)] 36)) S F G a b bf bg F5 M5) := q8A.out.below (nb wc _)
  have plA : Aside (Pl (wc.alloc (.cells #[.int .u32 (a : Int), .int .u32 (b : Int)] 36)) F5 (some ⟨wc.heap.size, 0, none⟩) 2 (at2 a b)) := q8A.out.pl
  have rtA : Aside (∀ i, i < 2 → M5.isNode (at2 a b i)) := q8A.out.roots
  clear q8A
  generalize (wc.alloc (.cells #[.int .u32 (a : Int), .int .u32 (b : Int)] 36)) = w12 at qrA plA ⊢
  generalize wc.heap.size = g at plA ⊢
  rcases unl_cases (at2 a b) 2 M5.room with fit | big
  ·have K6 := sift_ok (cap := 2) qrA.out.st plA.out rtA.out (by omega) fit
   go_upto_region 17 with (first
    | (go_at_call 18; refine K6.mono ?_; clear K6; rintro e w13 ⟨zs, xs, ks, F13, M13, sp⟩; have told := sp.told; subst told))
   have q13A : Aside (Tq W w13 S F G a b bf bg F13 M13) := qrA.out.wf sp.wf sp.st (like_tbl (sp.root (i := 0) (by omega)) qrA.out.na.2) (like_tbl (sp.root (i := 1) (by omega)) qrA.out.nb.2)
   have p13A : Aside (Pl w13 F13 (some ⟨g, 0, none⟩) 2 (at2 a b)) := plA.out.wf sp.wf
   have le := sfI_le (n := M5.n) (by have := m5A.out.1; omega) (fun v => szN M5.n v (fun i => M5.tbl (rtH zs i)) zs.length) M5.v xs M5.n
   have rm13 : M13.room = M5.room := sp.rts.room
   clear sp
   generalize szN M5.n M5.v (fun i => M5.tbl (rtH zs i)) zs.length = s0 at le ⊢
   generalize szN M5.n (sfI M5.n (fun v => szN M5.n v (fun i => M5.tbl (rtH zs i)) zs.length) M5.v xs M5.n) (fun i => M5.tbl (rtH zs i)) zs.length = s1 at le ⊢
   have le' : (s1 : Int) ≤ (s0 : Int) := by omega
   have KR := room_any (cap := 2) p13A.out.at_ (fun i hi => lt32 q13A.out.st.ok (q13A.out.roots i hi)) (by omega)
   clear le plA qrA rtA p13A x32 k300 m5A
   go_wp2_with (first
    | (go_at_call 26; refine KR.mono ?_; clear KR; rintro e w14 ⟨zs', rfl, u', _, b14⟩; have q14A : Aside (Tq W w14 S F G a b bf bg F13 M13) := q13A.out.below b14; have K7 := s_room q14A.out.st; rw [rm13] at K7; have hng : ¬ (M5.room : Int) < ((200 * max zs'.length 1 : Nat) : Int) := (by have := fit zs' u'; omega); clear b14 u')
    | (go_at_call 27; refine K7.mono ?_; clear K7; rintro e w15 ⟨rfl, e15⟩; subst w15; have K8 := q14A.out.isA; unfold tab at K8; obtain ⟨d0, d1, d2, d3⟩ := q14A.out.tf.copy)
    | (go_at_call 23; refine K8.mono ?_; clear K8; rintro e w16 ⟨rfl, b16⟩; have q16A : Aside (Tq W w16 S F G a b bf bg F13 M13) := q14A.out.below b16; clear b16; have K9 := q16A.out.isB; unfold tab at K9; obtain ⟨e0, e1, e2, e3⟩ := q16A.out.tg.copy)
    | (go_at_call 23; refine K9.mono ?_; clear K9; rintro e w17 ⟨rfl, b17⟩))
   go_ret
   exact ⟨rfl, Rf.below_far q16A.out.base b17⟩
  ·have K6 := sift_full (cap := 2) qrA.out.st plA.out rtA.out (by omega) big
   go_upto_region 17 with (first
    | (go_at_call 18; refine K6.mono ?_; clear K6; rintro e w13 ⟨rfl, xs, F13, rc, up, s13, g13⟩))
   have q13A : Aside (Tq W w13 S F G a b bf bg F13 (Mk.only M5 xs)) := qrA.out.wf g13 s13 (like_tbl (only_like s13.ok rc (i := 0) (by omega)) qrA.out.na.2) (like_tbl (only_like s13.ok rc (i := 1) (by omega)) qrA.out.nb.2)
   have p13A : Aside (Pl w13 F13 (some ⟨g, 0, none⟩) 2 (at2 a b)) := plA.out.wf g13
   have agA : Aside (∀ ys, Mk.Rch (Mk.only M5 xs) (at2 a b) 2 ys → ys.Pairwise (· < ·) → ys = xs) := fun ys r u => rc.again qrA.out.st.ok up r u fun i hi => .inr ⟨i, hi, rfl⟩
   clear rc up s13 g13
   have KR := room_any (cap := 2) p13A.out.at_ (fun i hi => lt32 q13A.out.st.ok (q13A.out.roots i hi)) (by omega)
   clear plA qrA rtA x32 k300
   go_upto_region 18 with (first
    | (go_at_call 26; refine KR.mono ?_; clear KR; rintro e w14 ⟨zs', rfl, u', _, b14⟩; have q14A : Aside (Tq W w14 S F G a b bf bg F13 (Mk.only M5 xs)) := q13A.out.below b14; have p14A : Aside (Pl w14 F13 (some ⟨g, 0, none⟩) 2 (at2 a b)) := p13A.out.below b14; have K7 := s_room q14A.out.st; rw [show (Mk.only M5 xs).room = M5.room from rfl] at K7; have hng : (M5.room : Int) < ((200 * max zs'.length 1 : Nat) : Int) := (by have := big zs' u'; omega); clear b14 u')
    | (go_at_call 27; refine K7.mono ?_; clear K7; rintro e w15 ⟨rfl, e15⟩; subst w15))
   clear hng q13A p13A
   have K8 := Mk.reach_yes (cap := 2) q14A.out.st p14A.out.at_ q14A.out.roots (by omega)
   go_upto_region 19 with (first
    | (go_at_call 28; refine K8.mono ?_; clear K8; rintro e w16 ⟨ad16, cap16, ys, rfl, r16, u16, _, b16⟩))
   have eys := agA.out ys r16 u16
   subst eys
   have q16A : Aside (Tq W w16 S F G a b bf bg F13 (Mk.only M5 ys)) := q14A.out.below b16
   clear r16 u16 b16 q14A p14A agA
   have KL := s_len q16A.out.st
   rw [show (Mk.only M5 ys).hs.length = ys.length from rfl] at KL
   have KO : Aside (∀ u, Below w16.heap.size w16 u → Calls Tryz.prog 14 #[.pointer (some ⟨S, 0, none⟩)] u fun e w' => ∃ P l, e = .returned (.pointer (some ⟨P, 0, none⟩)) ∧ Aside (Od.IsOrd w' P 8 (Od.idn 8) l) ∧ Below u.heap.size u w') := fun u hu => by
    have := s_order' (q16A.out.below hu).st
    rw [show (Mk.only M5 ys).n = 8 from m5A.out.1, show (Mk.only M5 ys).v = Od.idn 8 from m5A.out.2.2] at this
    refine this.mono ?_
    rintro e w' ⟨P, l, rfl, h1, _, h3, _⟩
    exact ⟨P, l, rfl, h1, h3⟩
   clear m5A
   go_wp2_with (first
    | (go_at_call 22; refine KL.mono ?_; clear KL; rintro e w17 ⟨rfl, q17, e17⟩; have b17 : Below w16.heap.size w16 w17 := (by rw [e17]; exact drewN_below _ _); clear e17; have K9 := KO.out w17 b17)
    | (go_at_call 14; refine K9.mono ?_; clear K9; rintro e w18 ⟨P, l, rfl, o18, b18⟩; have b18' : Below w16.heap.size w16 w18 := Rf.below_far b17 b18; clear b17 b18; have K10 := Od.all_any o18.out (by omega))
    | (go_at_call 15; refine K10.mono ?_; clear K10; rintro e w19 ⟨rfl, r19, b19⟩; have b19' : Below w16.heap.size w16 (w19.alloc (.cells #[.int .i64 0, .int .i64 1, .int .i64 2, .int .i64 3, .int .i64 4, .int .i64 5, .int .i64 6, .int .i64 7] 3)) := Rf.below_far (Rf.below_far b18' b19) (nb w19 _); clear b18' b19; have K11 := ints_same (c := 8) (d := 8) ((Od.IntsAt.row r19).new (.cells #[.int .i64 0, .int .i64 1, .int .i64 2, .int .i64 3, .int .i64 4, .int .i64 5, .int .i64 6, .int .i64 7] 3)) (Od.IntsAt.row (idn_row w19)) (by omega))
    | (go_at_call 19; refine K11.mono ?_; clear K11; rintro e w20 ⟨rfl, b20⟩; have q20A : Aside (Tq W w20 S F G a b bf bg F13 (Mk.only M5 ys)) := q16A.out.below (Rf.below_far b19' b20); clear b19' b20; have K12 := q20A.out.isA; unfold tab at K12; obtain ⟨d0, d1, d2, d3⟩ := q20A.out.tf.copy)
    | (go_at_call 23; refine K12.mono ?_; clear K12; rintro e w21 ⟨rfl, b21⟩; have q21A : Aside (Tq W w21 S F G a b bf bg F13 (Mk.only M5 ys)) := q20A.out.below b21; clear b21; have K13 := q21A.out.isB; unfold tab at K13; obtain ⟨e0, e1, e2, e3⟩ := q21A.out.tg.copy)
    | (go_at_call 23; refine K13.mono ?_; clear K13; rintro e w22 ⟨rfl, b22⟩))
   go_ret
   exact ⟨rfl, Rf.below_far q21A.out.base b22⟩
end Go.Proofs.YtnnmdkaoiofabaaGreat.Sf
