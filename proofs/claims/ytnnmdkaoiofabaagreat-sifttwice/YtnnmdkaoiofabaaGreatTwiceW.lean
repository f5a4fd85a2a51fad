/-
 SiftTwice, walked.
-/
import Derived.Test.YtnnmdkaoiofabaaGreatSfV
namespace Go.Proofs.YtnnmdkaoiofabaaGreat.Sf
open Go Go.RowKit
open Rf (tab word same IsTab)
open Sw (tab_kept)
open Mk (HsAt at3)
theorem dedup_congr {T T' : Nat → Nat → Bool} : ∀ {k : Nat}, (∀ i, i < k → T i = T' i) → Rf.dedup T k = Rf.dedup T' k
 | 0, _ => rfl
 | k + 1, h => by rw [Rf.dedup, Rf.dedup, dedup_congr fun i hi => h i (by omega), h k (by omega)]
theorem told_there {M M' : Mdl} {x y : Nat} {er : Int} {Y : Nat → Bool} (o : M.Ok) (o' : M'.Ok) (nx : M.isNode x) (e : Eqt (M.tbl x) Y) (t : Told M 0 Y y er M') : er = 0 ∧ y = x := by
 rcases t with ⟨rfl, q⟩ | ⟨_, _, q⟩
 ·refine ⟨rfl, (Mdl.one_iff o' q.node (q.grew.isNode nx)).1 fun z hz => ?_⟩
  rw [q.grew.tbl o nx z, e z hz]
  exact q.tbl z hz
 ·obtain ⟨G, p, no⟩ := q.miss
  exact absurd (Has.grew q.grew o (Prt.there o _ nx (Nat.le_refl _) ((Prt.like o (tbl_dep o nx (Nat.zero_le _)) e).2 p))) no
theorem Unl.le {H : Nat → Nat} {n : Nat} {zs : List Nat} (u : Unl H n zs) : zs.length ≤ n := by
 have := nodup_le zs ((List.range n).map H) (u.up.imp fun h => Nat.ne_of_lt h) fun x hx => by
  obtain ⟨_, i, hi, e⟩ := (u.mem x).1 hx
  exact List.mem_map.2 ⟨i, List.mem_range.2 hi, e⟩
 rwa [List.length_map, List.length_range] at this
section
variable {w w' : World} {S n0 : Nat} {F : Nat → Prop} {M M' : Mdl} {H : Nat → Nat} {e : Ending} {zs xs ks : List Nat} {F' : Nat → Prop}
theorem SiftP.count (q : SiftP w S F M n0 H e w' zs xs ks F' M') {ls : List Nat} (r : Rch M' H n0 ls) (nd : ls.Nodup) : ls.length = M'.hs.length := by
 have o := q.st.ok
 refine Nat.le_antisymm (nodup_le _ _ nd r.inn) (nodup_le _ _ o.nodup fun k hk => ?_)
 refine (q.rts.full (fun x => x < 2 ∨ x ∈ ls) (fun i hi => ?_) (fun x hx h => ?_) k hk).resolve_left (by have := (o.range k hk).1; omega)
 ·obtain ⟨_, j, hj, ej⟩ := (q.unl.mem _).1 (rtH_mem hi)
  rw [← ej]
  exact r.top j hj
 ·exact r.closed x (h.resolve_left (by have := (o.range x hx).1; omega))
end
theorem grew_like {M M' : Mdl} (g : Mdl.Grew M M') (o : M.Ok) {x : Nat} (h : M.isNode x) : M'.isNode x ∧ M'.tbl x = M.tbl x := ⟨g.isNode h, funext fun y => g.tbl o h y⟩
theorem drewN_below' (w : World) (q : Nat) : Below w.heap.size w (w.drewN q) := ⟨rfl, rfl, rfl, Nat.le_refl _, fun _ _ => rfl⟩
set_option maxRecDepth 100000 in
set_option maxHeartbeats 8000000 in
theorem twice_walk (F G : Nat → Bool) (W : World) :
  Calls Tryz.prog 5 #[tab F, tab G] W fun e w' => e = .returned (.bool true) ∧ Below W.heap.size W w' := by
 conv in #[tab F, tab G] => unfold tab
 go_enter Tryz.func5, Tryz.ntmps5
 go_upto_region 1 with fail
 obtain ⟨TF, TG, B1⟩ := boxes2' W F G
 unfold fo2 at TF TG B1
 generalize (W.alloc (.cells #[.int .u64 (word F 0 : Int), .int .u64 (word F 1 : Int), .int .u64 (word F 2 : Int), .int .u64 (word F 3 : Int)] 24)).alloc (.cells #[.int .u64 (word G 0 : Int), .int .u64 (word G 1 : Int), .int .u64 (word G 2 : Int), .int .u64 (word G 3 : Int)] 24) = w1 at TF TG B1 ⊢
 have B1A : Aside (Below W.heap.size W w1) := B1
 generalize hbg : W.heap.size + 1 = bg at TG ⊢
 generalize hbf : W.heap.size = bf at TF ⊢
 clear B1 hbg hbf
 have Kk := known_any w1
 go_upto_region 3 with (first
  | (go_at_call 8; refine Kk.mono ?_; clear Kk; rintro e w2 ⟨rfl, b2⟩))
 have B2 : Below W.heap.size W w2 := Rf.below_far B1A.out b2
 have TF2 := TF.kept b2
 have TG2 := TG.kept b2
 clear TF TG b2 B1A
 have K1 : Calls Tryz.prog 9 #[.int .i64 8, .int .i64 3000] w2 _ := new_y W w2 8 3000 (by omega) (by omega) (by omega) (by omega) B2
 go_upto_region 6 with (first
  | (go_at_call 9; refine K1.mono ?_; clear K1; rintro e w3 ⟨S, rfl, s3, b3⟩))
 have TF3 := TF2.kept b3
 have TG3 := TG2.kept b3
 clear TF2 TG2 b3 B2
 have K2 := make_y s3 (by omega) F
 unfold tab at K2
 obtain ⟨c0, c1, c2, c3⟩ := TF3.copy
 clear s3
 go_upto_region 7 with (first
  | (go_at_call 11; refine K2.mono ?_; clear K2; rintro e w4 ⟨a, rfl, s4, o4⟩))
 have TF4 := out_tab o4 TF3
 have TG4 := out_tab o4 TG3
 clear c0 c1 c2 c3 TF3 TG3 o4
 have K3 := make_y s4 (by omega) G
 unfold tab at K3
 obtain ⟨c0, c1, c2, c3⟩ := TG4.copy
 clear s4
 go_upto_region 8 with (first
  | (go_at_call 11; refine K3.mono ?_; clear K3; rintro e w5 ⟨b, rfl, s5, o5⟩))
 have TF5 := out_tab o5 TF4
 have TG5 := out_tab o5 TG4
 clear c0 c1 c2 c3 TF4 TG4 o5
 have K4 := or_y s5 (x := a) (y := b) (X := F) (Y := G) (by simp) (by simp) (by omega)
 clear s5
 go_upto_region 9 with (first
  | (go_at_call 29; refine K4.mono ?_; clear K4; rintro e w6 ⟨c, rfl, s6, o6⟩))
 have TF6 := out_tab o6 TF5
 have TG6 := out_tab o6 TG5
 clear TF5 TG5 o6
 obtain ⟨F6, M6, s6, n6, r6, v6, _, k6, B6, f6⟩ := s6
 go_upto_region 10 with fail
 have q7A : Aside (Tq W (w6.alloc (.cells #[.int .u32 (a : Int), .int .u32 (b : Int), .int .u32 (c : Int)] 36)) S F G a b bf bg F6 M6) := Tq.below ⟨s6, k6 (a, F) (by simp), k6 (b, G) (by simp), B6, f6, TF6, TG6⟩ (nb w6 _)
 have c6A : Aside (M6.isNode c ∧ Eqt (M6.tbl c) (fO F G)) := k6 (c, fO F G) (by simp)
 have m6A : Aside (M6.n = 8 ∧ M6.room = 3000) := ⟨n6, r6⟩
 have plA : Aside (Pl (w6.alloc (.cells #[.int .u32 (a : Int), .int .u32 (b : Int), .int .u32 (c : Int)] 36)) F6 (some ⟨w6.heap.size, 0, none⟩) 3 (at3 a b c)) :=
  ⟨Mk.hs_three w6 a b c, fun z e => by cases e; exact ⟨fun h => Nat.lt_irrefl _ (s6.lt _ h), by simp⟩⟩
 have rtsA : Aside (∀ M : Mdl, M.isNode a → M.isNode b → M.isNode c → ∀ i, i < 3 → M.isNode (at3 a b c i)) := fun M ha hb hc i hi => by
  have : i = 0 ∨ i = 1 ∨ i = 2 := by omega
  rcases this with rfl | rfl | rfl
  ·exact ha
  ·exact hb
  ·exact hc
 clear s6 n6 r6 v6 k6 B6 f6 TF6 TG6
 generalize (w6.alloc (.cells #[.int .u32 (a : Int), .int .u32 (b : Int), .int .u32 (c : Int)] 36)) = w7 at q7A plA ⊢
 generalize w6.heap.size = g at plA ⊢
 have K5 := sift_ok (cap := 3) q7A.out.st plA.out (rtsA.out M6 q7A.out.na.1 q7A.out.nb.1 c6A.out.1) (by omega) (fun zs u => by have := u.le; have := m6A.out.2; omega)
 go_upto_region 11 with (first
  | (go_at_call 18; refine K5.mono ?_; clear K5; rintro e w8 ⟨zs, xs, ks, F8, M8, sp⟩; have told := sp.told; subst told))
 have q8A : Aside (Tq W w8 S F G a b bf bg F8 M8) := q7A.out.wf sp.wf sp.st (like_tbl (sp.root (i := 0) (by omega)) q7A.out.na.2) (like_tbl (sp.root (i := 1) (by omega)) q7A.out.nb.2)
 have c8A : Aside (M8.isNode c ∧ Eqt (M8.tbl c) (fO F G)) := like_tbl (sp.root (i := 2) (by omega)) c6A.out.2
 have p8A : Aside (Pl w8 F8 (some ⟨g, 0, none⟩) 3 (at3 a b c)) := plA.out.wf sp.wf
 obtain ⟨T, hT⟩ : ∃ T, (fun i => M6.tbl (rtH zs i)) = T := ⟨_, rfl⟩
 obtain ⟨v8, hv8⟩ : ∃ v8, sfI M6.n (fun v => szN M6.n v (fun i => M6.tbl (rtH zs i)) zs.length) M6.v xs M6.n = v8 := ⟨_, rfl⟩
 have le1 := sfI_le (n := M6.n) (by have := m6A.out.1; omega) (fun v => szN M6.n v (fun i => M6.tbl (rtH zs i)) zs.length) M6.v xs M6.n
 have f8A : Aside (Unl (at3 a b c) 3 zs ∧ M8.n = 8 ∧ M8.room = 3000 ∧ M8.v = v8 ∧ ∀ i, i < zs.length → M8.isNode (rtH zs i) ∧ M8.tbl (rtH zs i) = T i) :=
  ⟨sp.unl, by rw [sp.rts.n]; exact m6A.out.1, by rw [sp.rts.room]; exact m6A.out.2, by rw [sp.rts.v, hv8], fun i hi => ⟨sp.rts.node i hi, by rw [sp.rts.tbl i hi, ← hT]⟩⟩
 rw [hv8, hT] at le1
 simp only [hv8]
 simp only [hT]
 rw [m6A.out.1] at le1 ⊢
 clear sp hv8 q7A c6A plA m6A
 generalize szN 8 M6.v T zs.length = s0 at le1 ⊢
 have le1' : Aside ((szN 8 v8 T zs.length : Int) ≤ (s0 : Int)) := by show (szN 8 v8 T zs.length : Int) ≤ (s0 : Int); omega
 obtain ⟨s1, hs1⟩ : ∃ s1, szN 8 v8 T zs.length = s1 := ⟨_, rfl⟩
 have s1A : Aside (szN 8 v8 T zs.length = s1) := hs1
 rw [hs1] at le1' ⊢
 clear le1 hs1 hT
 have K6 := or_op q8A.out.st q8A.out.nb.1 q8A.out.na.1
 go_upto_region 12 with (first
  | (go_at_call 29; refine K6.mono ?_; clear K6; rintro e w9 ⟨d, er, M9, F9, rfl, t9, s9, g9⟩))
 have td := told_there q8A.out.st.ok s9.ok c8A.out.1 (Y := ans M8 oOr b a 0) (c8A.out.2.trans fun y hy => by
  unfold ans
  rw [q8A.out.na.2 y hy, q8A.out.nb.2 y hy]
  show (F y || G y) = (G y || F y)
  exact Bool.or_comm _ _) t9
 obtain ⟨rfl, rfl⟩ := td
 have gr9 : Mdl.Grew M8 M9 := by rcases t9 with ⟨_, t⟩ | ⟨_, _, t⟩ <;> exact t.grew
 have o8 := q8A.out.st.ok
 have q9A : Aside (Tq W w9 S F G a b bf bg F9 M9) := q8A.out.wf g9 s9 (like_tbl (grew_like gr9 o8 q8A.out.na.1) q8A.out.na.2) (like_tbl (grew_like gr9 o8 q8A.out.nb.1) q8A.out.nb.2)
 have c9A : Aside (M9.isNode d ∧ Eqt (M9.tbl d) (fO F G)) := like_tbl (grew_like gr9 o8 c8A.out.1) c8A.out.2
 have p9A : Aside (Pl w9 F9 (some ⟨g, 0, none⟩) 3 (at3 a b d)) := p8A.out.wf g9
 have f9A : Aside (Unl (at3 a b d) 3 zs ∧ M9.n = 8 ∧ M9.room = 3000 ∧ M9.v = v8 ∧ ∀ i, i < zs.length → M9.tbl (rtH zs i) = T i) := by
  obtain ⟨h1, h2, h3, h4, h5⟩ := f8A.out
  exact ⟨h1, gr9.n.trans h2, gr9.room.trans h3, gr9.v.trans h4, fun i hi => (grew_like gr9 o8 (h5 i hi).1).2.trans (h5 i hi).2⟩
 clear t9 s9 g9 gr9 o8 q8A c8A p8A f8A
 have K7 := sift_ok (cap := 3) q9A.out.st p9A.out (rtsA.out M9 q9A.out.na.1 q9A.out.nb.1 c9A.out.1) (by omega) (fun zs u => by have := u.le; have := f9A.out.2.2.1; omega)
 go_upto_region 13 with (first
  | (go_at_call 18; refine K7.mono ?_; clear K7; rintro e w10 ⟨zs2, xs2, ks2, F10, M10, sp⟩; have told := sp.told; subst told))
 have ez : zs2 = zs := sp.unl.one f9A.out.1
 subst ez
 have q10A : Aside (Tq W w10 S F G a b bf bg F10 M10) := q9A.out.wf sp.wf sp.st (like_tbl (sp.root (i := 0) (by omega)) q9A.out.na.2) (like_tbl (sp.root (i := 1) (by omega)) q9A.out.nb.2)
 have c10A : Aside (M10.isNode d) := (sp.root (i := 2) (by omega)).1
 have p10A : Aside (Pl w10 F10 (some ⟨g, 0, none⟩) 3 (at3 a b d)) := p9A.out.wf sp.wf
 have szT : ∀ v, szN M9.n v (fun i => M9.tbl (rtH zs2 i)) zs2.length = szN 8 v T zs2.length := fun v => by
  rw [f9A.out.2.1]
  unfold szN
  rw [dedup_congr fun i hi => f9A.out.2.2.2.2 i hi]
 have le2 := sfI_le (n := M9.n) (by have := f9A.out.2.1; omega) (fun v => szN M9.n v (fun i => M9.tbl (rtH zs2 i)) zs2.length) M9.v xs2 M9.n
 have e1 : szN M9.n M9.v (fun i => M9.tbl (rtH zs2 i)) zs2.length = s1 := by rw [szT, f9A.out.2.2.2.1, s1A.out]
 have e3 := sp.rts.len sp.st.ok
 have cntA : Aside (∀ ls : List Nat, Rch M10 (at3 a b d) 3 ls → ls.Nodup → ls.length = M10.hs.length) := fun ls r nd => sp.count r nd
 clear sp
 obtain ⟨s2, hs2⟩ : ∃ s2, szN M9.n (sfI M9.n (fun v => szN M9.n v (fun i => M9.tbl (rtH zs2 i)) zs2.length) M9.v xs2 M9.n) (fun i => M9.tbl (rtH zs2 i)) zs2.length = s2 := ⟨_, rfl⟩
 rw [hs2] at e3 le2
 rw [e1] at le2
 simp only [hs2]
 simp only [e1]
 clear hs2 e1 szT
 have lenA : Aside (M10.hs.length = s2) := e3
 have le2' : (s2 : Int) ≤ (s1 : Int) := by omega
 have le1q := le1'.out
 have c10 : M10.isNode d := c10A.out
 have rt10 : ∀ i, i < 3 → M10.isNode (at3 a b d i) := rtsA.out M10 q10A.out.na.1 q10A.out.nb.1 c10
 have K8 : Calls Tryz.prog 30 #[.pointer (some ⟨S, 0, none⟩), .slice (some ⟨g, 0, none⟩) 3 3] w10 fun e w' => e = .returned (.tuple #[.int .i64 (s2 : Int), .int .i64 0]) ∧ Below w10.heap.size w10 w' := by
  refine (size_op (cap := 3) q10A.out.st p10A.out.at_ (fun i hi => lt32 q10A.out.st.ok (rt10 i hi)) (by omega)).mono ?_
  rintro e w' ⟨(⟨_, ks, nd, rc, rfl⟩ | ⟨⟨i, hi, q⟩, _⟩), B⟩
  ·rw [cntA.out ks rc nd, lenA.out]
   exact ⟨rfl, B⟩
  ·exact absurd (rt10 i hi) q
 clear e3 le2 le1' s1A f9A q9A c9A p9A cntA rtsA rt10 c10 p10A
 go_upto_region 14 with (first
  | (go_at_call 30; refine K8.mono ?_; clear K8; rintro e w11 ⟨rfl, b11⟩))
 have q11A : Aside (Tq W w11 S F G a b bf bg F10 M10) := q10A.out.below b11
 have KL := s_len q11A.out.st
 rw [lenA.out] at KL
 clear q10A b11 lenA
 go_wp2_with (first
  | (go_at_call 22; refine KL.mono ?_; clear KL; rintro e w12 ⟨rfl, q12, e12⟩; have q12A : Aside (Tq W w12 S F G a b bf bg F10 M10) := q11A.out.below (by rw [e12]; exact drewN_below' _ _); clear e12; have K12 := q12A.out.isA; unfold tab at K12; obtain ⟨d0, d1, d2, d3⟩ := q12A.out.tf.copy)
  | (go_at_call 23; refine K12.mono ?_; clear K12; rintro e w13 ⟨rfl, b13⟩; have q13A : Aside (Tq W w13 S F G a b bf bg F10 M10) := q12A.out.below b13; clear b13; have K13 := q13A.out.isB; unfold tab at K13; obtain ⟨e0, e1, e2, e3⟩ := q13A.out.tg.copy)
  | (go_at_call 23; refine K13.mono ?_; clear K13; rintro e w14 ⟨rfl, b14⟩))
 go_ret
 exact ⟨rfl, Rf.below_far q13A.out.base b14⟩
end Go.Proofs.YtnnmdkaoiofabaaGreat.Sf
