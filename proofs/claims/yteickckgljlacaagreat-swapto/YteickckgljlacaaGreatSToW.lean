/-
  SwapTo, walked.
-/
import Derived.Test.YteickckgljlacaaGreatSwW
namespace Go.Proofs.YteickckgljlacaaGreat.Sw
open Go Go.RowKit
open Rf (tab word same IsTab TabsAt prt dedup)

theorem permB_of {n : Nat} {Z : Nat → Int} (hZ : ∀ i, i < n → 0 ≤ Z i ∧ Z i < (n : Int)) (hd : ∀ i j, i < n → j < i → Z j ≠ Z i) : Od.permB n Z n = true := by
  have key : ∀ k, k ≤ n → Od.okUpto n Z k = true := fun k => by
    induction k with
    | zero => intro _; rfl
    | succ k ih =>
      intro hk
      have z := hZ k (by omega)
      have hz : Z k = (((Z k).toNat : Nat) : Int) := by omega
      have hs : Od.seenB Z k (Z k).toNat = false := by
        cases e : Od.seenB Z k (Z k).toNat with
        | false => rfl
        | true =>
          obtain ⟨j, hj, q⟩ := Od.seenB_iff.1 e
          exact absurd (q.trans hz.symm) (hd k j (by omega) hj)
      rw [Od.okUpto, ih (by omega), Od.okAt_ok hz (by omega) hs]
      rfl
  rw [Od.permB, key n (Nat.le_refl n)]
  simp
set_option maxHeartbeats 1000000 in
/-- Two rows of the same numbers are the same. -/
theorem ints_at {w : World} {p q n c d : Nat} {Z : Nat → Int} (hp : ∀ i, i < n → w.cell? ⟨p, i, none⟩ = some (.int .i64 (Z i))) (lp : p < w.heap.size) (hq : ∀ i, i < n → w.cell? ⟨q, i, none⟩ = some (.int .i64 (Z i))) (lq : q < w.heap.size) (hn : n ≤ 1000) :
    Calls Tryz.prog 20 #[.slice (some ⟨p, 0, none⟩) n c, .slice (some ⟨q, 0, none⟩) n d] w fun e w' => e = .returned (.bool true) ∧ Below w.heap.size w w' := by
  go_enter Tryz.func20, Tryz.ntmps20
  go_wp2_with fail
  go_loopg [4, 5] n (fun g s4 si wr => ∃ j : Nat, j + g = n ∧ s4 = .bool false ∧ si = .int .i64 (j : Int) ∧ Below w.heap.size w wr)
  case atStart => exact ⟨0, by omega, rfl, rfl, Below.refl _ _⟩
  case round =>
    obtain ⟨j, hj, rfl, rfl, hb⟩ := hrel
    have hJ : Aside (j + gk = n) := hj
    by_cases hlt : j < n
    · have hlt' : (j : Int) < (n : Int) := by omega
      have k1 : wr.cell? ⟨p, j, none⟩ = some (.int .i64 (Z j)) := by rw [hb.cell lp]; exact hp j hlt
      have k2 : wr.cell? ⟨q, j, none⟩ = some (.int .i64 (Z j)) := by rw [hb.cell lq]; exact hq j hlt
      generalize Z j = y at k1 k2
      clear hj
      go_wp2_with fail
      go_region
      go_wp2_with fail
      go_roundg (gk - 1)
      case measure => have := hJ.out; omega
      case rel =>
        have hj := hJ.out
        exact ⟨j + 1, by omega, rfl, by go_num, hb.drew⟩
    · obtain rfl : j = n := by omega
      clear hj
      go_wp2_with fail
      go_ret
      exact ⟨rfl, hb⟩
/-- A store with both functions, and a row of numbers outside it. -/
structure Tw (W w : World) (S : Nat) (F G : Nat → Bool) (a b g : Nat) (Z : Nat → Int) (bf bg : Nat) (Fs : Nat → Prop) (M : Mdl) : Prop where
  st : St w S Fs M
  n : M.n = 8
  na : M.isNode a ∧ Eqt (M.tbl a) F
  nb : M.isNode b ∧ Eqt (M.tbl b) G
  base : Below W.heap.size W w
  far : ∀ k, Fs k → W.heap.size ≤ k
  tf : IsTab w bf F
  tg : IsTab w bg G
  row : ∀ i, i < 8 → w.cell? ⟨g, i, none⟩ = some (.int .i64 (Z i))
  lt : g < w.heap.size
  out : ¬ Fs g
namespace Tw
variable {W w w' : World} {S : Nat} {F G : Nat → Bool} {a b g : Nat} {Z : Nat → Int} {bf bg : Nat} {Fs Fr : Nat → Prop} {M M' : Mdl}
theorem below (q : Tw W w S F G a b g Z bf bg Fs M) (k : Below w.heap.size w w') : Tw W w' S F G a b g Z bf bg Fs M :=
  ⟨q.st.below k, q.n, q.na, q.nb, Rf.below_far q.base k, q.far, q.tf.kept k, q.tg.kept k, fun i hi => by rw [k.cell q.lt]; exact q.row i hi, Nat.lt_of_lt_of_le q.lt k.size, q.out⟩
theorem wf (q : Tw W w S F G a b g Z bf bg Fs M) (k : Wf Fs Fr w w') (s : St w' S Fr M') (p : Kept M M') : Tw W w' S F G a b g Z bf bg Fr M' :=
  ⟨s, p.n.trans q.n, ⟨p.node _ q.na.1, by rw [p.tbl q.na.1]; exact q.na.2⟩, ⟨p.node _ q.nb.1, by rw [p.tbl q.nb.1]; exact q.nb.2⟩, Wf.far q.base k q.base.size q.far, k.after q.base.size q.far,
   tab_kept q.tf q.st k, tab_kept q.tg q.st k, fun i hi => (World.cell?_of_block (a := ⟨g, i, none⟩) (k.block _ q.lt q.out)).trans (q.row i hi), Nat.lt_of_lt_of_le q.lt k.size, fun h => (k.new g h).elim q.out fun e => absurd q.lt (by omega)⟩
theorem ints (q : Tw W w S F G a b g Z bf bg Fs M) : Od.IntsAt w (some ⟨g, 0, none⟩) 8 Z := .inr ⟨g, 0, rfl, q.lt, fun i hi => by rw [Nat.zero_add]; exact q.row i hi⟩
theorem isA (q : Tw W w S F G a b g Z bf bg Fs M) : Calls Tryz.prog 22 #[.pointer (some ⟨S, 0, none⟩), .int .u32 (a : Int), tab F] w fun e w' => e = .returned (.bool true) ∧ Below w.heap.size w w' := by
  have := isf_any (G := F) q.st q.na.1
  rwa [same_true q.na.2] at this
theorem isB (q : Tw W w S F G a b g Z bf bg Fs M) : Calls Tryz.prog 22 #[.pointer (some ⟨S, 0, none⟩), .int .u32 (b : Int), tab G] w fun e w' => e = .returned (.bool true) ∧ Below w.heap.size w w' := by
  have := isf_any (G := G) q.st q.nb.1
  rwa [same_true q.nb.2] at this
/-- To the order in the row. -/
theorem goes (q : Tw W w S F G a b g Z bf bg Fs M) (hp : Od.permB 8 Z 8 = true) (c : Nat) : Calls Tryz.prog 24 #[.pointer (some ⟨S, 0, none⟩), .slice (some ⟨g, 0, none⟩) 8 c] w fun e w' => ∃ (k : Nat) (er : Int) (Fr : Nat → Prop) (M' : Mdl), e = .returned (.tuple #[.int .i64 (k : Int), .int .i64 er]) ∧ Tw W w' S F G a b g Z bf bg Fr M' ∧ ((er = 0 ∧ k = toC M.v Z 8 8 ∧ M'.v = toV M.v Z 8 8) ∨ (er = 60 ∧ k < toC M.v Z 8 8)) := by
  refine (to_any q.st (c := c) q.ints (fun x e h => by cases e; exact q.out h) (by rw [q.n]; exact hp)).mono ?_
  rintro e w' ⟨k, er, Fr, M', rfl, kp, _, s, gg, hc⟩
  rw [q.n] at hc
  exact ⟨k, er, Fr, M', rfl, q.wf gg s kp, hc.imp id fun h => ⟨h.1, h.2.1⟩⟩
end Tw
set_option maxRecDepth 100000 in
set_option maxHeartbeats 8000000 in
theorem to_walk (F G : Nat → Bool) (ad : Option Addr) (n cap : Nat) (V : Nat → Nat) (ad2 : Option Addr) (n2 cap2 : Nat) (Z2 : Nat → Int) (W : World) (hV : BtAt W ad n V) (hb : ∀ i, i < n → V i < 256) (hZ2 : Od.IntsAt W ad2 n2 Z2) :
    Calls Tryz.prog 4 #[tab F, tab G, .slice ad n cap, .slice ad2 n2 cap2] W fun e w' => e = .returned (.bool true) ∧ Below W.heap.size W w' := by
  conv in #[tab F, tab G, Value.slice ad n cap, Value.slice ad2 n2 cap2] => unfold tab
  go_enter Tryz.func4, Tryz.ntmps4
  go_upto_region 1 with fail
  obtain ⟨TF, TG, B1⟩ := boxes2 W F G
  unfold fo at TF TG B1
  generalize (W.alloc (.cells #[.int .u64 (word F 0 : Int), .int .u64 (word F 1 : Int), .int .u64 (word F 2 : Int), .int .u64 (word F 3 : Int)] 24)).alloc (.cells #[.int .u64 (word G 0 : Int), .int .u64 (word G 1 : Int), .int .u64 (word G 2 : Int), .int .u64 (word G 3 : Int)] 24) = w1 at TF TG B1 ⊢
  have B1A : Aside (Below W.heap.size W w1) := B1
  generalize hbg : W.heap.size + 1 = bg at TG ⊢
  generalize hbf : W.heap.size = bf at TF ⊢
  have VA : Aside (BtAt W ad n V ∧ (∀ i, i < n → V i < 256) ∧ Od.IntsAt W ad2 n2 Z2) := ⟨hV, hb, hZ2⟩
  clear B1 hbg hbf hV hb hZ2
  have Kk := known_any w1
  go_upto_region 3 with (first
    | (go_at_call 8; refine Kk.mono ?_; clear Kk; rintro e w2 ⟨rfl, b2⟩))
  have B2 : Below W.heap.size W w2 := Rf.below_far B1A.out b2
  have TF2 := TF.kept b2
  have TG2 := TG.kept b2
  clear TF TG b2 B1A
  by_cases n8 : n ≤ 8
  · by_cases n12 : n2 ≤ 12
    · have ni : ¬ (8 : Int) < (n : Int) := by omega
      have ni2 : ¬ (12 : Int) < (n2 : Int) := by omega
      have nA : Aside (n ≤ 8 ∧ n2 ≤ 12) := ⟨n8, n12⟩
      clear n8 n12
      have K1 : Calls Tryz.prog 9 #[.int .i64 8, .int .i64 20000] w2 _ := s_new 8 20000 w2 (by omega) (by omega) (by omega) (by omega)
      go_upto_region 8 with (first
        | (go_at_call 9; refine K1.mono ?_; clear K1; rintro e w3 ⟨S, F3, rfl, s3, b3, f3⟩))
      have TF3 := TF2.kept b3
      have TG3 := TG2.kept b3
      have B3 := Rf.below_far B2 b3
      have f3' : ∀ k, F3 k → W.heap.size ≤ k := fun k hk => Nat.le_trans B2.size (f3 k hk)
      clear TF2 TG2 b3 ni ni2 f3 B2
      have K2 := make_any s3 (Dep.all s3.ok rfl F) (by decide)
      unfold tab at K2
      obtain ⟨c0, c1, c2, c3⟩ := TF3.copy
      go_upto_region 9 with (first
        | (go_at_call 13; refine K2.mono ?_; clear K2; rintro e w4 ⟨a, M4, rfl, ⟨F4, s4, g4⟩, m4⟩))
      have TF4 := tab_kept TF3 s3 g4
      have TG4 := tab_kept TG3 s3 g4
      have B4 := Wf.far B3 g4 B3.size f3'
      have f4' := g4.after B3.size f3'
      clear c0 c1 c2 c3 TF3 TG3 s3 g4 B3 f3'
      have n4 : M4.n = 8 := m4.grew.n
      have u4 : M4.up + (2 ^ (M4.n - 2) - 1) + 19 ≤ M4.room := by
        have u := m4.up
        have e0 : (Mdl.empty 8 20000).up + (2 ^ ((Mdl.empty 8 20000).n - 2 - 0) - 1) = 63 := rfl
        have e1 : M4.room = 20000 := m4.grew.room
        rw [n4, e1]
        rw [e0] at u
        omega
      have K3 := make_any s4 (Dep.all s4.ok n4 G) u4
      have m4A : Aside (M4.v = Od.idn 8 ∧ M4.n = 8 ∧ M4.isNode a ∧ Eqt (M4.tbl a) F ∧ M4.Ok) := ⟨m4.grew.v, n4, m4.node, m4.tbl, s4.ok⟩
      clear m4 n4 u4
      unfold tab at K3
      obtain ⟨c0, c1, c2, c3⟩ := TG4.copy
      go_upto_region 10 with (first
        | (go_at_call 13; refine K3.mono ?_; clear K3; rintro e w5 ⟨b, M5, rfl, ⟨F5, s5, g5⟩, m5⟩))
      have TF5 := tab_kept TF4 s4 g5
      have TG5 := tab_kept TG4 s4 g5
      have B5 := Wf.far B4 g5 B4.size f4'
      have f5' := g5.after B4.size f4'
      have v5A : Aside (M5.v = Od.idn 8) := m5.grew.v.trans m4A.out.1
      have kA : Aside (M5.n = 8 ∧ (M5.isNode a ∧ Eqt (M5.tbl a) F) ∧ (M5.isNode b ∧ Eqt (M5.tbl b) G)) := by
        obtain ⟨_, e2, e3, e4, e5⟩ := m4A.out
        have kp := Kept.grew m5.grew e5
        exact ⟨kp.n.trans e2, ⟨kp.node a e3, by rw [kp.tbl e3]; exact e4⟩, m5.node, m5.tbl⟩
      clear c0 c1 c2 c3 TF4 TG4 s4 g5 B4 f4' m5 m4A
      have K4 := perm_any w5 ad n cap V (VA.out.1.kept B5) VA.out.2.1
      go_upto_region 11 with (first
        | (go_at_call 23; refine K4.mono ?_; clear K4; rintro e w6 ⟨g, c, rfl, p, pm, own, b6⟩))
      obtain ⟨Z, hZ⟩ : ∃ Z : Nat → Int, (fun i => (p i : Int)) = Z := ⟨_, rfl⟩
      have hZi : ∀ i, (p i : Int) = Z i := fun i => by rw [← hZ]
      have pmA : Aside ((∀ i, i < 8 → 0 ≤ Z i ∧ Z i < (8 : Int)) ∧ ∀ i j, i < 8 → j < i → Z j ≠ Z i) := ⟨fun i hi => by have := pm.1 i hi; have := hZi i; omega, fun i j hi hj e => by have := pm.2 j i (by omega) hi (by have := hZi i; have := hZi j; omega); omega⟩
      have q6A : Aside (Tw W w6 S F G a b g Z bf bg F5 M5) := by
        obtain ⟨nw, hg⟩ := Nw.of own
        have lt : g < w6.heap.size := by obtain ⟨U, r, _⟩ := nw; exact r.lt
        exact ⟨s5.below b6, kA.out.1, kA.out.2.1, kA.out.2.2, Rf.below_far B5 b6, f5', TF5.kept b6, TG5.kept b6, fun i hi => by rw [nw.cell hi, hZi], lt, fun h => by have := s5.lt g h; omega⟩
      clear hZi hZ pm own TF5 TG5 B5 f5' b6 s5 kA p
      have ppA : Aside (Od.permB 8 Z 8 = true) := permB_of pmA.out.1 pmA.out.2
      have K5 := q6A.out.goes ppA.out c
      rw [v5A.out] at K5
      go_upto_region 12 with (first
        | (go_at_call 24; refine K5.mono ?_; clear K5; rintro e w7 ⟨k, er, F7, M7, rfl, q7, hc⟩))
      have q7A : Aside (Tw W w7 S F G a b g Z bf bg F7 M7) := q7
      clear q7 q6A v5A
      have KM : ∀ u, Below w7.heap.size w7 u → Calls Tryz.prog 25 #[.slice (some ⟨g, 0, none⟩) 8 c] u fun e w' => e = .returned (.int .i64 (toC (Od.idn 8) Z 8 8 : Int)) ∧ Below u.heap.size u w' := fun u hu => moves_any (q7A.out.below hu).row (q7A.out.below hu).lt pmA.out.1 pmA.out.2
      have KMA : Aside (∀ u, Below w7.heap.size w7 u → Calls Tryz.prog 25 #[.slice (some ⟨g, 0, none⟩) 8 c] u fun e w' => e = .returned (.int .i64 (toC (Od.idn 8) Z 8 8 : Int)) ∧ Below u.heap.size u w') := KM
      have v7A : Aside (er = 0 → M7.v = toV (Od.idn 8) Z 8 8) := fun e => by
        rcases hc with h | h
        · exact h.2.2
        · omega
      have hc2 : (er = 0 ∧ k = toC (Od.idn 8) Z 8 8) ∨ (er = 60 ∧ k < toC (Od.idn 8) Z 8 8) := hc.imp (fun h => ⟨h.1, h.2.1⟩) id
      have isfA : Aside (∀ u, Below w7.heap.size w7 u → Calls Tryz.prog 22 #[.pointer (some ⟨S, 0, none⟩), .int .u32 (a : Int), tab F] u fun e w' => e = .returned (.bool true) ∧ Below u.heap.size u w') := fun u hu => (q7A.out.below hu).isA
      have isgA : Aside (∀ u, Below w7.heap.size w7 u → Calls Tryz.prog 22 #[.pointer (some ⟨S, 0, none⟩), .int .u32 (b : Int), tab G] u fun e w' => e = .returned (.bool true) ∧ Below u.heap.size u w') := fun u hu => (q7A.out.below hu).isB
      have onceA : Aside (∀ u, Below w7.heap.size w7 u → Calls Tryz.prog 21 #[.pointer (some ⟨S, 0, none⟩)] u fun e w' => e = .returned (.bool true) ∧ Below u.heap.size u w') := fun u hu => once_any (q7A.out.below hu).st
      have tfA : Aside (∀ u, Below w7.heap.size w7 u → IsTab u bf F ∧ IsTab u bg G) := fun u hu => ⟨(q7A.out.below hu).tf, (q7A.out.below hu).tg⟩
      unfold tab at isfA isgA
      have K6 := KM w7 (Below.refl _ _)
      clear hc KM
      rcases hc2 with ⟨rfl, hk⟩ | ⟨rfl, hk⟩
      · have ordA := v7A.out rfl
        have vZA : Aside ((∀ i, i < 8 → ((M7.v i : Nat) : Int) = Z i) ∧ M7.v = toV (Od.idn 8) Z 8 8) := ⟨fun i hi => by rw [ordA]; exact (toV_ord idn_ord.1 idn_ord.2 pmA.out.1 pmA.out.2 (j := 8) (Nat.le_refl 8)).2.2 i hi, ordA⟩
        subst hk
        generalize hC : (toC (Od.idn 8) Z 8 8 : Int) = kz at K6 ⊢
        clear hC ordA v7A
        go_upto_region 14 with fail
        have KO := fun {u : World} (hu : Below w7.heap.size w7 u) => s_order (q7A.out.below hu).st
        have KOA : Aside (∀ u, Below w7.heap.size w7 u → Calls Tryz.prog 10 #[.pointer (some ⟨S, 0, none⟩)] u fun e w' => ∃ P l, e = .returned (.pointer (some ⟨P, 0, none⟩)) ∧ Od.IsOrd w' P 8 M7.v l ∧ Below u.heap.size u w' ∧ u.heap.size ≤ P) := fun u hu => by
          have := KO hu
          rwa [q7A.out.n] at this
        clear KO
        go_upto_region 16 with (first
          | (go_at_call 25; refine K6.mono ?_; clear K6; rintro e w8 ⟨rfl, b8⟩; have K7 := KOA.out w8 b8)
          | (go_at_call 10; refine K7.mono ?_; clear K7; rintro e w9 ⟨P, l, rfl, o9, b9, _⟩; have b10 := b8.trans (b9.mono b8.size); clear b8 b9; have K8 := Od.all_any o9 (by omega))
          | (go_at_call 11; refine K8.mono ?_; clear K8; rintro e w10 ⟨rfl, r10, b11⟩; have b12 := b10.trans (b11.mono b10.size); clear b11; have q12 := q7A.out.below b12; have K9 : Calls Tryz.prog 20 #[.slice (some ⟨w9.heap.size, 0, none⟩) 8 8, .slice (some ⟨g, 0, none⟩) 8 c] w10 _ := ints_at (n := 8) (Z := Z) (fun i hi => by rw [r10.cell hi, vZA.out.1 i hi]) r10.lt q12.row q12.lt (by omega); clear q12 r10 b10)
          | (go_at_call 20; refine K9.mono ?_; clear K9; rintro e w11 ⟨rfl, b13⟩; have b14 := b12.trans (b13.mono b12.size); clear b12 b13; have K10 := isfA.out w11 b14; obtain ⟨d0, d1, d2, d3⟩ := (tfA.out w11 b14).1.copy)
          | (go_at_call 22; refine K10.mono ?_; clear K10; rintro e w12 ⟨rfl, b15⟩; have b16 := b14.trans (b15.mono b14.size); clear b14 b15; have K11 := isgA.out w12 b16; obtain ⟨e0, e1, e2, e3⟩ := (tfA.out w12 b16).2.copy)
          | (go_at_call 22; refine K11.mono ?_; clear K11; rintro e w13 ⟨rfl, b17⟩; have b18 := b16.trans (b17.mono b16.size); clear b16 b17))
        have q13A : Aside (Tw W w13 S F G a b g Z bf bg F7 M7) := q7A.out.below b18
        clear d0 d1 d2 d3 e0 e1 e2 e3 b18 o9 KOA q7A isfA isgA onceA tfA KMA
        obtain ⟨w14, hw14⟩ : ∃ w14, w13.alloc (.cells #[.int .u32 (a : Int), .int .u32 (b : Int)] 38) = w14 := ⟨_, rfl⟩
        have q14A : Aside (Tw W w14 S F G a b g Z bf bg F7 M7) := by rw [← hw14]; exact q13A.out.below (nb w13 _)
        have hsA : HsAt w14 (some ⟨w13.heap.size, 0, none⟩) 2 (fun i => if i = 0 then a else b) := by
          rw [← hw14]
          refine HsAt.row (World.rowIs_alloc w13 #[.int .u32 (a : Int), .int .u32 (b : Int)] 38 _ fun i hi => ?_)
          have hi2 : i < 2 := hi
          have : i = 0 ∨ i = 1 := by omega
          rcases this with rfl | rfl <;> rfl
        obtain ⟨T, hT⟩ : ∃ T : Nat → Nat → Bool, (fun i => if i = 0 then F else G) = T := ⟨_, rfl⟩
        have nh : ∀ i, i < 2 → M7.isNode (if i = 0 then a else b) ∧ Eqt (M7.tbl (if i = 0 then a else b)) (T i) := fun i hi => by
          rw [← hT]
          have : i = 0 ∨ i = 1 := by omega
          rcases this with rfl | rfl
          · exact q14A.out.na
          · exact q14A.out.nb
        have K12 : Calls Tryz.prog 26 #[.pointer (some ⟨S, 0, none⟩), .slice (some ⟨w13.heap.size, 0, none⟩) 2 2] w14 fun e w' => e = .returned (.tuple #[.int .i64 (sizeN M7 T 2 : Int), .int .i64 0]) ∧ Below w14.heap.size w14 w' := by
          have o := q14A.out.st.ok
          refine (size_op (cap := 2) q14A.out.st hsA (fun i hi => by have h1 := q14A.out.st.nodes (nh i hi).1; have h2 := q14A.out.st.room.2; omega) (by omega)).mono ?_
          rintro e w' ⟨hq, bb⟩
          rcases hq with ⟨_, ks, nd, r, rfl⟩ | ⟨⟨i, hi, no⟩, _⟩
          · rw [reach_size o r nd nh (fun _ _ => Dep.all o q14A.out.n _)]
            exact ⟨rfl, bb⟩
          · exact absurd (nh i hi).1 no
        clear hsA nh q13A
        obtain ⟨sz, hsz⟩ : ∃ sz, (sizeN M7 T 2 : Int) = sz := ⟨_, rfl⟩
        have hszA : Aside ((sizeN M7 T 2 : Int) = sz) := hsz
        have hTA : Aside ((fun i => if i = 0 then F else G) = T) := hT
        rw [hsz] at K12
        clear hsz hT
        subst hw14
        go_upto_region 17 with (first
          | (go_at_call 26; refine K12.mono ?_; clear K12; rintro e w15 ⟨rfl, b15⟩))
        have q15A : Aside (Tw W w15 S F G a b g Z bf bg F7 M7) := q14A.out.below b15
        clear b15 q14A
        obtain ⟨d0, d1, d2, d3⟩ := q15A.out.tf.copy
        obtain ⟨e0, e1, e2, e3⟩ := q15A.out.tg.copy
        obtain ⟨w16, hw16⟩ : ∃ w16, w15.alloc (.cells #[.int .u64 (word F 0 : Int), .int .u64 (word F 1 : Int), .int .u64 (word F 2 : Int), .int .u64 (word F 3 : Int), .int .u64 (word G 0 : Int), .int .u64 (word G 1 : Int), .int .u64 (word G 2 : Int), .int .u64 (word G 3 : Int)] 24) = w16 := ⟨_, rfl⟩
        have q16A : Aside (Tw W w16 S F G a b g Z bf bg F7 M7) := by rw [← hw16]; exact q15A.out.below (nb w15 _)
        have K13 : Calls Tryz.prog 27 #[.slice (some ⟨w15.heap.size, 0, none⟩) 2 2, .slice (some ⟨g, 0, none⟩) 8 c] w16 fun e w' => e = .returned (.int .i64 sz) ∧ Below w16.heap.size w16 w' := by
          have tt : TabsAt w16 (some ⟨w15.heap.size, 0, none⟩) 2 T := by
            rw [← hw16, ← hTA.out]
            exact tabs_two (Go.Deep.blk_alloc_new _ _)
          have := size_any (some ⟨w15.heap.size, 0, none⟩) 2 2 T (some ⟨g, 0, none⟩) 8 c (fun i => (M7.v i : Int)) w16 (by omega) (by omega) tt (.inr ⟨g, 0, rfl, q16A.out.lt, fun i hi => by show w16.cell? ⟨g, 0 + i, none⟩ = some (.int .i64 ((M7.v i : Nat) : Int)); rw [Nat.zero_add, vZA.out.1 i hi]; exact q16A.out.row i hi⟩)
          have e : (prt (fun i => (M7.v i : Int)) 8 (dedup T 2) (min 8 8 + 1)).1.length = sizeN M7 T 2 := by
            unfold sizeN
            rw [q16A.out.n]
          rw [e, hszA.out] at this
          exact this
        subst hw16
        clear q15A hszA hTA
        go_upto_region 19 with (first
          | (go_at_call 27; refine K13.mono ?_; clear K13; rintro e w17 ⟨rfl, b17⟩))
        have q17A : Aside (Tw W w17 S F G a b g Z bf bg F7 M7) := q16A.out.below b17
        clear b17 q16A d0 d1 d2 d3 e0 e1 e2 e3
        have K14 := q17A.out.goes ppA.out c
        have z0 : toC M7.v Z 8 8 = 0 := by
          have o := q17A.out.st.ok
          exact (toC_zero (fun i hi => by have := o.vlt i (by rw [q17A.out.n]; exact hi); rwa [q17A.out.n] at this) (fun x y hx hy => o.vinj x y (by rw [q17A.out.n]; exact hx) (by rw [q17A.out.n]; exact hy)) vZA.out.1 (j := 8) (Nat.le_refl 8)).1
        rw [z0] at K14
        clear z0
        go_upto_region 20 with (first
          | (go_at_call 24; refine K14.mono ?_; clear K14; rintro e w18 ⟨k18, er18, F18, M18, rfl, q18, hc18⟩))
        have h18 : k18 = 0 ∧ er18 = 0 := by omega
        obtain ⟨rfl, rfl⟩ := h18
        have q18A : Aside (Tw W w18 S F G a b g Z bf bg F18 M18) := q18
        clear q18 hc18 q17A vZA
        go_upto_region 22 with fail
        have iz : Od.IntsAt w18 ad2 n2 Z2 := VA.out.2.2.below q18A.out.base
        have KP : Aside (∀ u, Below w18.heap.size w18 u → Calls Tryz.prog 28 #[.slice ad2 n2 cap2] u fun e w' => e = .returned (.bool (Od.permB n2 Z2 8)) ∧ Below u.heap.size u w') := fun u hu => isperm_any (iz.below hu) nA.out.2
        have BA : Aside (Below W.heap.size W w18) := q18A.out.base
        cases hpb : Od.permB n2 Z2 8 with
        | false =>
          have hpbA : Aside (Od.permB n2 Z2 8 = false) := hpb
          have K15 := to_no q18A.out.st (c := cap2) iz (by rw [q18A.out.n]; exact hpb)
          clear hpb iz q18A
          go_upto_region 23 with (first
            | (go_at_call 24; refine K15.mono ?_; clear K15; rintro e w19 ⟨rfl, b19⟩))
          have K16 := KP.out w19 b19
          rw [hpbA.out] at K16
          have B19A : Aside (Below W.heap.size W w19) := Rf.below_far BA.out b19
          clear b19 KP
          go_wp2_with (first
            | (go_at_call 28; refine K16.mono ?_; clear K16; rintro e w20 ⟨rfl, b20⟩))
          go_ret
          exact ⟨rfl, Rf.below_far B19A.out b20⟩
        | true =>
          have hpbA : Aside (Od.permB n2 Z2 8 = true) := hpb
          have hl2 : n2 = 8 := (Od.permB_spec hpb).1
          have iz0 := VA.out.2.2
          have K15 := to_any q18A.out.st (c := cap2) iz (fun x e hx => by
            rcases iz0 with e0 | ⟨b0, o0, e0, l0, _⟩
            · omega
            · rw [e0] at e
              cases e
              have : W.heap.size ≤ b0 := q18A.out.far _ hx
              omega) (by rw [q18A.out.n]; exact hpb)
          clear hpb iz iz0 hl2
          go_upto_region 23 with (first
            | (go_at_call 24; refine K15.mono ?_; clear K15; rintro e w19 ⟨k19, er19, F19, M19, rfl, _, _, s19, g19, hc19⟩))
          have he : er19 = 0 ∨ er19 = 60 := hc19.imp (fun h => h.1) fun h => h.1
          have K16 := KP.out w18 (Below.refl _ _)
          have K17 := isperm_any ((VA.out.2.2.below (Wf.far q18A.out.base g19 q18A.out.base.size q18A.out.far))) nA.out.2 (c := cap2)
          rw [hpbA.out] at K17
          have B19A : Aside (Below W.heap.size W w19) := Wf.far q18A.out.base g19 q18A.out.base.size q18A.out.far
          clear hc19 s19 g19 K16 KP q18A
          rcases he with rfl | rfl
          · go_wp2_with (first
              | (go_at_call 28; refine K17.mono ?_; clear K17; rintro e w20 ⟨rfl, b20⟩))
            go_ret
            exact ⟨rfl, Rf.below_far B19A.out b20⟩
          · go_wp2_with (first
              | (go_at_call 28; refine K17.mono ?_; clear K17; rintro e w20 ⟨rfl, b20⟩))
            go_ret
            exact ⟨rfl, Rf.below_far B19A.out b20⟩
      · go_upto_region 13 with fail
        have hkz : (k : Int) < (toC (Od.idn 8) Z 8 8 : Int) := by omega
        generalize (toC (Od.idn 8) Z 8 8 : Int) = kz at K6 hkz ⊢
        clear hk v7A
        have BA : Aside (Below W.heap.size W w7) := q7A.out.base
        clear q7A KMA
        go_wp2_with (first
          | (go_at_call 25; refine K6.mono ?_; clear K6; rintro e w8 ⟨rfl, b8⟩; have K7 := isfA.out w8 b8; obtain ⟨d0, d1, d2, d3⟩ := (tfA.out w8 b8).1.copy)
          | (go_at_call 22; refine K7.mono ?_; clear K7; rintro e w9 ⟨rfl, b9⟩; have b10 := b8.trans (b9.mono b8.size); clear b8 b9; have K8 := isgA.out w9 b10; obtain ⟨e0, e1, e2, e3⟩ := (tfA.out w9 b10).2.copy)
          | (go_at_call 22; refine K8.mono ?_; clear K8; rintro e w10 ⟨rfl, b11⟩; have b12 := b10.trans (b11.mono b10.size); clear b10 b11; have K9 := onceA.out w10 b12)
          | (go_at_call 21; refine K9.mono ?_; clear K9; rintro e w11 ⟨rfl, b13⟩))
        go_ret
        exact ⟨rfl, Rf.below_far (Rf.below_far BA.out b12) b13⟩
    · have ni : ¬ (8 : Int) < (n : Int) := by omega
      have ni2 : (12 : Int) < (n2 : Int) := by omega
      clear n8 n12
      go_wp2_with fail
      go_ret
      exact ⟨rfl, B2⟩
  · have ni : (8 : Int) < (n : Int) := by omega
    clear n8
    go_wp2_with fail
    go_ret
    exact ⟨rfl, B2⟩
theorem ints_of {W : World} {ad : Option Addr} {len : Nat} (h : len = 0 ∨ ∃ (b off : Nat) (Z : Nat → Int), ad = some ⟨b, off, none⟩ ∧ b < W.heap.size ∧ ∀ i, i < len → W.cell? ⟨b, off + i, none⟩ = some (.int .i64 (Z i)) ∧ (Lit.int .i64 (Z i)).wf = true) : ∃ Z, Od.IntsAt W ad len Z := by
  rcases h with h | ⟨b, off, Z, e, hb, hc⟩
  · exact ⟨fun _ => 0, .inl h⟩
  · exact ⟨Z, .inr ⟨b, off, e, hb, fun i hi => (hc i hi).1⟩⟩
end Go.Proofs.YteickckgljlacaaGreat.Sw
