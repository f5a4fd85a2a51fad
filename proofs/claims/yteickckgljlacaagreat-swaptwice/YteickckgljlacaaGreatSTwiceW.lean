/-
  SwapTwice, walked.
-/
import Derived.Test.YteickckgljlacaaGreatSwTa
namespace Go.Proofs.YteickckgljlacaaGreat.Sw
open Go Go.RowKit
open Rf (tab word same IsTab)

/-- The block of a function. -/
def fo2 (F : Nat → Bool) : Obj := .cells #[.int .u64 (word F 0 : Int), .int .u64 (word F 1 : Int), .int .u64 (word F 2 : Int), .int .u64 (word F 3 : Int)] 24
theorem boxes2' (w : World) (F G : Nat → Bool) : IsTab ((w.alloc (fo2 F)).alloc (fo2 G)) w.heap.size F ∧ IsTab ((w.alloc (fo2 F)).alloc (fo2 G)) (w.heap.size + 1) G ∧ Below w.heap.size w ((w.alloc (fo2 F)).alloc (fo2 G)) := by
  refine ⟨(IsTab.new w F).alloc _, IsTab.newAt (by simp) G, ((Below.refl _ w).alloc (Nat.le_refl _) _).alloc (by simp) _⟩

set_option maxHeartbeats 1000000 in
/-- Two rows of the same numbers are the same. -/
theorem ints_true' {w : World} {p q n c d : Nat} {Z : Nat → Int} (hp : w.rowIs p 3 n (fun i => .int .i64 (Z i))) (hq : w.rowIs q 3 n (fun i => .int .i64 (Z i))) (hn : n ≤ 1000) :
    Calls Tryz.prog 20 #[.slice (some ⟨p, 0, none⟩) n c, .slice (some ⟨q, 0, none⟩) n d] w fun e w' => e = .returned (.bool true) ∧ Below w.heap.size w w' := by
  go_enter Tryz.func20, Tryz.ntmps20
  go_wp2_with fail
  go_loopg [4, 5] n (fun g s4 si wr => ∃ j : Nat, j + g = n ∧ s4 = .bool false ∧ si = .int .i64 (j : Int) ∧ Below w.heap.size w wr)
  case atStart => exact ⟨0, by omega, rfl, rfl, Below.refl _ _⟩
  case round =>
    obtain ⟨j, hj, rfl, rfl, hb⟩ := hrel
    have hJ : Aside (j + gk = n) := hj
    by_cases hlt : j < n
    · have hlt' : (j : Int) < (n : Int) := by omega
      have k1 : wr.cell? ⟨p, j, none⟩ = some (.int .i64 (Z j)) := by rw [hb.cell hp.lt]; exact hp.cell hlt
      have k2 : wr.cell? ⟨q, j, none⟩ = some (.int .i64 (Z j)) := by rw [hb.cell hq.lt]; exact hq.cell hlt
      generalize Z j = y at k1 k2
      clear hj
      go_wp2_with fail
      go_region
      go_wp2_with fail
      go_roundg (gk - 1)
      case measure => have := hJ.out; omega
      case rel =>
        have hj := hJ.out
        exact ⟨j + 1, by omega, rfl, by go_num, hb.drew⟩
    · obtain rfl : j = n := by omega
      clear hj
      go_wp2_with fail
      go_ret
      exact ⟨rfl, hb⟩

/-- A store with both functions, and a row of both handles outside it. -/
structure Tv (W w : World) (S : Nat) (F G : Nat → Bool) (a b g : Nat) (bf bg : Nat) (Fs : Nat → Prop) (M : Mdl) : Prop where
  st : St w S Fs M
  na : M.isNode a ∧ Eqt (M.tbl a) F
  nb : M.isNode b ∧ Eqt (M.tbl b) G
  base : Below W.heap.size W w
  far : ∀ k, Fs k → W.heap.size ≤ k
  tf : IsTab w bf F
  tg : IsTab w bg G
  row : ∀ i, i < 2 → w.cell? ⟨g, i, none⟩ = some (.int .u32 ((if i = 0 then a else b : Nat) : Int))
  lt : g < w.heap.size
  out : ¬ Fs g
namespace Tv
variable {W w w' : World} {S : Nat} {F G : Nat → Bool} {a b g : Nat} {bf bg : Nat} {Fs Fr : Nat → Prop} {M M' : Mdl}
theorem below (q : Tv W w S F G a b g bf bg Fs M) (k : Below w.heap.size w w') : Tv W w' S F G a b g bf bg Fs M :=
  ⟨q.st.below k, q.na, q.nb, Rf.below_far q.base k, q.far, q.tf.kept k, q.tg.kept k, fun i hi => by rw [k.cell q.lt]; exact q.row i hi, Nat.lt_of_lt_of_le q.lt k.size, q.out⟩
theorem wf (q : Tv W w S F G a b g bf bg Fs M) (k : Wf Fs Fr w w') (s : St w' S Fr M') (ha : M'.isNode a ∧ Eqt (M'.tbl a) F) (hb : M'.isNode b ∧ Eqt (M'.tbl b) G) : Tv W w' S F G a b g bf bg Fr M' :=
  ⟨s, ha, hb, Wf.far q.base k q.base.size q.far, k.after q.base.size q.far,
   tab_kept q.tf q.st k, tab_kept q.tg q.st k, fun i hi => (World.cell?_of_block (a := ⟨g, i, none⟩) (k.block _ q.lt q.out)).trans (q.row i hi), Nat.lt_of_lt_of_le q.lt k.size, fun h => (k.new g h).elim q.out fun e => absurd q.lt (by omega)⟩
theorem hs (q : Tv W w S F G a b g bf bg Fs M) : Mk.HsAt w (some ⟨g, 0, none⟩) 2 (fun i => if i = 0 then a else b) := .inr ⟨g, 0, rfl, q.lt, fun i hi => by rw [Nat.zero_add]; exact q.row i hi⟩
theorem isA (q : Tv W w S F G a b g bf bg Fs M) : Calls Tryz.prog 22 #[.pointer (some ⟨S, 0, none⟩), .int .u32 (a : Int), tab F] w fun e w' => e = .returned (.bool true) ∧ Below w.heap.size w w' := by
  have := isf_any (G := F) q.st q.na.1
  rwa [same_true q.na.2] at this
theorem isB (q : Tv W w S F G a b g bf bg Fs M) : Calls Tryz.prog 22 #[.pointer (some ⟨S, 0, none⟩), .int .u32 (b : Int), tab G] w fun e w' => e = .returned (.bool true) ∧ Below w.heap.size w w' := by
  have := isf_any (G := G) q.st q.nb.1
  rwa [same_true q.nb.2] at this
end Tv
theorem idn_row (w : World) : (w.alloc (.cells #[.int .i64 0, .int .i64 1, .int .i64 2, .int .i64 3, .int .i64 4, .int .i64 5, .int .i64 6, .int .i64 7] 3)).rowIs w.heap.size 3 8 (fun i => .int .i64 (Od.idn 8 i : Int)) :=
  World.rowIs_alloc w #[.int .i64 0, .int .i64 1, .int .i64 2, .int .i64 3, .int .i64 4, .int .i64 5, .int .i64 6, .int .i64 7] 3 _ fun i hi => by
    have hi8 : i < 8 := hi
    have : i = 0 ∨ i = 1 ∨ i = 2 ∨ i = 3 ∨ i = 4 ∨ i = 5 ∨ i = 6 ∨ i = 7 := by omega
    rcases this with rfl | rfl | rfl | rfl | rfl | rfl | rfl | rfl <;> rfl
theorem only_grew' {M : Mdl} {H : Nat → Nat} {n : Nat} {xs : List Nat} (r : Mk.Rch M H n xs) : Mdl.Grew (Mk.only M xs) M := ⟨rfl, rfl, rfl, fun h hh => ⟨r.inn h hh, rfl⟩⟩
set_option maxRecDepth 100000 in
set_option maxHeartbeats 8000000 in
theorem twice_walk (F G : Nat → Bool) (z : Int) (W : World) (z0 : 0 ≤ z) :
    Calls Tryz.prog 5 #[tab F, tab G, .int .u8 z] W fun e w' => e = .returned (.bool true) ∧ Below W.heap.size W w' := by
  obtain ⟨k, hk⟩ : ∃ k : Nat, Int.tmod z 7 = (k : Int) := ⟨(z % 7).toNat, by rw [Int.tmod_eq_emod_of_nonneg z0]; omega⟩
  have k7 : k < 7 := by have := Int.tmod_lt_of_pos z (show (0 : Int) < 7 by omega); omega
  have wk1 : IntKind.u8.wrap (k : Int) = (k : Int) := by rw [IntKind.wrap_u8]; omega
  have wk2 : IntKind.i64.wrap (k : Int) = (k : Int) := by rw [IntKind.wrap_i64]; omega
  clear z0
  conv in #[tab F, tab G, Value.int .u8 z] => unfold tab
  go_enter Tryz.func5, Tryz.ntmps5
  go_upto_region 1 with fail
  obtain ⟨TF, TG, B1⟩ := boxes2' W F G
  unfold fo2 at TF TG B1
  generalize (W.alloc (.cells #[.int .u64 (word F 0 : Int), .int .u64 (word F 1 : Int), .int .u64 (word F 2 : Int), .int .u64 (word F 3 : Int)] 24)).alloc (.cells #[.int .u64 (word G 0 : Int), .int .u64 (word G 1 : Int), .int .u64 (word G 2 : Int), .int .u64 (word G 3 : Int)] 24) = w1 at TF TG B1 ⊢
  have B1A : Aside (Below W.heap.size W w1) := B1
  generalize hbg : W.heap.size + 1 = bg at TG ⊢
  generalize hbf : W.heap.size = bf at TF ⊢
  clear B1 hbg hbf
  have Kk := known_any w1
  go_upto_region 3 with (first
    | (go_at_call 8; refine Kk.mono ?_; clear Kk; rintro e w2 ⟨rfl, b2⟩))
  have B2 : Below W.heap.size W w2 := Rf.below_far B1A.out b2
  have TF2 := TF.kept b2
  have TG2 := TG.kept b2
  clear TF TG b2 B1A
  have K1 : Calls Tryz.prog 9 #[.int .i64 8, .int .i64 1000] w2 _ := s_new 8 1000 w2 (by omega) (by omega) (by omega) (by omega)
  go_upto_region 6 with (first
    | (go_at_call 9; refine K1.mono ?_; clear K1; rintro e w3 ⟨S, F3, rfl, s3, b3, f3⟩))
  have TF3 := TF2.kept b3
  have TG3 := TG2.kept b3
  have B3 := Rf.below_far B2 b3
  have f3' : ∀ k, F3 k → W.heap.size ≤ k := fun k hk => Nat.le_trans B2.size (f3 k hk)
  clear TF2 TG2 b3 f3 B2
  have K2 := make_any s3 (Dep.all s3.ok rfl F) (by decide)
  unfold tab at K2
  obtain ⟨c0, c1, c2, c3⟩ := TF3.copy
  go_upto_region 7 with (first
    | (go_at_call 13; refine K2.mono ?_; clear K2; rintro e w4 ⟨a, M4, rfl, ⟨F4, s4, g4⟩, m4⟩))
  have TF4 := tab_kept TF3 s3 g4
  have TG4 := tab_kept TG3 s3 g4
  have B4 := Wf.far B3 g4 B3.size f3'
  have f4' := g4.after B3.size f3'
  clear c0 c1 c2 c3 TF3 TG3 s3 g4 B3 f3'
  have n4 : M4.n = 8 := m4.grew.n
  have r4 : M4.room = 1000 := m4.grew.room
  have u4 : M4.up ≤ 63 := by
    have u := m4.up
    have e0 : (Mdl.empty 8 1000).up + (2 ^ ((Mdl.empty 8 1000).n - 2 - 0) - 1) = 63 := rfl
    rw [e0] at u
    exact u
  have K3 := make_any s4 (Dep.all s4.ok n4 G) (by rw [n4, r4]; omega)
  have m4A : Aside (MadeIs (Mdl.empty 8 1000) 0 F a M4 ∧ M4.up ≤ 63 ∧ M4.Ok ∧ M4.n = 8) := ⟨m4, u4, s4.ok, n4⟩
  clear m4 n4 u4 r4
  unfold tab at K3
  obtain ⟨c0, c1, c2, c3⟩ := TG4.copy
  go_upto_region 8 with (first
    | (go_at_call 13; refine K3.mono ?_; clear K3; rintro e w5 ⟨b, M5, rfl, ⟨F5, s5, g5⟩, m5⟩))
  clear c0 c1 c2 c3
  go_upto_region 9 with fail
  have q6A : Aside (Tv W (w5.alloc (.cells #[.int .u32 (a : Int), .int .u32 (b : Int)] 38)) S F G a b w5.heap.size bf bg F5 M5) := by
    have kp := Kept.grew m5.grew m4A.out.2.2.1
    have na := m4A.out.1.node
    have rw5 := World.rowIs_alloc w5 #[.int .u32 (a : Int), .int .u32 (b : Int)] 38 (fun i => .int .u32 ((if i = 0 then a else b : Nat) : Int)) fun i hi => by
      have hi2 : i < 2 := hi
      have : i = 0 ∨ i = 1 := by omega
      rcases this with rfl | rfl <;> rfl
    exact ⟨s5.new _, ⟨kp.node a na, by rw [kp.tbl na]; exact m4A.out.1.tbl⟩, ⟨m5.node, m5.tbl⟩, Rf.below_far (Wf.far B4 g5 B4.size f4') (nb w5 _), g5.after B4.size f4', (tab_kept TF4 s4 g5).alloc _, (tab_kept TG4 s4 g5).alloc _, fun i hi => rw5.cell hi, rw5.lt, fun h => Nat.lt_irrefl _ (s5.lt _ h)⟩
  have m5A : Aside (M5.n = 8 ∧ M5.room = 1000 ∧ M5.v = Od.idn 8 ∧ M5.hs.length ≤ 144 ∧ ∀ X, Has M5 X ↔ PrtT M5 (fun i => if i = 0 then F else G) 2 X) := by
    obtain ⟨h1, h2, h3, h4⟩ := m4A.out
    have u := m5.up
    have l := Mdl.len_le s5.ok
    rw [h4] at u
    exact ⟨m5.grew.n.trans h4, m5.grew.room.trans h1.grew.room, m5.grew.v.trans h1.grew.v, by have : 2 ^ (8 - 2 - 0) - 1 = 63 := rfl; omega, made_two h1 m5⟩
  clear s4 s5 g5 m5 m4A TF4 TG4 B4 f4'
  generalize w5.alloc (.cells #[.int .u32 (a : Int), .int .u32 (b : Int)] 38) = w6 at q6A ⊢
  generalize w5.heap.size = g at q6A ⊢
  have K4 := s_len q6A.out.st
  go_upto_region 10 with (first
    | (go_at_call 16; refine K4.mono ?_; clear K4; rintro e w7 ⟨rfl, q7, e7⟩; have q7A : Aside (Tv W w7 S F G a b g bf bg F5 M5) := q6A.out.below (by rw [e7]; exact ⟨rfl, rfl, rfl, Nat.le_refl _, fun _ _ => rfl⟩); clear e7))
  clear q6A
  have a32 : a < 4294967296 := by have h1 := q7A.out.st.nodes q7A.out.na.1; have h2 := q7A.out.st.room.2; omega
  have K5 := s_low q7A.out.st a a32
  have K6 := s_level q7A.out.st a a32
  rw [Mdl.levI_node q7A.out.na.1] at K6
  go_upto_region 11 with (first
    | (go_at_call 29; refine K5.mono ?_; clear K5; rintro e w8 ⟨rfl, e8⟩; subst w8)
    | (go_at_call 15; refine K6.mono ?_; clear K6; rintro e w8 ⟨rfl, e8⟩; subst w8))
  have K7 := swap_ok (k := k) q7A.out.st (by rw [m5A.out.1]; omega) (by have h1 := m5A.out.2.1; have h2 := m5A.out.2.2.2.1; have h3 : atLev M5 k ≤ M5.hs.length := List.length_filter_le _ _; omega)
  go_upto_region 12 with (first
    | (go_at_call 18; refine K7.mono ?_; clear K7; rintro e w9 ⟨rfl, F9, M9, p9, l9, s9, g9⟩))
  have kp9 := p9.kept q7A.out.st.ok
  have q9A : Aside (Tv W w9 S F G a b g bf bg F9 M9) := q7A.out.wf g9 s9 ⟨kp9.node a q7A.out.na.1, by rw [kp9.tbl q7A.out.na.1]; exact q7A.out.na.2⟩ ⟨kp9.node b q7A.out.nb.1, by rw [kp9.tbl q7A.out.nb.1]; exact q7A.out.nb.2⟩
  have p9A : Aside (Plan M5 k M9 ∧ M5.Ok ∧ M9.hs.length ≤ 432 ∧ atLev M9 k ≤ 144) := by
    have h3 : atLev M5 k ≤ M5.hs.length := List.length_filter_le _ _
    have h4 := plan_upper q7A.out.st.ok p9
    have h5 := m5A.out.2.2.2.1
    exact ⟨p9, q7A.out.st.ok, by omega, by omega⟩
  have K8 := swap_ok (k := k) q9A.out.st (by rw [p9.n, m5A.out.1]; omega) (by rw [p9.room, m5A.out.2.1]; have h1 := p9A.out.2.2.1; have h2 := p9A.out.2.2.2; omega)
  have aA : Aside (M5.isNode a ∧ a < 4294967296) := ⟨q7A.out.na.1, a32⟩
  clear kp9 p9 l9 s9 g9 q7A a32
  go_upto_region 13 with (first
    | (go_at_call 18; refine K8.mono ?_; clear K8; rintro e w10 ⟨rfl, F10, M10, p10, l10, s10, g10⟩))
  have grA : Aside (Mdl.Grew M5 M10) := twice_grew p9A.out.2.1 p9A.out.1 p10
  have kp10 := p10.kept q9A.out.st.ok
  have q10A : Aside (Tv W w10 S F G a b g bf bg F10 M10) := q9A.out.wf g10 s10 ⟨kp10.node a q9A.out.na.1, by rw [kp10.tbl q9A.out.na.1]; exact q9A.out.na.2⟩ ⟨kp10.node b q9A.out.nb.1, by rw [kp10.tbl q9A.out.nb.1]; exact q9A.out.nb.2⟩
  have o5A : Aside M5.Ok := p9A.out.2.1
  clear kp10 p10 l10 s10 g10 q9A p9A hk k7 wk1 wk2
  have nh : ∀ i, i < 2 → M10.isNode (if i = 0 then a else b) ∧ Eqt (M10.tbl (if i = 0 then a else b)) (if i = 0 then F else G) := fun i hi => by
    have : i = 0 ∨ i = 1 := by omega
    rcases this with rfl | rfl
    · exact q10A.out.na
    · exact q10A.out.nb
  have K9 := Mk.collect_yes (cap := 2) q10A.out.st q10A.out.hs (fun i hi => (nh i hi).1) (by omega)
  have nhA := (show Aside _ from nh)
  clear nh
  go_upto_region 14 with (first
    | (go_at_call 30; refine K9.mono ?_; clear K9; rintro e w11 ⟨xs, F11, rfl, r11, up11, s11, g11⟩))
  have o10 := q10A.out.st.ok
  have lenA : Aside (xs.length = M5.hs.length) := twice_len o5A.out o10 m5A.out.1 grA.out (T := fun i => if i = 0 then F else G) m5A.out.2.2.2.2 r11 up11 nhA.out
  have gox := only_grew' r11
  have ox := s11.ok
  have nax : (Mk.only M10 xs).isNode a := r11.top 0 (by omega)
  have nbx : (Mk.only M10 xs).isNode b := r11.top 1 (by omega)
  have q11A : Aside (Tv W w11 S F G a b g bf bg F11 (Mk.only M10 xs)) := q10A.out.wf g11 s11 ⟨nax, fun y hy => by rw [← gox.tbl ox nax y]; exact q10A.out.na.2 y hy⟩ ⟨nbx, fun y hy => by rw [← gox.tbl ox nbx y]; exact q10A.out.nb.2 y hy⟩
  have levA : Aside ((Mk.only M10 xs).lev a = M5.lev a) := by
    have h1 := gox.lev nax
    have h2 := grA.out.lev aA.out.1
    exact h1.symm.trans h2
  have lowA : Aside (¬ a ≤ 1 → (Mk.only M10 xs).isNode (M5.lowN a)) := fun h => by
    have hm : a ∈ M5.hs := aA.out.1.resolve_left (by omega)
    have hx : a ∈ xs := nax.resolve_left (by omega)
    rw [Mdl.lowN_in o5A.out hm]
    have := (r11.closed a hx).1
    rw [(grA.out.keep a hm).2] at this
    exact this
  have nvA : Aside ((Mk.only M10 xs).n = 8 ∧ (Mk.only M10 xs).v = Od.idn 8) := ⟨grA.out.n.trans m5A.out.1, grA.out.v.trans m5A.out.2.2.1⟩
  have l32 : M5.lowN a < 4294967296 := by
    by_cases h : a < 2
    · rw [Mdl.lowN_const h]; omega
    · have hm : a ∈ M5.hs := aA.out.1.resolve_left h
      rw [Mdl.lowN_in o5A.out hm]
      have := (o5A.out.lo a hm).1
      rcases this with q | q
      · omega
      · have := (o5A.out.range _ q).2; omega
  have KL := s_len q11A.out.st
  rw [show (Mk.only M10 xs).hs.length = M5.hs.length from lenA.out] at KL
  have KVA : Aside (∀ u, Below w11.heap.size w11 u → Calls Tryz.prog 15 #[.pointer (some ⟨S, 0, none⟩), .int .u32 (a : Int)] u fun e w' => e = .returned (.int .i64 (M5.lev a : Int)) ∧ w' = u) := fun u hu => by
    have := s_level (q11A.out.below hu).st a aA.out.2
    rwa [Mdl.levI_node q11A.out.na.1, levA.out] at this
  have KOA : Aside (∀ u, Below w11.heap.size w11 u → Calls Tryz.prog 10 #[.pointer (some ⟨S, 0, none⟩)] u fun e w' => ∃ P l, e = .returned (.pointer (some ⟨P, 0, none⟩)) ∧ Od.IsOrd w' P 8 (Od.idn 8) l ∧ Below u.heap.size u w' ∧ u.heap.size ≤ P) := fun u hu => by
    have := s_order (q11A.out.below hu).st
    rwa [nvA.out.1, nvA.out.2] at this
  have isfA : Aside (∀ u, Below w11.heap.size w11 u → Calls Tryz.prog 22 #[.pointer (some ⟨S, 0, none⟩), .int .u32 (a : Int), tab F] u fun e w' => e = .returned (.bool true) ∧ Below u.heap.size u w') := fun u hu => (q11A.out.below hu).isA
  have isgA : Aside (∀ u, Below w11.heap.size w11 u → Calls Tryz.prog 22 #[.pointer (some ⟨S, 0, none⟩), .int .u32 (b : Int), tab G] u fun e w' => e = .returned (.bool true) ∧ Below u.heap.size u w') := fun u hu => (q11A.out.below hu).isB
  have tfA : Aside (∀ u, Below w11.heap.size w11 u → IsTab u bf F ∧ IsTab u bg G) := fun u hu => ⟨(q11A.out.below hu).tf, (q11A.out.below hu).tg⟩
  have KNA : Aside (¬ a ≤ 1 → ∀ u, Below w11.heap.size w11 u → Calls Tryz.prog 31 #[.pointer (some ⟨S, 0, none⟩), .int .u32 (M5.lowN a : Int)] u fun e w' => e = .returned (.bool true) ∧ w' = u) := fun h u hu => by
    have := s_is (q11A.out.below hu).st (M5.lowN a) l32
    rwa [Mdl.nodeB_true (lowA.out h)] at this
  have BA : Aside (Below W.heap.size W w11) := q11A.out.base
  unfold tab at isfA isgA
  clear o10 gox ox nax nbx r11 up11 s11 g11 q10A q11A nhA lowA levA lenA nvA grA o5A l32
  generalize (M5.lev a : Int) = lv at KVA ⊢
  generalize (M5.hs.length : Int) = ln at KL ⊢
  generalize hlw : (M5.lowN a : Int) = lw at KNA ⊢
  clear hlw m5A
  by_cases a1 : a ≤ 1
  · have a1i : (a : Int) ≤ 1 := by omega
    clear a1 KNA aA
    go_wp2_with (first
      | (go_at_call 16; refine KL.mono ?_; clear KL; rintro e w12 ⟨rfl, q12, e12⟩; have b12 : Below w11.heap.size w11 w12 := (by rw [e12]; exact ⟨rfl, rfl, rfl, Nat.le_refl _, fun _ _ => rfl⟩); clear e12; have K10 := KVA.out w12 b12)
      | (go_at_call 15; refine K10.mono ?_; clear K10; rintro e w13 ⟨rfl, e13⟩; subst w13; have K11 := KOA.out w12 b12)
      | (go_at_call 10; refine K11.mono ?_; clear K11; rintro e w14 ⟨P, l, rfl, o14, b14, _⟩; have b15 := b12.trans (b14.mono b12.size); clear b12 b14; have K12 := Od.all_any o14 (by omega))
      | (go_at_call 11; refine K12.mono ?_; clear K12; rintro e w15 ⟨rfl, r15, b16⟩; have b17 := b15.trans (b16.mono b15.size); clear b15 b16; have b18 := b17.trans ((nb w15 (.cells #[.int .i64 0, .int .i64 1, .int .i64 2, .int .i64 3, .int .i64 4, .int .i64 5, .int .i64 6, .int .i64 7] 3)).mono b17.size); clear b17; have K13 : Calls Tryz.prog 20 #[.slice (some ⟨w14.heap.size, 0, none⟩) 8 8, .slice (some ⟨w15.heap.size, 0, none⟩) 8 8] (w15.alloc (.cells #[.int .i64 0, .int .i64 1, .int .i64 2, .int .i64 3, .int .i64 4, .int .i64 5, .int .i64 6, .int .i64 7] 3)) _ := ints_true' (n := 8) (r15.alloc _) (idn_row w15) (by omega))
      | (go_at_call 20; refine K13.mono ?_; clear K13; rintro e w16 ⟨rfl, b19⟩; have b20 := b18.trans (b19.mono b18.size); clear b18 b19; have K14 := isfA.out w16 b20; obtain ⟨d0, d1, d2, d3⟩ := (tfA.out w16 b20).1.copy)
      | (go_at_call 22; refine K14.mono ?_; clear K14; rintro e w17 ⟨rfl, b21⟩; have b22 := b20.trans (b21.mono b20.size); clear b20 b21; have K15 := isgA.out w17 b22; obtain ⟨e0, e1, e2, e3⟩ := (tfA.out w17 b22).2.copy)
      | (go_at_call 22; refine K15.mono ?_; clear K15; rintro e w18 ⟨rfl, b23⟩; have b24 := b22.trans (b23.mono b22.size); clear b22 b23))
    go_ret
    exact ⟨rfl, Rf.below_far BA.out b24⟩
  · have a1i : ¬ (a : Int) ≤ 1 := by omega
    have KN2 : Aside (∀ u, Below w11.heap.size w11 u → Calls Tryz.prog 31 #[.pointer (some ⟨S, 0, none⟩), .int .u32 lw] u fun e w' => e = .returned (.bool true) ∧ w' = u) := KNA.out a1
    clear a1 KNA aA
    go_wp2_with (first
      | (go_at_call 16; refine KL.mono ?_; clear KL; rintro e w12 ⟨rfl, q12, e12⟩; have b12 : Below w11.heap.size w11 w12 := (by rw [e12]; exact ⟨rfl, rfl, rfl, Nat.le_refl _, fun _ _ => rfl⟩); clear e12; have K10 := KVA.out w12 b12)
      | (go_at_call 15; refine K10.mono ?_; clear K10; rintro e w13 ⟨rfl, e13⟩; subst w13; have K11 := KOA.out w12 b12)
      | (go_at_call 10; refine K11.mono ?_; clear K11; rintro e w14 ⟨P, l, rfl, o14, b14, _⟩; have b15 := b12.trans (b14.mono b12.size); clear b12 b14; have K12 := Od.all_any o14 (by omega))
      | (go_at_call 11; refine K12.mono ?_; clear K12; rintro e w15 ⟨rfl, r15, b16⟩; have b17 := b15.trans (b16.mono b15.size); clear b15 b16; have b18 := b17.trans ((nb w15 (.cells #[.int .i64 0, .int .i64 1, .int .i64 2, .int .i64 3, .int .i64 4, .int .i64 5, .int .i64 6, .int .i64 7] 3)).mono b17.size); clear b17; have K13 : Calls Tryz.prog 20 #[.slice (some ⟨w14.heap.size, 0, none⟩) 8 8, .slice (some ⟨w15.heap.size, 0, none⟩) 8 8] (w15.alloc (.cells #[.int .i64 0, .int .i64 1, .int .i64 2, .int .i64 3, .int .i64 4, .int .i64 5, .int .i64 6, .int .i64 7] 3)) _ := ints_true' (n := 8) (r15.alloc _) (idn_row w15) (by omega))
      | (go_at_call 20; refine K13.mono ?_; clear K13; rintro e w16 ⟨rfl, b19⟩; have b20 := b18.trans (b19.mono b18.size); clear b18 b19; have K14 := isfA.out w16 b20; obtain ⟨d0, d1, d2, d3⟩ := (tfA.out w16 b20).1.copy)
      | (go_at_call 22; refine K14.mono ?_; clear K14; rintro e w17 ⟨rfl, b21⟩; have b22 := b20.trans (b21.mono b20.size); clear b20 b21; have K15 := isgA.out w17 b22; obtain ⟨e0, e1, e2, e3⟩ := (tfA.out w17 b22).2.copy)
      | (go_at_call 22; refine K15.mono ?_; clear K15; rintro e w18 ⟨rfl, b23⟩; have b24 := b22.trans (b23.mono b22.size); clear b22 b23; have K16 := KN2.out w18 b24)
      | (go_at_call 31; refine K16.mono ?_; clear K16; rintro e w19 ⟨rfl, e19⟩; subst w19))
    go_ret
    exact ⟨rfl, Rf.below_far BA.out b24⟩
end Go.Proofs.YteickckgljlacaaGreat.Sw
