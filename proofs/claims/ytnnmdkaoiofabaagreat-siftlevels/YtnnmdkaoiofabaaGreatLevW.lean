/-
 SiftLevels, walked.
-/
import Derived.Test.YtnnmdkaoiofabaaGreatSfT
import Derived.Deep.QuietTactic
import Derived.BigQuiet
namespace Go.Proofs.YtnnmdkaoiofabaaGreat.Sf
open Go Go.RowKit
open Rf (tab word same IsTab)
open Mk (HsAt at2)
structure LvP (xs : List Nat) (c : Nat → Nat) : Prop where
 len : xs.length = 8
 lt : ∀ i, i < 8 → xs.getD i 0 < 8
 once : ∀ i, i < 8 → xs.getD i 0 ∉ xs.take i
 by_ : ∀ i, i + 1 < 8 → c (xs.getD (i + 1) 0) < c (xs.getD i 0) ∨ (c (xs.getD i 0) = c (xs.getD (i + 1) 0) ∧ xs.getD i 0 < xs.getD (i + 1) 0)
theorem getD_at {xs : List Nat} {i : Nat} (h : i < xs.length) : xs.getD i 0 = xs[i] := by rw [List.getD_eq_getElem?_getD, List.getElem?_eq_getElem h]; rfl
theorem LvP.of {v c : Nat → Nat} {xs : List Nat} (hv : ∀ i, i < 8 → v i = i) (p : PlanIs (plK v c 8) 8 xs) : LvP xs c := by
 have inj : ∀ a b, a < 8 → b < 8 → v a = v b → a = b := fun a b ha hb e => by rw [hv a ha, hv b hb] at e; exact e
 have key : ∀ x : Nat, x < 8 → plK v c 8 (x : Int) = some (c x : Int) := fun x hx => by
  have := plK_in (c := c) inj hx
  rwa [hv x hx] at this
 have lt : ∀ i, i < 8 → xs.getD i 0 < 8 := fun i hi => by
  rw [getD_at (by rw [p.len]; exact hi)]
  exact p.lt _ (List.getElem_mem _)
 have pw := List.pairwise_iff_getElem.1 p.by_
 have ah : ∀ i j, i < j → j < 8 → c (xs.getD j 0) < c (xs.getD i 0) ∨ (c (xs.getD i 0) = c (xs.getD j 0) ∧ xs.getD i 0 < xs.getD j 0) := fun i j hij hj => by
  have hl := p.len
  obtain ⟨ka, kb, ea, eb, h⟩ := pw i j (by omega) (by omega) hij
  rw [← getD_at (xs := xs) (i := i) (by omega)] at ea h
  rw [← getD_at (xs := xs) (i := j) (by omega)] at eb h
  rw [key _ (lt i (by omega))] at ea
  rw [key _ (lt j hj)] at eb
  cases ea
  cases eb
  omega
 refine ⟨p.len, lt, fun i hi q => ?_, fun i hi => ah i (i + 1) (by omega) hi⟩
 obtain ⟨j, hj, e⟩ := List.mem_take_iff_getElem.1 q
 have hj' : j < i := Nat.lt_of_lt_of_le hj (Nat.min_le_left _ _)
 have hl := p.len
 have := ah j i hj' hi
 rw [getD_at (xs := xs) (i := j) (by omega), e] at this
 omega
theorem LvP.take {xs : List Nat} {c : Nat → Nat} (p : LvP xs c) {i : Nat} (hi : i < 8) (v : Nat) : (v ∈ xs.take (i + 1)) ↔ v = xs.getD i 0 ∨ v ∈ xs.take i := by
 have hl := p.len
 rw [List.take_add_one, List.mem_append, List.getElem?_eq_getElem (by omega), ← getD_at (by omega)]
 simp
 exact Or.comm
set_option maxRecDepth 100000 in
set_option maxHeartbeats 8000000 in
theorem levels_walk (F G : Nat → Bool) (W : World) :
  Calls Tryz.prog 7 #[tab F, tab G] W fun e w' => e = .returned (.bool true) ∧ Below W.heap.size W w' := by
 conv in #[tab F, tab G] => unfold tab
 go_enter Tryz.func7, Tryz.ntmps7
 go_upto_region 1 with fail
 obtain ⟨TF, TG, B1⟩ := boxes2' W F G
 unfold fo2 at TF TG B1
 generalize (W.alloc (.cells #[.int .u64 (word F 0 : Int), .int .u64 (word F 1 : Int), .int .u64 (word F 2 : Int), .int .u64 (word F 3 : Int)] 24)).alloc (.cells #[.int .u64 (word G 0 : Int), .int .u64 (word G 1 : Int), .int .u64 (word G 2 : Int), .int .u64 (word G 3 : Int)] 24) = w1 at TF TG B1 ⊢
 have B1A : Aside (Below W.heap.size W w1) := B1
 generalize hbg : W.heap.size + 1 = bg at TG ⊢
 generalize hbf : W.heap.size = bf at TF ⊢
 clear B1 hbg hbf
 have Kk := known_any w1
 go_upto_region 3 with (first
  | (go_at_call 8; refine Kk.mono ?_; clear Kk; rintro e w2 ⟨rfl, b2⟩))
 have B2 : Below W.heap.size W w2 := Rf.below_far B1A.out b2
 have TF2 := TF.kept b2
 have TG2 := TG.kept b2
 clear TF TG b2 B1A
 have K1 : Calls Tryz.prog 9 #[.int .i64 8, .int .i64 300] w2 _ := new_y W w2 8 300 (by omega) (by omega) (by omega) (by omega) B2
 go_upto_region 6 with (first
  | (go_at_call 9; refine K1.mono ?_; clear K1; rintro e w3 ⟨S, rfl, s3, b3⟩))
 have TF3 := TF2.kept b3
 have TG3 := TG2.kept b3
 clear TF2 TG2 b3 B2
 have K2 := make_y s3 (by omega) F
 unfold tab at K2
 obtain ⟨c0, c1, c2, c3⟩ := TF3.copy
 clear s3
 go_upto_region 7 with (first
  | (go_at_call 11; refine K2.mono ?_; clear K2; rintro e w4 ⟨a, rfl, s4, o4⟩))
 have TG4 := out_tab o4 TG3
 clear c0 c1 c2 c3 TF3 TG3 o4
 have K3 := make_y s4 (by omega) G
 unfold tab at K3
 obtain ⟨c0, c1, c2, c3⟩ := TG4.copy
 clear s4
 go_upto_region 8 with (first
  | (go_at_call 11; refine K3.mono ?_; clear K3; rintro e w5 ⟨b, rfl, s5, o5⟩))
 clear c0 c1 c2 c3 TG4 o5
 obtain ⟨F5, M5, s5, n5, _, v5, _, k5, B5, f5⟩ := s5
 have n8 : M5.n = 8 := n5
 have all : ∀ i, i < 2 → M5.isNode (at2 a b i) := fun i hi => by
  have : i = 0 ∨ i = 1 := by omega
  rcases this with rfl | rfl
  ·exact (k5 (a, F) (by simp)).1
  ·exact (k5 (b, G) (by simp)).1
 have lt2 : ∀ i, i < 2 → at2 a b i < 4294967296 := fun i hi => lt32 s5.ok (all i hi)
 have KP : Aside (∀ u, Below w5.heap.size w5 u → Calls Tryz.prog 16 #[.pointer (some ⟨S, 0, none⟩), .slice (some ⟨u.heap.size, 0, none⟩) 2 2] (u.alloc (.cells #[.int .u32 (a : Int), .int .u32 (b : Int)] 36)) fun e w' => ∃ ad' cap' xs ks, e = .returned (.tuple #[.slice ad' 8 cap', .int .i64 0]) ∧ Aside (ks.Nodup ∧ Rch M5 (at2 a b) 2 ks ∧ PlanIs (plK (Od.idn 8) (lvN M5 ks) 8) 8 xs) ∧ OwnR 3 w' (u.alloc (.cells #[.int .u32 (a : Int), .int .u32 (b : Int)] 36)).heap.size ad' 8 cap' (fun i => .int .i64 (xs.getD i 0 : Nat)) ∧ Below (u.alloc (.cells #[.int .u32 (a : Int), .int .u32 (b : Int)] 36)).heap.size (u.alloc (.cells #[.int .u32 (a : Int), .int .u32 (b : Int)] 36)) w') := fun u hu => by
  have := plan_yes (cap := 2) ((s5.below hu).new (.cells #[.int .u32 (a : Int), .int .u32 (b : Int)] 36)) (Mk.hs_two u a b) all (by omega)
  rw [n8, v5] at this
  refine this.mono ?_
  rintro e w' ⟨ad', cap', xs, ks, rfl, h1, h2, h3, h4, h5⟩
  exact ⟨ad', cap', xs, ks, rfl, ⟨h1, h2, h3⟩, h4, h5⟩
 have KL : Aside (∀ u, Below w5.heap.size w5 u → Calls Tryz.prog 34 #[.pointer (some ⟨S, 0, none⟩), .slice (some ⟨u.heap.size, 0, none⟩) 2 2] (u.alloc (.cells #[.int .u32 (a : Int), .int .u32 (b : Int)] 36)) fun e w' => ∃ g ks, e = .returned (.tuple #[.slice (some ⟨g, 0, none⟩) 8 8, .int .i64 0]) ∧ Aside (ks.Nodup ∧ Rch M5 (at2 a b) 2 ks) ∧ w'.rowIs g 3 8 (fun i => .int .i64 (lvN M5 ks i : Int)) ∧ Below (u.alloc (.cells #[.int .u32 (a : Int), .int .u32 (b : Int)] 36)).heap.size (u.alloc (.cells #[.int .u32 (a : Int), .int .u32 (b : Int)] 36)) w') := fun u hu => by
  refine (levels_op (cap := 2) ((s5.below hu).new (.cells #[.int .u32 (a : Int), .int .u32 (b : Int)] 36)) (Mk.hs_two u a b) lt2 (by omega)).mono ?_
  rintro e w' ⟨(⟨_, g, ks, nd, rc, rfl, row, _⟩ | ⟨⟨i, hi, q⟩, _⟩), B⟩
  ·rw [n8] at row
   exact ⟨g, ks, by rw [n8], ⟨nd, rc⟩, row, B⟩
  ·exact absurd (all i hi) q
 have B5A : Aside (Below W.heap.size W w5) := B5
 have okA : Aside M5.Ok := s5.ok
 clear s5 n5 v5 k5 B5 f5 n8 all lt2
 have K4 := KP.out w5 (Below.refl _ _)
 go_upto_region 9 with (first
  | (go_at_call 16; refine K4.mono ?_; clear K4; rintro e w6 ⟨adp, capp, xs, ks, rfl, pA, ow6, b6⟩))
 have B6A : Aside (Below w5.heap.size w5 w6) := Rf.below_far (nb w5 _) b6
 have K5 := KL.out w6 B6A.out
 clear b6 KP KL
 go_upto_region 10 with (first
  | (go_at_call 34; refine K5.mono ?_; clear K5; rintro e w7 ⟨gl, ks', rfl, lA, row7, b7⟩))
 have B67 : Below w6.heap.size w6 w7 := Rf.below_far (nb w6 _) b7
 have z7 : Od.IntsAt w7 adp 8 (fun i => (xs.getD i 0 : Nat)) := (own_ints ow6).below B67
 have B7A : Aside (Below W.heap.size W w7) := Rf.below_far (Rf.below_far B5A.out B6A.out) B67
 obtain ⟨c, hc⟩ : ∃ c, lvN M5 ks' = c := ⟨_, rfl⟩
 have lp : LvP xs c := by
  have e : lvN M5 ks = c := by
   rw [← hc]
   refine funext fun i => lvN_perm pA.out.1 lA.out.1 (fun k => ⟨fun hk => ?_, fun hk => ?_⟩) i
   ·exact (root_rch pA.out.2.1 pA.out.1).le okA.out lA.out.2.top lA.out.2.closed k hk
   ·exact (root_rch lA.out.2 lA.out.1).le okA.out pA.out.2.1.top pA.out.2.1.closed k hk
  have := pA.out.2.2
  rw [e] at this
  exact LvP.of (fun i hi => by unfold Od.idn; rw [if_pos hi]) this
 rw [hc] at row7
 have lpA : Aside (LvP xs c) := lp
 obtain ⟨bz, oz, rfl, hbz, hcz⟩ := z7.resolve_left (by omega)
 have zA : Aside (bz < w7.heap.size ∧ ∀ i, i < 8 → w7.cell? ⟨bz, oz + i, none⟩ = some (.int .i64 (xs.getD i 0 : Nat))) := ⟨hbz, hcz⟩
 have rA : Aside (w7.rowIs gl 3 8 (fun i => .int .i64 (c i : Int))) := row7
 clear pA lA row7 b7 B67 ow6 B6A B5A okA hc lp hbz hcz
 go_upto_region 13 with fail
 have sn0 : (w7.alloc (.cells #[.bool false, .bool false, .bool false, .bool false, .bool false, .bool false, .bool false, .bool false] 71)).rowIs w7.heap.size 71 8 (fun v => .bool (decide (v ∈ xs.take 0))) :=
  World.rowIs_alloc w7 #[.bool false, .bool false, .bool false, .bool false, .bool false, .bool false, .bool false, .bool false] 71 _ fun i hi => by
   have hi8 : i < 8 := hi
   have : i = 0 ∨ i = 1 ∨ i = 2 ∨ i = 3 ∨ i = 4 ∨ i = 5 ∨ i = 6 ∨ i = 7 := by omega
   rcases this with rfl | rfl | rfl | rfl | rfl | rfl | rfl | rfl <;> rfl
 have B8 : Below w7.heap.size w7 (w7.alloc (.cells #[.bool false, .bool false, .bool false, .bool false, .bool false, .bool false, .bool false, .bool false] 71)) := nb w7 _
 generalize (w7.alloc (.cells #[.bool false, .bool false, .bool false, .bool false, .bool false, .bool false, .bool false, .bool false] 71)) = w8 at sn0 B8 ⊢
 obtain ⟨sb, hsb⟩ : ∃ sb, w7.heap.size = sb := ⟨_, rfl⟩
 have sbA : Aside (w7.heap.size = sb) := hsb
 rw [hsb] at sn0
 conv in (occs := *) (Value.pointer (some ⟨w7.heap.size, 0, none⟩)) => all_goals rw [hsb]
 clear hsb
 have stA : Aside (w8.rowIs sb 71 8 (fun v => .bool (decide (v ∈ xs.take 0))) ∧ Below w7.heap.size w7 w8) := ⟨sn0, B8⟩
 clear sn0 B8
 go_wp2_with fail
 go_loopg [16] 8 (fun gg s16 wr => ∃ i : Nat, i + gg = 8 ∧ s16 = .int .i64 (i : Int) ∧ Aside (wr.rowIs sb 71 8 (fun v => .bool (decide (v ∈ xs.take i))) ∧ Below w7.heap.size w7 wr))
 case atStart => exact ⟨0, by omega, rfl, stA⟩
 case round =>
  clear stA
  obtain ⟨i, hi, rfl, hR⟩ := hrel
  have hiA : Aside (i + gk = 8) := hi
  have hi8 : i ≤ 8 := by omega
  clear hi
  by_cases hlt : i < 8
  ·have hlt' : (i : Int) < 8 := by omega
   have hltA : Aside (i < 8) := hlt
   obtain ⟨x, hx⟩ : ∃ x, xs.getD i 0 = x := ⟨_, rfl⟩
   have x8 : x < 8 := by rw [← hx]; exact lpA.out.lt i hlt
   have ca : wr.cell? ⟨bz, oz + i, none⟩ = some (.int .i64 (x : Int)) := by
    rw [← hx, ← zA.out.2 i hlt]
    exact World.cell?_of_block (a := ⟨bz, oz + i, none⟩) (hR.out.2.block bz zA.out.1)
   have cn : wr.cell? ⟨gl, x, none⟩ = some (.int .i64 (c x : Int)) := by
    rw [← rA.out.cell x8]
    exact World.cell?_of_block (a := ⟨gl, x, none⟩) (hR.out.2.block gl rA.out.lt)
   have cs : wr.cell? ⟨sb, x, none⟩ = some (.bool false) := by
    rw [hR.out.1.cell x8, decide_eq_false (by rw [← hx]; exact lpA.out.once i hlt)]
   have fs := hR.out.1.frozen x
   have x0' : decide ((x : Int) < 0) = false := decide_eq_false (by omega)
   have x0 : ¬ (x : Int) < 0 := by omega
   have x7' : decide ((7 : Int) < (x : Int)) = false := decide_eq_false (by omega)
   have x7 : ¬ (7 : Int) < (x : Int) := by omega
   have xl : (x : Int) < 8 := by omega
   have hjw : IntKind.i64.wrap ((i : Int) + 1) = (i : Int) + 1 := by rw [IntKind.wrap_i64]; omega
   have nextA : Aside (∀ q : Nat, ((wr.drewN q).setCell ⟨sb, x, none⟩ (.bool true)).rowIs sb 71 8 (fun v => .bool (decide (v ∈ xs.take (i + 1)))) ∧ Below w7.heap.size w7 ((wr.drewN q).setCell ⟨sb, x, none⟩ (.bool true))) := fun q => by
    have h1 : (wr.drewN q).rowIs sb 71 8 (fun v => .bool (decide (v ∈ xs.take i))) := hR.out.1
    refine ⟨(h1.set x (.bool true)).congr fun v hv => ?_, hR.out.2.trans ⟨rfl, rfl, rfl, by simp [World.setCell, World.drewN], fun k hk => Below.heap_setCell _ _ _ _ (show k ≠ sb by have := sbA.out; omega)⟩⟩
    by_cases e : v = x
    ·rw [if_pos e, decide_eq_true ((lpA.out.take hlt v).2 (.inl (by rw [hx]; exact e)))]
    ·rw [if_neg e]
     have : (v ∈ xs.take (i + 1)) ↔ v ∈ xs.take i := by
      rw [lpA.out.take hlt v, hx]
      exact ⟨fun h => h.resolve_left e, .inr⟩
     rw [decide_eq_decide.2 this]
   by_cases first : i = 0
   ·have i0 : decide ((0 : Int) < (i : Int)) = false := decide_eq_false (by omega)
    have i0' : ¬ (0 : Int) < (i : Int) := by omega
    have i0n : decide (0 < i) = false := decide_eq_false (by omega)
    have i0m : ¬ 0 < i := by omega
    clear hlt hx x8 first hR
    go_wp2_with fail
    go_quiet (fail)
    go_wp2_with fail
    go_roundg (gk - 1)
    case measure => have := hiA.out; have := hltA.out; omega
    case rel =>
     have := hiA.out
     have := hltA.out
     exact ⟨i + 1, by omega, by go_num, nextA.out nq⟩
   ·obtain ⟨j, hj⟩ : ∃ j, i = j + 1 := ⟨i - 1, by omega⟩
    have i0 : decide ((0 : Int) < (i : Int)) = true := decide_eq_true (by omega)
    have i0' : (0 : Int) < (i : Int) := by omega
    have i0n : decide (0 < i) = true := decide_eq_true (by omega)
    have i0m : 0 < i := by omega
    obtain ⟨y, hy⟩ : ∃ y, xs.getD j 0 = y := ⟨_, rfl⟩
    have y8 : y < 8 := by rw [← hy]; exact lpA.out.lt j (by omega)
    have cb : wr.cell? ⟨bz, oz + j, none⟩ = some (.int .i64 (y : Int)) := by
     rw [← hy, ← zA.out.2 j (by omega)]
     exact World.cell?_of_block (a := ⟨bz, oz + j, none⟩) (hR.out.2.block bz zA.out.1)
    have cm : wr.cell? ⟨gl, y, none⟩ = some (.int .i64 (c y : Int)) := by
     rw [← rA.out.cell y8]
     exact World.cell?_of_block (a := ⟨gl, y, none⟩) (hR.out.2.block gl rA.out.lt)
    have ah := lpA.out.by_ j (by omega)
    rw [← hj, hx, hy] at ah
    have yl : (y : Int) < 8 := by omega
    have jl : (j : Int) < 8 := by omega
    have hwj : IntKind.i64.wrap ((i : Int) - 1) = (j : Int) := by rw [IntKind.wrap_i64]; omega
    obtain ⟨p, hp⟩ : ∃ p : Int, (c x : Int) = p := ⟨_, rfl⟩
    obtain ⟨q, hq⟩ : ∃ q : Int, (c y : Int) = q := ⟨_, rfl⟩
    rcases ah with ah | ⟨ah, hyx⟩
    ·have g1 : decide (q < p) = false := decide_eq_false (by omega)
     have g2 : ¬ q < p := by omega
     have g3 : decide (p = q) = false := decide_eq_false (by omega)
     have g4 : ¬ p = q := by omega
     rw [hp] at cn
     rw [hq] at cm
     clear hlt hx x8 first hR hy y8 ah hp hq hj
     go_wp2_with fail
     go_quiet (fail)
     go_wp2_with fail
     go_roundg (gk - 1)
     case measure => have := hiA.out; have := hltA.out; omega
     case rel =>
      have := hiA.out
      have := hltA.out
      exact ⟨i + 1, by omega, by go_num, nextA.out nq⟩
    ·have g1 : decide (q < p) = false := decide_eq_false (by omega)
     have g2 : ¬ q < p := by omega
     have g3 : decide (p = q) = true := decide_eq_true (by omega)
     have g4 : p = q := by omega
     have g5 : decide ((x : Int) < (y : Int)) = false := decide_eq_false (by omega)
     have g6 : ¬ (x : Int) < (y : Int) := by omega
     have g7 : decide (x < y) = false := decide_eq_false (by omega)
     have g8 : ¬ x < y := by omega
     rw [hp] at cn
     rw [hq] at cm
     clear hlt hx x8 first hR hy y8 ah hp hq hj hyx
     subst g4
     go_wp2_with fail
     go_quiet (fail)
     go_wp2_with fail
     go_roundg (gk - 1)
     case measure => have := hiA.out; have := hltA.out; omega
     case rel =>
      have := hiA.out
      have := hltA.out
      exact ⟨i + 1, by omega, by go_num, nextA.out nq⟩
  ·have hlt' : ¬ (i : Int) < 8 := by omega
   have Bf : Aside (Below W.heap.size W wr) := Rf.below_far B7A.out hR.out.2
   clear hlt hR
   go_wp2_with fail
   go_ret
   exact ⟨rfl, Bf.out⟩
end Go.Proofs.YtnnmdkaoiofabaaGreat.Sf
