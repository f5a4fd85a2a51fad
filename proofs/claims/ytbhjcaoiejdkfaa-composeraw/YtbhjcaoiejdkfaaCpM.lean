/-
  Package compose: a walk in memory and as a value; its inputs; node, low, high.
-/
import Derived.Test.YtbhjcaoiejdkfaaCpP
import Derived.Test.YtbhjcaoiejdkfaaLgc
import Derived.Deep.RegionHeld3
import Derived.Deep.LoopGhost
import Derived.BigQuiet
namespace Go.Proofs.Ytbhjcaoiejdkfaa
open Go Go.RowKit
open Rf (fixAt fixF)

/-! ## Values -/
/-- An input as a value. -/
def inA (t : Nd) : Array Value := #[.int .i64 (t.1 : Int), .int .u32 (t.2.1 : Int), .int .u32 (t.2.2 : Int)]
/-- The cells of a walk. -/
def wcell (S : Nat) (I : Nat → Nd) (k : Nat) : Value :=
  if k = 0 then .pointer (some ⟨S, 0, none⟩) else if (k - 1) % 3 = 0 then .int .i64 ((I ((k - 1) / 3)).1 : Int) else if (k - 1) % 3 = 1 then .int .u32 ((I ((k - 1) / 3)).2.1 : Int) else .int .u32 ((I ((k - 1) / 3)).2.2 : Int)
def wA (S : Nat) (I : Nat → Nd) : Array Value := ((List.range 25).map (wcell S I)).toArray
/-- Its inputs. -/
def wI (I : Nat → Nd) : Array Value := ((List.range 24).map fun k => wcell 0 I (k + 1)).toArray
section
variable {S i k : Nat} {I J : Nat → Nd}
theorem wA_size : (wA S I).size = 25 := by simp [wA]
theorem wI_size : (wI I).size = 24 := by simp [wI]
theorem wA_at (hk : k < 25) : (wA S I)[k]? = some (wcell S I k) := by simp [wA, hk]
theorem wI_at (hk : k < 24) : (wI I)[k]? = some (wcell 0 I (k + 1)) := by simp [wI, hk]
theorem wcell_in (S T : Nat) (I : Nat → Nd) (k : Nat) : wcell S I (k + 1) = wcell T I (k + 1) := by simp [wcell]
theorem wcell_lev (S : Nat) (I : Nat → Nd) (i : Nat) : wcell S I (1 + 3 * i) = .int .i64 ((I i).1 : Int) := by
  unfold wcell
  rw [if_neg (by omega), if_pos (by omega), show (1 + 3 * i - 1) / 3 = i by omega]
theorem wcell_lo (S : Nat) (I : Nat → Nd) (i : Nat) : wcell S I (1 + 3 * i + 1) = .int .u32 ((I i).2.1 : Int) := by
  unfold wcell
  rw [if_neg (by omega), if_neg (by omega), if_pos (by omega), show (1 + 3 * i + 1 - 1) / 3 = i by omega]
theorem wcell_hi (S : Nat) (I : Nat → Nd) (i : Nat) : wcell S I (1 + 3 * i + 2) = .int .u32 ((I i).2.2 : Int) := by
  unfold wcell
  rw [if_neg (by omega), if_neg (by omega), if_neg (by omega), show (1 + 3 * i + 2 - 1) / 3 = i by omega]
theorem wcell_one (S : Nat) (I : Nat → Nd) (k : Nat) : (wcell S I k).oneCell' = true := by
  unfold wcell
  split
  · rfl
  · split
    · rfl
    · split <;> rfl
theorem wA_one : (wA S I).all (·.oneCell') = true := by
  rw [Array.all_eq_true]
  intro i hi
  simp [wA, wcell_one]
theorem wA_congr (e : ∀ i, i < 8 → I i = J i) : wA S I = wA S J := by
  unfold wA
  congr 1
  refine List.map_congr_left fun k hk => ?_
  have hk := List.mem_range.1 hk
  unfold wcell
  by_cases c : k = 0
  · rw [if_pos c, if_pos c]
  · rw [if_neg c, if_neg c, e _ (by omega)]
/-- One input out of all of them. -/
theorem wI_part (hi : i < 8) : (wI I).extract (i * 3) (i * 3 + 3) = inA (I i) := by
  apply Array.ext_getElem?
  intro k
  rw [Array.getElem?_extract]
  by_cases hk : k < 3
  · rw [if_pos (by rw [wI_size]; omega), wI_at (by omega)]
    have : k = 0 ∨ k = 1 ∨ k = 2 := by omega
    rcases this with rfl | rfl | rfl
    · rw [show i * 3 + 0 + 1 = 1 + 3 * i by omega, wcell_lev]; rfl
    · rw [show i * 3 + 1 + 1 = 1 + 3 * i + 1 by omega, wcell_lo]; rfl
    · rw [show i * 3 + 2 + 1 = 1 + 3 * i + 2 by omega, wcell_hi]; rfl
  · rw [if_neg (by rw [wI_size]; omega)]
    unfold inA
    simp
    omega
end

/-! ## In memory -/
/-- A block that holds a walk. -/
def IsW (w : World) (g S : Nat) (I : Nat → Nd) : Prop := w.heap[g]? = some (.cells (wA S I) 82 (0, 0))
/-- A block that holds an input. -/
def IsN (w : World) (g : Nat) (t : Nd) : Prop := w.heap[g]? = some (.cells #[.int .i64 (t.1 : Int), .int .u32 (t.2.1 : Int), .int .u32 (t.2.2 : Int)] 79 (0, 0))
section
variable {w w' : World} {g S i : Nat} {I : Nat → Nd} {t : Nd} {F0 F' : Nat → Prop} {M : Mdl}
theorem IsW.new (w : World) (S : Nat) (I : Nat → Nd) : IsW (w.alloc (.cells (wA S I) 82)) w.heap.size S I := Go.Deep.blk_alloc_new _ _
theorem IsW.lt (h : IsW w g S I) : g < w.heap.size := (Array.getElem?_eq_some_iff.1 h).1
theorem IsW.below (h : IsW w g S I) (k : Below w.heap.size w w') : IsW w' g S I := (k.block _ h.lt).trans h
theorem IsW.wf (h : IsW w g S I) (s : St w S F0 M) (k : Wf F0 F' w w') : IsW w' g S I := (k.block _ h.lt (s.row h (by decide))).trans h
theorem IsW.cell (h : IsW w g S I) {k : Nat} (hk : k < 25) : w.cell? ⟨g, k, none⟩ = some (wcell S I k) := by
  unfold IsW at h
  simp [World.cell?, h, wA_at hk]
theorem IsW.free (h : IsW w g S I) (k : Nat) : w.frozen? ⟨g, k, none⟩ = false := by
  unfold IsW at h
  simp [World.frozen?, h]
theorem IsW.store (h : IsW w g S I) : w.cell? ⟨g, 0, none⟩ = some (.pointer (some ⟨S, 0, none⟩)) := h.cell (k := 0) (by omega)
theorem IsW.lev (h : IsW w g S I) (hi : i < 8) : w.cell? ⟨g, 1 + i * 3, none⟩ = some (.int .i64 ((I i).1 : Int)) := by
  rw [h.cell (by omega), show 1 + i * 3 = 1 + 3 * i by omega, wcell_lev]
theorem IsW.lo (h : IsW w g S I) (hi : i < 8) : w.cell? ⟨g, 1 + i * 3 + 1, none⟩ = some (.int .u32 ((I i).2.1 : Int)) := by
  rw [h.cell (by omega), show 1 + i * 3 + 1 = 1 + 3 * i + 1 by omega, wcell_lo]
theorem IsW.hi (h : IsW w g S I) (hi : i < 8) : w.cell? ⟨g, 1 + i * 3 + 2, none⟩ = some (.int .u32 ((I i).2.2 : Int)) := by
  rw [h.cell (by omega), show 1 + i * 3 + 2 = 1 + 3 * i + 2 by omega, wcell_hi]
theorem IsN.new (w : World) (t : Nd) : IsN (w.alloc (.cells #[.int .i64 (t.1 : Int), .int .u32 (t.2.1 : Int), .int .u32 (t.2.2 : Int)] 79)) w.heap.size t := Go.Deep.blk_alloc_new _ _
theorem IsN.lt (h : IsN w g t) : g < w.heap.size := (Array.getElem?_eq_some_iff.1 h).1
theorem IsN.below (h : IsN w g t) (k : Below w.heap.size w w') : IsN w' g t := (k.block _ h.lt).trans h
theorem IsN.drew (h : IsN w g t) : IsN w.drew g t := h
theorem IsN.cells (h : IsN w g t) : w.cell? ⟨g, 0, none⟩ = some (.int .i64 (t.1 : Int)) ∧ w.cell? ⟨g, 1, none⟩ = some (.int .u32 (t.2.1 : Int)) ∧ w.cell? ⟨g, 2, none⟩ = some (.int .u32 (t.2.2 : Int)) := by
  unfold IsN at h
  refine ⟨?_, ?_, ?_⟩ <;> simp [World.cell?, h]
/-- Three cells of a walk turned. -/
def laidI (w : World) (g i : Nat) (t : Nd) : World := ((w.setCell ⟨g, 1 + i * 3, none⟩ (.int .i64 (t.1 : Int))).setCell ⟨g, 1 + i * 3 + 1, none⟩ (.int .u32 (t.2.1 : Int))).setCell ⟨g, 1 + i * 3 + 2, none⟩ (.int .u32 (t.2.2 : Int))
def putI (I : Nat → Nd) (i : Nat) (t : Nd) : Nat → Nd := fun j => if j = i then t else I j
theorem laidI_turned (w : World) (g i : Nat) (t : Nd) : Rf.Turned g w (laidI w g i t) := by
  unfold laidI
  refine ⟨rfl, rfl, rfl, by simp [World.setCell], fun k _ hk => ?_⟩
  rw [Below.heap_setCell _ _ _ _ hk, Below.heap_setCell _ _ _ _ hk, Below.heap_setCell _ _ _ _ hk]
theorem IsW.laid (h : IsW w g S I) (i : Nat) (t : Nd) : IsW (laidI w g i t) g S (putI I i t) := by
  have r0 : w.rowIs g 82 25 (wcell S I) := ⟨_, h, wA_size, fun k hk => wA_at hk⟩
  have r1 := ((r0.set (1 + i * 3) (.int .i64 (t.1 : Int))).set (1 + i * 3 + 1) (.int .u32 (t.2.1 : Int))).set (1 + i * 3 + 2) (.int .u32 (t.2.2 : Int))
  obtain ⟨c, hb, hs, hc⟩ := r1
  have e : c = wA S (putI I i t) := by
    apply Array.ext_getElem?
    intro k
    by_cases hk : k < 25
    · rw [hc k hk, wA_at hk]
      congr 1
      show (if k = 1 + i * 3 + 2 then _ else if k = 1 + i * 3 + 1 then _ else if k = 1 + i * 3 then _ else wcell S I k) = _
      by_cases c2 : k = 1 + i * 3 + 2
      · rw [if_pos c2, c2, show 1 + i * 3 + 2 = 1 + 3 * i + 2 by omega, wcell_hi]
        unfold putI
        rw [if_pos rfl]
      · rw [if_neg c2]
        by_cases c1 : k = 1 + i * 3 + 1
        · rw [if_pos c1, c1, show 1 + i * 3 + 1 = 1 + 3 * i + 1 by omega, wcell_lo]
          unfold putI
          rw [if_pos rfl]
        · rw [if_neg c1]
          by_cases c0 : k = 1 + i * 3
          · rw [if_pos c0, c0, show 1 + i * 3 = 1 + 3 * i by omega, wcell_lev]
            unfold putI
            rw [if_pos rfl]
          · rw [if_neg c0]
            unfold wcell putI
            by_cases z : k = 0
            · rw [if_pos z, if_pos z]
            · rw [if_neg z, if_neg z, if_neg (show ¬ (k - 1) / 3 = i by omega)]
    · rw [Array.getElem?_eq_none (by omega), Array.getElem?_eq_none (by rw [wA_size]; omega)]
  unfold IsW
  rw [← e]
  exact hb
end
/-! ## node, low, high -/
/-- All but one block are as they were, and that one has room for an input. -/
structure SitN (w : World) (r : Nat) (u : World) : Prop where
  turned : Rf.Turned r w u
  room : ∃ x y z : Value, u.heap[r]? = some (.cells #[x, y, z] 79 (0, 0))
def laidN (w : World) (r : Nat) (t : Nd) : World := ((w.setCell ⟨r, 0, none⟩ (.int .i64 (t.1 : Int))).setCell ⟨r, 1, none⟩ (.int .u32 (t.2.1 : Int))).setCell ⟨r, 2, none⟩ (.int .u32 (t.2.2 : Int))
theorem laidN_turned (w : World) (r : Nat) (t : Nd) : Rf.Turned r w (laidN w r t) := by
  unfold laidN
  refine ⟨rfl, rfl, rfl, by simp [World.setCell], fun k _ hk => ?_⟩
  rw [Below.heap_setCell _ _ _ _ hk, Below.heap_setCell _ _ _ _ hk, Below.heap_setCell _ _ _ _ hk]
theorem laidN_is {w : World} {r : Nat} (h : ∃ x y z : Value, w.heap[r]? = some (.cells #[x, y, z] 79 (0, 0))) (t : Nd) : IsN (laidN w r t) r t := by
  obtain ⟨x, y, z, h⟩ := h
  unfold laidN IsN
  simp [World.setCell, Array.getElem?_modify, h]
theorem SitN.laid {w u : World} {r : Nat} (s : SitN w r u) (t : Nd) : SitN w r (laidN u r t) := by
  have q := laidN_turned u r t
  exact ⟨⟨q.os.trans s.turned.os, q.tape.trans s.turned.tape, q.output.trans s.turned.output, Nat.le_trans s.turned.size q.size, fun i hi hne => (q.block i (Nat.lt_of_lt_of_le hi s.turned.size) hne).trans (s.turned.block i hi hne)⟩, _, _, _, laidN_is s.room t⟩
theorem SitN.drew {w u : World} {r : Nat} (s : SitN w r u) : SitN w r u.drew := ⟨⟨s.turned.os, s.turned.tape, s.turned.output, s.turned.size, s.turned.block⟩, s.room⟩
theorem results_in {fn : Func} {p : Tmp} (h : fn.results = #[.cell p 79]) {tmps : Array Value} {w : World} {g : Nat} {t : Nd} (hp : tmps.getD p undef = .pointer (some ⟨g, 0, none⟩)) (i : IsN w g t) :
    (results fn tmps).run Try.prog w = .ok (.agg (inA t)) w := by
  obtain ⟨c0, c1, c2⟩ := i.cells
  rw [Rf.results_cell1 h, hp]
  unfold inA
  go_simp
section
variable {w : World} {S h : Nat} {F0 : Nat → Prop} {M : Mdl} {I : Nat → Nd} {t : Nd}
set_option maxRecDepth 100000 in
set_option maxHeartbeats 1000000 in
theorem cnode_any (s : St w S F0 M) (hh : M.isNode h) : Calls Try.prog 34 #[.agg (wA S I), .int .u32 (h : Int)] w fun e w' => e = .returned (.agg (inA (nodeI M h))) ∧ Below w.heap.size w w' := by
  obtain ⟨R, hR⟩ : ∃ R, Value.agg (inA (nodeI M h)) = R := ⟨_, rfl⟩
  have hRA : Aside (R = Value.agg (inA (nodeI M h))) := hR.symm
  rw [hR]
  clear hR
  have hb := Mdl.isNode_lt s.ok hh
  have KL : Aside (∀ u, St u S F0 M → Calls Try.prog 19 #[.pointer (some ⟨S, 0, none⟩), .int .u32 (h : Int)] u fun e w' => e = .returned (.int .i64 ((nodeI M h).1 : Int)) ∧ w' = u) := fun u su => lv_any su hh
  have K0 : Aside (∀ u, St u S F0 M → Calls Try.prog 46 #[.pointer (some ⟨S, 0, none⟩), .int .u32 (h : Int)] u fun e w' => e = .returned (.int .u32 ((nodeI M h).2.1 : Int)) ∧ w' = u) := fun u su => s_low su h (by omega)
  have K1 : Aside (∀ u, St u S F0 M → Calls Try.prog 20 #[.pointer (some ⟨S, 0, none⟩), .int .u32 (h : Int)] u fun e w' => e = .returned (.int .u32 ((nodeI M h).2.2 : Int)) ∧ w' = u) := fun u su => s_high su h (by omega)
  generalize nodeI M h = t at hRA KL K0 K1
  clear hb hh
  go_enter Try.func34, Try.ntmps34
  go_upto_region 1 with fail
  have i4 := (IsW.new w S I).below (nb _ (.cells #[.int .i64 0, .int .u32 0, .int .u32 0] 79))
  have B4 : Aside (Below w.heap.size w ((w.alloc (.cells (wA S I) 82)).alloc (.cells #[.int .i64 0, .int .u32 0, .int .u32 0] 79))) := ((Below.refl _ w).alloc (Nat.le_refl _) _).alloc (by simp) _
  have r4 : ((w.alloc (.cells (wA S I) 82)).alloc (.cells #[.int .i64 0, .int .u32 0, .int .u32 0] 79)).heap[w.heap.size + 1]? = some (.cells #[.int .i64 0, .int .u32 0, .int .u32 0] 79 (0, 0)) := by
    have := Go.Deep.blk_alloc_new (w.alloc (.cells (wA S I) 82)) (.cells #[.int .i64 0, .int .u32 0, .int .u32 0] 79)
    simpa using this
  have s4 := s.below B4.out
  have fk : ∀ k, F0 k → k ≠ w.heap.size + 1 := fun k hk => by have := s.lt k hk; omega
  generalize (w.alloc (.cells (wA S I) 82)).alloc (.cells #[.int .i64 0, .int .u32 0, .int .u32 0] 79) = w4 at i4 B4 r4 s4 ⊢
  have st0 : SitN w4 (w.heap.size + 1) w4.drew := ⟨⟨rfl, rfl, rfl, Nat.le_refl _, fun _ _ _ => rfl⟩, _, _, _, r4⟩
  have stw : SitN w4 (w.heap.size + 1) w4 := ⟨Rf.Turned.refl _ _, _, _, _, r4⟩
  have lc0 : ∀ u, SitN w4 (w.heap.size + 1) u → u.cell? ⟨w.heap.size, 0, none⟩ = some (.pointer (some ⟨S, 0, none⟩)) := fun u su => IsW.store (I := I) ((su.turned.block _ i4.lt (by omega)).trans i4)
  have hS : ∀ u, SitN w4 (w.heap.size + 1) u → St u S F0 M := fun u su => s4.kept fun k hk => su.turned.block k (s4.lt k hk) (fk k hk)
  have Ka := fun u su => KL.out u (hS u su)
  have Kb := fun u su => K0.out u (hS u su)
  have Kc := fun u su => K1.out u (hS u su)
  obtain ⟨r, hr⟩ : ∃ r, w.heap.size + 1 = r := ⟨_, rfl⟩
  have hrA : Aside (w.heap.size + 1 = r) := hr
  rw [hr] at stw st0 lc0 Ka Kb Kc r4 ⊢
  have d0 : w4.cell? ⟨r, 0, none⟩ = some (.int .i64 0) := by simp [World.cell?, r4]
  have d1 : w4.cell? ⟨r, 1, none⟩ = some (.int .u32 0) := by simp [World.cell?, r4]
  have d2 : w4.cell? ⟨r, 2, none⟩ = some (.int .u32 0) := by simp [World.cell?, r4]
  have f0 : w4.frozen? ⟨r, 0, none⟩ = false := by simp [World.frozen?, r4]
  have f1 : w4.frozen? ⟨r, 1, none⟩ = false := by simp [World.frozen?, r4]
  have f2 : w4.frozen? ⟨r, 2, none⟩ = false := by simp [World.frozen?, r4]
  clear s i4 r4 s4 fk hS KL K0 K1 hr
  go_region_held3 (fun u => SitN w4 r u) (first | assumption | exact st0 | exact (stw.laid t).drew) (first
    | (go_at_call 19; refine (Ka _ (by assumption)).mono ?_; rintro e w5 ⟨rfl, e5⟩; subst w5)
    | (go_at_call 46; refine (Kb _ (by assumption)).mono ?_; rintro e w5 ⟨rfl, e5⟩; subst w5)
    | (go_at_call 20; refine (Kc _ (by assumption)).mono ?_; rintro e w5 ⟨rfl, e5⟩; subst w5))
  go_wp2_with fail
  refine bodyPost_ret (results_in rfl rfl (IsN.drew (laidN_is stw.room t))) rfl ⟨by rw [hRA.out], ?_⟩
  exact B4.out.trans ((stw.laid t).drew.turned.below B4.out.size (by have := hrA.out; omega))
theorem three_new (w : World) (A : Array Value) (t : Nd) : Below w.heap.size w (((w.alloc (.cells A 82)).alloc (.cells #[.int .i64 (t.1 : Int), .int .u32 (t.2.1 : Int), .int .u32 (t.2.2 : Int)] 79)).alloc (.cells #[.int .i64 0, .int .u32 0, .int .u32 0] 79)) ∧ (((w.alloc (.cells A 82)).alloc (.cells #[.int .i64 (t.1 : Int), .int .u32 (t.2.1 : Int), .int .u32 (t.2.2 : Int)] 79)).alloc (.cells #[.int .i64 0, .int .u32 0, .int .u32 0] 79)).heap[w.heap.size]? = some (.cells A 82 (0, 0)) ∧ IsN (((w.alloc (.cells A 82)).alloc (.cells #[.int .i64 (t.1 : Int), .int .u32 (t.2.1 : Int), .int .u32 (t.2.2 : Int)] 79)).alloc (.cells #[.int .i64 0, .int .u32 0, .int .u32 0] 79)) (w.heap.size + 1) t ∧ (((w.alloc (.cells A 82)).alloc (.cells #[.int .i64 (t.1 : Int), .int .u32 (t.2.1 : Int), .int .u32 (t.2.2 : Int)] 79)).alloc (.cells #[.int .i64 0, .int .u32 0, .int .u32 0] 79)).heap[w.heap.size + 1 + 1]? = some (.cells #[.int .i64 0, .int .u32 0, .int .u32 0] 79 (0, 0)) := by
  refine ⟨(((Below.refl _ w).alloc (Nat.le_refl _) _).alloc (by simp) _).alloc (by simp; omega) _, ?_, ?_, ?_⟩
  · exact (Below.block (((Below.refl _ (w.alloc (.cells A 82))).alloc (Nat.le_refl _) _).alloc (by simp) _) w.heap.size (by simp)).trans (Go.Deep.blk_alloc_new w (.cells A 82))
  · have h := (IsN.new (w.alloc (.cells A 82)) t).below (nb _ (.cells #[.int .i64 0, .int .u32 0, .int .u32 0] 79))
    simpa using h
  · have h := Go.Deep.blk_alloc_new ((w.alloc (.cells A 82)).alloc (.cells #[.int .i64 (t.1 : Int), .int .u32 (t.2.1 : Int), .int .u32 (t.2.2 : Int)] 79)) (.cells #[.int .i64 0, .int .u32 0, .int .u32 0] 79)
    simpa using h
theorem room_cells {w : World} {r : Nat} (h : w.heap[r]? = some (.cells #[.int .i64 0, .int .u32 0, .int .u32 0] 79 (0, 0))) : w.cell? ⟨r, 0, none⟩ = some (.int .i64 0) ∧ w.cell? ⟨r, 1, none⟩ = some (.int .u32 0) ∧ w.cell? ⟨r, 2, none⟩ = some (.int .u32 0) ∧ w.frozen? ⟨r, 0, none⟩ = false ∧ w.frozen? ⟨r, 1, none⟩ = false ∧ w.frozen? ⟨r, 2, none⟩ = false := by
  refine ⟨?_, ?_, ?_, ?_, ?_, ?_⟩ <;> simp [World.cell?, World.frozen?, h]
/-- low, high. -/
def stp (b : Bool) : Nat := if b then 51 else 50
set_option maxRecDepth 100000 in
set_option maxHeartbeats 1000000 in
theorem step_any (s : St w S F0 M) (wt : WI M t) (b : Bool) : Calls Try.prog (stp b) #[.agg (wA S I), .agg (inA t)] w fun e w' => e = .returned (.agg (inA (nodeI M (kidI b t)))) ∧ Below w.heap.size w w' := by
  have kn := kid_node wt b
  obtain ⟨A, hA⟩ : ∃ A, wA S I = A := ⟨_, rfl⟩
  have KN : Aside (∀ u, St u S F0 M → Calls Try.prog 34 #[.agg A, .int .u32 (kidI b t : Int)] u fun e w' => e = .returned (.agg (inA (nodeI M (kidI b t)))) ∧ Below u.heap.size u w') := fun u su => by rw [← hA]; exact cnode_any su kn
  obtain ⟨r, hr⟩ : ∃ r, nodeI M (kidI b t) = r := ⟨_, rfl⟩
  rw [hr] at KN ⊢
  have sz : Aside (A.size = 25) := by rw [← hA]; exact wA_size
  rw [hA]
  clear hA hr kn wt
  unfold inA
  unfold inA at KN
  cases b with
  | false =>
    unfold stp
    unfold kidI at KN
    simp only [Bool.false_eq_true, if_false] at KN ⊢
    go_enter Try.func50, Try.ntmps50
    go_upto_region 1 with fail
    obtain ⟨B3, h3, n3, r3⟩ := three_new w A t
    generalize (((w.alloc (.cells A 82)).alloc (.cells #[.int .i64 (t.1 : Int), .int .u32 (t.2.1 : Int), .int .u32 (t.2.2 : Int)] 79)).alloc (.cells #[.int .i64 0, .int .u32 0, .int .u32 0] 79)) = w3 at B3 h3 n3 r3 ⊢
    have s3 := s.below B3
    have B3A : Aside (Below w.heap.size w w3) := B3
    have h3A : Aside (w3.heap[w.heap.size]? = some (.cells A 82 (0, 0))) := h3
    have rB : Aside (w.heap.size ≤ w.heap.size + 1 + 1) := by show _ ≤ _; omega
    have K := KN.out _ s3
    obtain ⟨c0, c1, c2⟩ := n3.cells
    generalize w.heap.size + 1 + 1 = rr at r3 rB ⊢
    generalize w.heap.size + 1 = gn at c0 c1 c2 ⊢
    obtain ⟨g, hg⟩ : ∃ g, w.heap.size = g := ⟨_, rfl⟩
    rw [hg] at h3A ⊢
    have hgA : Aside (w.heap.size = g) := hg
    clear B3 h3 n3 KN s s3 hg
    go_wp2_with (first
      | refine wpList_load_row rfl 82 (.tmp 2) rfl g rfl 82 A (0, 0) _ h3A.out Try.underlying82 rfl (by rw [sz.out]; kernel_rfl) ?_
      | (go_at_call 34; refine K.mono ?_; clear K; rintro e w5 ⟨rfl, b5⟩; have r5 := (b5.block _ (Array.getElem?_eq_some_iff.1 r3).1).trans r3; clear c0 c1 c2; obtain ⟨d0, d1, d2, f0, f1, f2⟩ := room_cells r5))
    refine bodyPost_ret (results_in (t := r) rfl rfl (laidN_is ⟨_, _, _, r5⟩ r)) rfl ⟨rfl, ?_⟩
    have B5 := Rf.below_far B3A.out b5
    exact B5.trans ((laidN_turned w5 rr r).below B5.size rB.out)
  | true =>
    unfold stp
    unfold kidI at KN
    simp only [if_true] at KN ⊢
    go_enter Try.func51, Try.ntmps51
    go_upto_region 1 with fail
    obtain ⟨B3, h3, n3, r3⟩ := three_new w A t
    generalize (((w.alloc (.cells A 82)).alloc (.cells #[.int .i64 (t.1 : Int), .int .u32 (t.2.1 : Int), .int .u32 (t.2.2 : Int)] 79)).alloc (.cells #[.int .i64 0, .int .u32 0, .int .u32 0] 79)) = w3 at B3 h3 n3 r3 ⊢
    have s3 := s.below B3
    have B3A : Aside (Below w.heap.size w w3) := B3
    have h3A : Aside (w3.heap[w.heap.size]? = some (.cells A 82 (0, 0))) := h3
    have rB : Aside (w.heap.size ≤ w.heap.size + 1 + 1) := by show _ ≤ _; omega
    have K := KN.out _ s3
    obtain ⟨c0, c1, c2⟩ := n3.cells
    generalize w.heap.size + 1 + 1 = rr at r3 rB ⊢
    generalize w.heap.size + 1 = gn at c0 c1 c2 ⊢
    obtain ⟨g, hg⟩ : ∃ g, w.heap.size = g := ⟨_, rfl⟩
    rw [hg] at h3A ⊢
    have hgA : Aside (w.heap.size = g) := hg
    clear B3 h3 n3 KN s s3 hg
    go_wp2_with (first
      | refine wpList_load_row rfl 82 (.tmp 2) rfl g rfl 82 A (0, 0) _ h3A.out Try.underlying82 rfl (by rw [sz.out]; kernel_rfl) ?_
      | (go_at_call 34; refine K.mono ?_; clear K; rintro e w5 ⟨rfl, b5⟩; have r5 := (b5.block _ (Array.getElem?_eq_some_iff.1 r3).1).trans r3; clear c0 c1 c2; obtain ⟨d0, d1, d2, f0, f1, f2⟩ := room_cells r5))
    refine bodyPost_ret (results_in (t := r) rfl rfl (laidN_is ⟨_, _, _, r5⟩ r)) rfl ⟨rfl, ?_⟩
    have B5 := Rf.below_far B3A.out b5
    exact B5.trans ((laidN_turned w5 rr r).below B5.size rB.out)
end
end Go.Proofs.Ytbhjcaoiejdkfaa
