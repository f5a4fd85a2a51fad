/-
  What New, All and Copy of package order make.
-/
import Derived.Test.YtdmfbfbebcneeaaOdOrd
import Derived.Laws.CopyOwn
import Derived.Laws.OwnMore
import Derived.OwnWalk
namespace Go.Proofs.Ytdmfbfbebcneeaa.Od
open Go Go.RowKit

def idn (n : Nat) : Nat → Nat := fun i => if i < n then i else 0
theorem idn_upd (j : Nat) : upd (idn j) j j = idn (j + 1) := by
  funext i
  simp only [upd, idn]
  by_cases h : i = j
  · subst h; simp
  · rw [if_neg h]
    by_cases h2 : i < j
    · rw [if_pos h2, if_pos (by omega)]
    · rw [if_neg h2, if_neg (by omega)]

/-- So many variables as there are where so many are asked for. -/
def heldN (x : Int) : Nat := if x < 1 then 1 else if 8 < x then 8 else x.toNat
theorem heldN_le (x : Int) : 1 ≤ heldN x ∧ heldN x ≤ 8 := by
  unfold heldN
  split
  · omega
  · split <;> omega

theorem new_any (x : Int) (w : World) :
    Calls Try.prog 37 #[.int .i64 x] w fun e w' => e = .returned (.pointer (some ⟨w.heap.size, 0, none⟩)) ∧ IsOrd w' w.heap.size (heldN x) (idn (heldN x)) (idn (heldN x)) ∧ Below w.heap.size w w' := by
  obtain ⟨y, hy⟩ : ∃ y : Int, (if 1 > x then 1 else x) = y := ⟨_, rfl⟩
  obtain ⟨n, hn⟩ : ∃ n : Nat, heldN x = n := ⟨_, rfl⟩
  have hb := heldN_le x
  rw [hn] at hb ⊢
  have hmin : (if 8 < y then 8 else y) = (n : Int) := by
    rw [← hy, ← hn]
    unfold heldN
    by_cases h1 : x < 1
    · rw [if_pos (show (1 : Int) > x from h1), if_pos h1, if_neg (by omega)]; rfl
    · rw [if_neg (show ¬ (1 : Int) > x from h1), if_neg h1]
      split
      · rfl
      · omega
  clear hn
  go_enter Try.func37, Try.ntmps37
  go_wp2
  go_loopg [14] n (fun g si wr => ∃ j : Nat, j + g = n ∧ si = .int .i64 (j : Int) ∧ IsOrd wr w.heap.size n (idn j) (idn j) ∧ Below w.heap.size w wr)
  case atStart =>
    refine ⟨0, by omega, rfl, ?_, (Below.refl _ w).alloc (Nat.le_refl _) _⟩
    refine World.rowIs_alloc w _ 79 _ fun i hi => ?_
    have hi' : i < 17 := hi
    have : i = 0 ∨ i = 1 ∨ i = 2 ∨ i = 3 ∨ i = 4 ∨ i = 5 ∨ i = 6 ∨ i = 7 ∨ i = 8 ∨ i = 9 ∨ i = 10 ∨ i = 11 ∨ i = 12 ∨ i = 13 ∨ i = 14 ∨ i = 15 ∨ i = 16 := by omega
    rcases this with rfl | rfl | rfl | rfl | rfl | rfl | rfl | rfl | rfl | rfl | rfl | rfl | rfl | rfl | rfl | rfl | rfl <;> rfl
  case round =>
    obtain ⟨j, hj, rfl, h, hbl⟩ := hrel
    have hJ : Aside (j + gk = n) := hj
    by_cases hlt : j < n
    · have hlt' : (j : Int) < (n : Int) := by omega
      have P1 := put_any h j j (by omega) (by omega)
      clear hj
      go_wp2_with (go_at_call 46; refine P1.mono ?_; clear P1; rintro e w1 ⟨rfl, h1, m1⟩)
      go_roundg (gk - 1)
      case measure => have := hJ.out; omega
      case rel =>
        have hj := hJ.out
        rw [idn_upd] at h1
        exact ⟨j + 1, by omega, by go_num, h1, hbl.trans (m1.below hbl.size (Nat.le_refl _))⟩
    · obtain rfl : j = n := by omega
      clear hj
      go_wp2
      go_ret
      exact ⟨rfl, h, hbl⟩

/-- The variables by levels go over into a new row. -/
theorem copy_vars {w : World} {P n g : Nat} {v l : Nat → Nat} (h : IsOrd w P n v l) (hn : n ≤ 8) (hm : w.heap[g]? = some (.cells (madeCells #[.int .i64 0] n) 3 (0, 0))) :
    ∃ w', (Builtin.copy_ #[47, 47] 3 #[.slice (some ⟨g, 0, none⟩) n n, .slice (some ⟨P, 1, none⟩) 8 8]).run Try.prog w = .ok (goInt n) w' ∧ w'.rowIs g 3 n (fun i => .int .i64 (v i : Int)) ∧ Moved g w w' := by
  have hcs : ((List.range n).map fun i => Value.int .i64 (v i : Int)).length = n := by simp
  have hrun := run_copy_row (P := Try.prog) w 47 47 3 3 g 0 n n ⟨P, 1, none⟩ 8 8 (madeCells #[.int .i64 0] n) 3 ((List.range n).map fun i => Value.int .i64 (v i : Int)) Try.underlying47 (by kernel_rfl) hm (by rw [hcs]; simp [Nat.min_def]; omega) (fun j u hu => by
      have hj : j < n := by
        have := (List.getElem?_eq_some_iff.1 hu).1
        simpa using this
      rw [List.getElem?_map, List.getElem?_range hj] at hu
      have hu' : Value.int .i64 (v j : Int) = u := by simpa using hu
      rw [← hu']
      have : (⟨P, 1, none⟩ : Addr).add j = ⟨P, 1 + j, none⟩ := by unfold Addr.add; split <;> simp_all
      rw [this]
      exact h.cellV (by omega)) (by rw [hcs, size_madeCells]; omega) (fun u hu => by
      obtain ⟨i, _, rfl⟩ := List.mem_map.1 hu
      rfl)
  rw [hcs] at hrun
  refine ⟨_, hrun, ?_, ⟨rfl, rfl, rfl, by simp [World.setRow], fun k _ hk => setRow_other w g k _ hk⟩⟩
  refine ⟨_, setRow_heap w g _ _ 3 _ hm, ?_, fun i hi => ?_⟩
  · simp [size_madeCells]
  · rw [List.take_zero, List.nil_append, List.getElem?_toArray, List.getElem?_append_left (by rw [hcs]; exact hi), List.getElem?_map, List.getElem?_range hi]
    rfl

theorem info3 : (Try.prog.info? 3).map (fun i => (i.zero, i.size, i.bytes)) = some (some (.int .i64 0), 1, 8) := by kernel_rfl

theorem make_ints (n : Nat) (hn : n ≤ 1000) (w : World) :
    (Instr.makeSlice 47 (.int .i64 (n : Int)) (.int .i64 (n : Int))).run Try.prog w = .ok (.slice (some ⟨w.heap.size, 0, none⟩) n n) (w.alloc (.cells (madeCells #[.int .i64 0] n) 3)) := by
  obtain ⟨i, hi, hz, hs, hb⟩ := info_parts info3
  exact run_make_row 47 3 i _ Try.underlying47 hi hz hs rfl .i64 .i64 n (by rw [hb]; omega) (by omega) w

theorem all_any {w : World} {P n : Nat} {v l : Nat → Nat} (h : IsOrd w P n v l) (hn : n ≤ 8) :
    Calls Try.prog 22 #[.pointer (some ⟨P, 0, none⟩)] w fun e w' => e = .returned (.slice (some ⟨w.heap.size, 0, none⟩) n n) ∧ w'.rowIs w.heap.size 3 n (fun i => .int .i64 (v i : Int)) ∧ Below w.heap.size w w' := by
  have c0 := h.cell0
  have hmk := make_ints n (by omega) w
  obtain ⟨w1, hrun, r1, m1⟩ := copy_vars (h.new (.cells (madeCells #[.int .i64 0] n) 3)) hn (heap_alloc_new w (.cells (madeCells #[.int .i64 0] n) 3))
  go_enter Try.func22, Try.ntmps22
  go_wp2
  go_ret
  exact ⟨rfl, r1, ((Below.refl _ w).alloc (Nat.le_refl _) _).trans (m1.below (by simp) (Nat.le_refl _))⟩

theorem ord_cells {w : World} {P n : Nat} {v l : Nat → Nat} (h : IsOrd w P n v l) : ∃ c : Array Value, w.heap[P]? = some (.cells c 79 (0, 0)) ∧ c.size = 17 ∧ (∀ i, i < 17 → c[i]? = some (ordCell n v l i)) ∧ c.all (·.oneCell') = true := by
  obtain ⟨c, hb, hs, hc⟩ := h
  refine ⟨c, hb, hs, hc, ?_⟩
  rw [Array.all_eq_true]
  intro i hi
  have := hc i (by omega)
  rw [Array.getElem?_eq_getElem hi] at this
  have e : c[i] = ordCell n v l i := by simpa using this
  rw [e]
  rfl

theorem copy_any {w : World} {P n : Nat} {v l : Nat → Nat} (h : IsOrd w P n v l) :
    Calls Try.prog 41 #[.pointer (some ⟨P, 0, none⟩)] w fun e w' => e = .returned (.pointer (some ⟨w.heap.size, 0, none⟩)) ∧ IsOrd w' w.heap.size n v l ∧ Below w.heap.size w w' := by
  obtain ⟨c, hb, hs, hc, h1⟩ := ord_cells h
  have hC : Aside (c.size = 17) := hs
  have hB : Aside (w.heap[P]? = some (.cells c 79 (0, 0))) := hb
  have hA : Aside (c.all (·.oneCell') = true) := h1
  clear hs hb h1
  go_enter Try.func41, Try.ntmps41
  go_wp2_with (first
    | refine wpList_load_row rfl 79 (.tmp 5) rfl P rfl 79 c (0, 0) _ hB.out Try.underlying79 rfl (by rw [hC.out]; kernel_rfl) ?_
    | refine wpList_store_row rfl 79 (.tmp 3) (.tmp 6) rfl w.heap.size c rfl rfl 79 _ (heap_alloc_new w _) (by rw [hC.out]; kernel_rfl) (by rw [hC.out]; rfl) hA.out ?_)
  go_ret
  refine ⟨rfl, ⟨c, setRow_heap _ _ _ _ 79 _ (heap_alloc_new w _), hC.out, hc⟩, ?_⟩
  exact ((Below.refl _ w).alloc (Nat.le_refl _) _).trans ⟨rfl, rfl, rfl, by simp [World.setRow], fun k hk => setRow_other _ _ k _ (by omega)⟩
end Go.Proofs.Ytdmfbfbebcneeaa.Od
