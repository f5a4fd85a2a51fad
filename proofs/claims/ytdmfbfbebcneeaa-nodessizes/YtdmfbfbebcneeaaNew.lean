/-
  What package mem's New lays: a row of so many cells, all 0.
-/
import Derived.Test.YtdmfbfbebcneeaaMem
import Derived.Deep.RegionWith
namespace Go.Proofs.Ytdmfbfbebcneeaa
open Go Go.RowKit

theorem info63 : (Try.prog.info? 155).map (fun i => (i.zero, i.size, i.bytes)) = some (some (.agg #[.int .u64 0]), 1, 8) := by kernel_rfl

theorem make_row (n : Nat) (hn : n ≤ 262144) (w : World) :
    (Instr.makeSlice 100 (.int .i64 (n : Int)) (.int .i64 (n : Int))).run Try.prog w = .ok (.slice (some ⟨w.heap.size, 0, none⟩) n n) (w.alloc (.cells (madeCells #[.int .u64 0] n) 155)) := by
  obtain ⟨i, hi, hzz⟩ := Option.map_eq_some_iff.1 info63
  simp only [Prod.mk.injEq] at hzz
  obtain ⟨hz, hs, hb⟩ := hzz
  have hr := run_make (P := Try.prog) w 100 155 i _ Try.underlying100 hi hz .i64 .i64 n n (by omega) (Int.le_refl _) (by rw [hb]; omega) (by omega)
  have hc : (Value.agg #[.int .u64 0]).cells = #[.int .u64 0] := by kernel_rfl
  rw [hs, Nat.mul_one, hc, Int.toNat_natCast] at hr
  exact hr

/-- As many cells as there are where so many are asked for. -/
def held (k : Int) : Nat := if k < 0 then 0 else if 262144 < k then 262144 else k.toNat

theorem new_any (k : Int) (w : World) :
    Calls Try.prog 33 #[.int .i64 k] w fun e w' => e = .returned (.pointer (some ⟨w.heap.size + 1, 0, none⟩)) ∧ IsMem w' (w.heap.size + 1) w.heap.size (held k) (fun _ => 0) 0 0 ∧ Below w.heap.size w w' ∧ w'.heap.size = w.heap.size + 2 := by
  have key : ∀ n : Nat, n ≤ 262144 → IsMem ((w.alloc (.cells (madeCells #[.int .u64 0] n) 155)).alloc (.cells #[.slice (some ⟨w.heap.size, 0, none⟩) n n, .int .i64 0, .int .i64 0] 107)) (w.heap.size + 1) w.heap.size n (fun _ => 0) 0 0 := by
    intro n _
    refine ⟨?_, ?_, by omega⟩
    · rw [show w.heap.size + 1 = (w.alloc (.cells (madeCells #[.int .u64 0] n) 155)).heap.size by simp]
      exact Go.Deep.blk_alloc_new _ _
    · exact (World.rowIs_made w (.int .u64 0) n 155).alloc _
  have bel : ∀ (o1 o2 : Obj), Below w.heap.size w ((w.alloc o1).alloc o2) := fun o1 o2 => ((Below.refl _ w).alloc (Nat.le_refl _) o1).alloc (by simp) o2
  have siz : ∀ (o1 o2 : Obj), ((w.alloc o1).alloc o2).heap.size = w.heap.size + 2 := fun o1 o2 => by simp
  by_cases h1 : k < 0
  · have hk : held k = 0 := by simp [held, h1]
    have hmk := make_row 0 (by omega)
    simp only [Int.ofNat_zero] at hmk
    rw [hk]
    go_enter Try.func33, Try.ntmps33
    go_wp2
    go_ret
    exact ⟨rfl, key 0 (by omega), bel _ _, siz _ _⟩
  · by_cases h2 : 262144 < k
    · obtain ⟨N, hN⟩ : ∃ N : Nat, N = 262144 := ⟨_, rfl⟩
      have hk : held k = N := by simp only [held, if_neg h1, if_pos h2, hN]
      have hmk : ∀ w, (Instr.makeSlice 100 (.int .i64 262144) (.int .i64 262144)).run Try.prog w = .ok (.slice (some ⟨w.heap.size, 0, none⟩) N N) (w.alloc (.cells (madeCells #[.int .u64 0] N) 155)) := by
        intro w
        have h := make_row N (by omega) w
        rw [show (N : Int) = 262144 by omega] at h
        exact h
      have hn : N ≤ 262144 := by omega
      rw [hk]
      clear hk hN
      go_enter Try.func33, Try.ntmps33
      go_wp2
      go_ret
      exact ⟨rfl, key N hn, bel _ _, siz _ _⟩
    · obtain ⟨n, rfl⟩ : ∃ n : Nat, k = (n : Int) := ⟨k.toNat, by omega⟩
      have hk : held (n : Int) = n := by simp only [held]; rw [if_neg (by omega), if_neg (by omega)]; omega
      have hmk := make_row n (by omega)
      have hn : n ≤ 262144 := by omega
      rw [hk]
      clear hk
      go_enter Try.func33, Try.ntmps33
      go_wp2
      go_ret
      exact ⟨rfl, key n hn, bel _ _, siz _ _⟩

end Go.Proofs.Ytdmfbfbebcneeaa
