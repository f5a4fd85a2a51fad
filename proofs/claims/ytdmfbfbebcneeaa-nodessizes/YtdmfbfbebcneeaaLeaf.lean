/-
  What the library's atomic numbers and package mem's steps do to one cell, over every world that holds it.
-/
import Derived.Test.YtdmfbfbebcneeaaProg
import Derived.WalkKit
import Derived.Handy
import Derived.Laws.LoneSync
import Derived.Deep.OwnRows
namespace Go.Proofs.Ytdmfbfbebcneeaa
open Go Go.RowKit

theorem add_i64 (x y : Int) (w : World) : (Op.intArith .add .i64 x y).run Try.prog w = .ok (.int .i64 (wrap64 (x + y))) w := by
  simp [go_sem, wrap64, IntKind.wrap_i64]

/-- The library's own count, one more. -/
theorem count_any (b o : Nat) (x y : Int) (w : World) (hc : w.cell? ⟨b, o, none⟩ = some (.int .i64 x)) (hf : w.frozen? ⟨b, o, none⟩ = false) :
    Calls Try.prog 98 #[.pointer (some ⟨b, o, none⟩), .int .i64 y] w fun e w' => e = .returned (.int .i64 (wrap64 (x + y))) ∧ w' = w.setCell ⟨b, o, none⟩ (.int .i64 (wrap64 (x + y))) := by
  have h := run_call_add (P := Try.prog) Try.func105 (by kernel_rfl) (by kernel_rfl) (by kernel_rfl) .i64 (by kernel_rfl) hc hf (add_i64 x y w)
  go_enter Try.func98, Try.ntmps98
  go_wp2
  go_ret
  exact ⟨rfl, rfl⟩

theorem cload_any (b o : Nat) (x : Int) (w : World) (hc : w.cell? ⟨b, o, none⟩ = some (.int .u64 x)) :
    Calls Try.prog 91 #[.pointer (some ⟨b, o, none⟩)] w fun e w' => e = .returned (.int .u64 x) ∧ w' = w := by
  have h := run_call_load (P := Try.prog) Try.func99 (by kernel_rfl) (by kernel_rfl) (by kernel_rfl) .u64 (by kernel_rfl) hc
  go_enter Try.func91, Try.ntmps91
  go_wp2
  go_ret
  exact ⟨rfl, rfl⟩

theorem cstore_any (b o : Nat) (x y : Int) (w : World) (hc : w.cell? ⟨b, o, none⟩ = some (.int .u64 x)) (hf : w.frozen? ⟨b, o, none⟩ = false) :
    Calls Try.prog 109 #[.pointer (some ⟨b, o, none⟩), .int .u64 y] w fun e w' => e = .returned (.tuple #[]) ∧ w' = w.setCell ⟨b, o, none⟩ (.int .u64 y) := by
  have h := run_call_store (P := Try.prog) Try.func110 (by kernel_rfl) (by kernel_rfl) (by kernel_rfl) (by kernel_rfl) (k := .u64) (y := y) hc hf
  go_enter Try.func109, Try.ntmps109
  go_wp2
  go_end0
  exact ⟨rfl, rfl⟩

theorem chit_any (b o : Nat) (x y : Int) (w : World) (hc : w.cell? ⟨b, o, none⟩ = some (.int .u64 x)) (hf : w.frozen? ⟨b, o, none⟩ = false) :
    Calls Try.prog 106 #[.pointer (some ⟨b, o, none⟩), .int .u64 x, .int .u64 y] w fun e w' => e = .returned (.bool true) ∧ w' = w.setCell ⟨b, o, none⟩ (.int .u64 y) := by
  have h := run_call_cas_hit (P := Try.prog) Try.func108 (by kernel_rfl) (by kernel_rfl) (by kernel_rfl) .u64 (by kernel_rfl) (y := y) hc hf
  go_enter Try.func106, Try.ntmps106
  go_wp2
  go_ret
  exact ⟨rfl, rfl⟩

theorem cmiss_any (b o : Nat) (x z y : Int) (w : World) (hc : w.cell? ⟨b, o, none⟩ = some (.int .u64 x)) (hf : w.frozen? ⟨b, o, none⟩ = false) (hne : ¬ x = z) :
    Calls Try.prog 106 #[.pointer (some ⟨b, o, none⟩), .int .u64 z, .int .u64 y] w fun e w' => e = .returned (.bool false) ∧ w' = w := by
  have h := run_call_cas_miss (P := Try.prog) Try.func108 (by kernel_rfl) (by kernel_rfl) (by kernel_rfl) .u64 (by kernel_rfl) (o := z) (y := y) hc hf hne
  clear hne
  go_enter Try.func106, Try.ntmps106
  go_wp2
  go_ret
  exact ⟨rfl, rfl⟩

theorem put_any (b o : Nat) (x y : Int) (w : World) (hc : w.cell? ⟨b, o, none⟩ = some (.int .u64 x)) (hf : w.frozen? ⟨b, o, none⟩ = false) :
    Calls Try.prog 107 #[.int .u64 y, .pointer (some ⟨b, o, none⟩)] w fun e w' => e = .returned (.int .u64 0) ∧ w' = w.setCell ⟨b, o, none⟩ (.int .u64 y) := by
  go_enter Try.func107, Try.ntmps107
  go_wp2_with (go_at_call 109; refine (cstore_any b o x y w hc hf).mono ?_; rintro e w' ⟨rfl, rfl⟩)
  go_ret
  exact ⟨rfl, rfl⟩

/-- The block that a compare and swap lays for its operands. -/
def opsOf (x y : Int) (P : Nat) : Obj := .cells #[.int .u64 x, .int .u64 y, .pointer (some ⟨P, 2, none⟩)] 163

theorem hit_any (b o P : Nat) (x y : Int) (w : World) (hc : w.cell? ⟨b, o, none⟩ = some (.int .u64 x)) (hf : w.frozen? ⟨b, o, none⟩ = false) (hb : b < w.heap.size) :
    Calls Try.prog 103 #[.agg #[.int .u64 x, .int .u64 y, .pointer (some ⟨P, 2, none⟩)], .pointer (some ⟨b, o, none⟩)] w fun e w' => e = .returned (.bool true) ∧ w' = (w.setCell ⟨b, o, none⟩ (.int .u64 y)).alloc (opsOf x y P) := by
  have hc' : (w.alloc (opsOf x y P)).cell? ⟨b, o, none⟩ = some (.int .u64 x) := by rw [World.cell?_alloc_past _ _ _ hb]; exact hc
  have hf' : (w.alloc (opsOf x y P)).frozen? ⟨b, o, none⟩ = false := by rw [World.frozen?_alloc_old _ _ _ (Nat.ne_of_lt hb)]; exact hf
  unfold opsOf at hc' hf' ⊢
  go_enter Try.func103, Try.ntmps103
  go_wp2_with (go_at_call 106; refine (chit_any b o x y _ hc' hf').mono ?_; rintro e w' ⟨rfl, rfl⟩)
  go_ret
  exact ⟨rfl, rfl⟩

theorem miss_any (b o P : Nat) (x z y k : Int) (w : World) (hc : w.cell? ⟨b, o, none⟩ = some (.int .u64 x)) (hf : w.frozen? ⟨b, o, none⟩ = false) (hb : b < w.heap.size) (hne : ¬ x = z)
   (gc : w.cell? ⟨P, 2, none⟩ = some (.int .i64 k)) (gf : w.frozen? ⟨P, 2, none⟩ = false) (hP : P < w.heap.size) :
    Calls Try.prog 103 #[.agg #[.int .u64 z, .int .u64 y, .pointer (some ⟨P, 2, none⟩)], .pointer (some ⟨b, o, none⟩)] w fun e w' => e = .returned (.bool false) ∧ w' = (w.setCell ⟨P, 2, none⟩ (.int .i64 (wrap64 (k + 1)))).alloc (opsOf z y P) := by
  have hc' : (w.alloc (opsOf z y P)).cell? ⟨b, o, none⟩ = some (.int .u64 x) := by rw [World.cell?_alloc_past _ _ _ hb]; exact hc
  have hf' : (w.alloc (opsOf z y P)).frozen? ⟨b, o, none⟩ = false := by rw [World.frozen?_alloc_old _ _ _ (Nat.ne_of_lt hb)]; exact hf
  have gc' : (w.alloc (opsOf z y P)).cell? ⟨P, 2, none⟩ = some (.int .i64 k) := by rw [World.cell?_alloc_past _ _ _ hP]; exact gc
  have gf' : (w.alloc (opsOf z y P)).frozen? ⟨P, 2, none⟩ = false := by rw [World.frozen?_alloc_old _ _ _ (Nat.ne_of_lt hP)]; exact gf
  unfold opsOf at hc' hf' gc' gf' ⊢
  go_enter Try.func103, Try.ntmps103
  go_wp2_with (first | (go_at_call 106; refine (cmiss_any b o x z y _ hc' hf' hne).mono ?_; rintro e w' ⟨rfl, rfl⟩) | (go_at_call 98; refine (count_any P 2 k 1 _ gc' gf').mono ?_; rintro e w' ⟨rfl, rfl⟩))
  go_ret
  exact ⟨rfl, rfl⟩

end Go.Proofs.Ytdmfbfbebcneeaa
