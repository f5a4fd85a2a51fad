/-
  A word more in a store: its name, its handle.
-/
import Derived.Test.YtdmfbfbebcneeaaLook
import Derived.Deep.RegionLaw
namespace Go.Proofs.Ytdmfbfbebcneeaa
open Go Go.RowKit

theorem stCell_18 (n : Nat) (v l : Nat → Nat) (room : Nat) (ad ad' : Option Addr) (L L' cap cap' P mp lines : Nat) (on : Bool) (i : Nat) : (if i = 18 then .slice ad' L' cap' else stCell n v l room ad L cap P mp lines on i) = stCell n v l room ad' L' cap' P mp lines on i := by
  unfold stCell
  by_cases e : i = 18
  · subst e; simp
  · simp [e]
section
variable {w : World} {S n room L cap P mp lines : Nat} {v l : Nat → Nat} {ad : Option Addr} {on : Bool} {wd : Nat → Int} {nm : Int → Option Int}
set_option maxHeartbeats 1000000 in
theorem name_any (hb : w.rowIs S 88 27 (stCell n v l room ad L cap P mp lines on)) (own : OwnR 44 w 0 ad L cap (fun i => .int .u64 (wd i))) (map : IsMap w mp nm) (s : Nat) (x : Int) (hL : L ≤ 32768) :
    Calls Try.prog 66 #[.pointer (some ⟨S, 0, none⟩), .int .i64 (s : Int), .int .u64 x] w fun e w' => e = .returned (.tuple #[]) ∧ ∃ g cap', w'.rowIs S 88 27 (stCell n v l room (some ⟨g, 0, none⟩) (L + 1) cap' P mp lines on) ∧ OwnR 44 w' 0 (some ⟨g, 0, none⟩) (L + 1) cap' (fun i => .int .u64 (if i = L then x else wd i)) ∧ IsMap w' mp (at1 nm (s : Int) (some ((L : Int) + 2))) ∧ Went (fun k => k = S ∨ k = mp ∨ At ad k) w w' ∧ (At ad g ∨ w.heap.size ≤ g) := by
  have c22 : w.cell? ⟨S, 22, none⟩ = some (.map (some mp)) := hb.cell (i := 22) (by omega)
  have c18 : w.cell? ⟨S, 18, none⟩ = some (.slice ad L cap) := hb.cell (i := 18) (by omega)
  have mapd : IsMap w.drew mp nm := map.same rfl
  obtain ⟨w1, hr1, m1, t1⟩ := map_put mapd (s : Int) (2 + (L : Int))
  have hSm : S ≠ mp := fun e => by
    obtain ⟨cs, h1, _⟩ := hb
    obtain ⟨es, ck, l, h2, _⟩ := map
    rw [e, h2] at h1
    cases h1
  have hAm : ∀ k, At ad k → k ≠ mp := fun k hk e => by
    obtain ⟨cur, h1⟩ := own.kind k hk
    obtain ⟨es, ck, l, h2, _⟩ := map
    rw [e, h2] at h1
    cases h1
  have hb1 : w1.rowIs S 88 27 (stCell n v l room ad L cap P mp lines on) := hb.of_block (t1.block S hSm)
  have own1 : OwnR 44 w1 0 ad L cap (fun i => .int .u64 (wd i)) := own.kept fun b hb' => t1.block b (hAm b hb')
  have d18 : w1.cell? ⟨S, 18, none⟩ = some (.slice ad L cap) := hb1.cell (i := 18) (by omega)
  have hb2 := hb1.alloc (.cells #[.int .u64 x] 44)
  have hlt2 : S < (w1.alloc (.cells #[.int .u64 x] 44)).heap.size := hb2.lt
  have hSA : ¬ At ad S := by obtain ⟨cs, h1, _⟩ := hb; exact own.apart h1 (by decide)
  have hwr : IntKind.u32.wrap (L : Int) = (L : Int) := by rw [IntKind.wrap_u32]; omega
  go_enter Try.func66, Try.ntmps66
  go_wp2_with fail
  go_region
  all_goals go_wp2_with (first
    | (at_builtin; refine append_u64 (own1.new _) w1.heap.size x (heap_alloc_new _ _) (by omega) (Nat.zero_le _) rfl _ _ rfl rfl rfl ?_; intro g cap' w3 o3 b3 p3; have hb3 := hb2.of_block (b3.block S hlt2 hSA); have e18 := hb3.cell (i := 18) (by omega); have f18 := hb3.frozen 18))
  go_end0
  have hg3 : ¬ S = g := by
    obtain ⟨cur, h1⟩ := o3.kind g ⟨_, rfl, rfl⟩
    obtain ⟨cs, h2, _⟩ := hb3
    intro e
    rw [e, h1] at h2
    simp at h2
  have t1w : Went (fun k => k = S ∨ k = mp ∨ At ad k) w w1 := ⟨t1.os, t1.tape, t1.output, Nat.le_of_eq t1.size.symm, fun k _ hn => t1.block k fun e => hn (.inr (.inl e))⟩
  have m3 : IsMap w3 mp _ := (m1.same (Below.heap_alloc _ _ _ m1.lt)).same (b3.block mp (by have := m1.lt; simp; omega) fun e => hAm _ e rfl)
  refine ⟨rfl, g, cap', (hb3.set 18 _).congr fun i _ => stCell_18 n v l room ad (some ⟨g, 0, none⟩) L (L + 1) cap cap' P mp lines on i, (o3.kept fun b hb => Below.heap_setCell _ _ _ _ ?_).congr fun i _ => ?_, ?_, ?_, ?_⟩
  · obtain ⟨a, ha, rfl⟩ := hb
    cases ha
    exact fun e => hg3 e.symm
  · by_cases e : i = L
    · rw [if_pos e, if_pos e]
    · rw [if_neg e, if_neg e]
  · rw [Int.add_comm]
    exact m3.same (Below.heap_setCell _ _ _ _ fun e => hSm e.symm)
  · exact ((t1w.trans (Went.new _ _ _)).trans (b3.wider fun i e => .inr (.inr e))).trans (Went.set (.inl rfl) _ _)
  · rcases p3 with p3 | p3
    · exact .inl p3
    · right
      rw [p3]
      simp [t1.size]
end
end Go.Proofs.Ytdmfbfbebcneeaa
