/-
  Two pairs change places: the row and the map.
-/
import Derived.Test.YthcjmbfhcdkffaaQ
namespace Go.Proofs.Ythcjmbfhcdkffaa
open Go Go.RowKit
section
variable {w : World} {Q n cap : Nat} {ad : Option Addr} {mp : Option Nat} {I : Nat → Int × Int}
set_option maxHeartbeats 1600000 in
theorem swap_any (h : IsQ w Q ad n cap mp I) (i j : Nat) (hi : i < n) (hj : j < n) (hij : i ≠ j) :
    Calls Try.prog 47 #[.pointer (some ⟨Q, 0, none⟩), .int .i64 (i : Int), .int .i64 (j : Int)] w fun e w' => e = .returned (.tuple #[]) ∧ IsQ w' Q ad n cap mp (swp I i j) ∧ Moved (Foot Q ad mp) w w' := by
  have c0 := h.cell0
  obtain ⟨g, rfl, hp⟩ := h.row.form (by omega)
  have hQg : Q < g := h.apart _ rfl
  obtain ⟨m, rfl⟩ : ∃ m, mp = some m := by
    cases mp with
    | none => have := h.none_ rfl; omega
    | some m => exact ⟨m, rfl⟩
  obtain ⟨P, hM, hP, hQm⟩ := h.some_ m rfl
  have p0 := hp.cell0 hi
  have p1 := hp.cell1 hi
  have q0 := hp.cell0 hj
  have q1 := hp.cell1 hj
  have f0 := hp.frozen (i * 2)
  have f1 := hp.frozen (i * 2 + 1)
  have f2 := hp.frozen (j * 2)
  have f3 := hp.frozen (j * 2 + 1)
  have hg := hp.lt
  have hQ := h.lt
  have hgQ : Q ≠ g := by omega
  have hgQ' : g ≠ Q := by omega
  have hi' : (i : Int) < (n : Int) := by omega
  have hj' : (j : Int) < (n : Int) := by omega
  go_enter Try.func47, Try.ntmps47
  go_wp2
  go_region
  have s1 := (hp.set hi (I j).1 (I j).2).set hj (I i).1 (I i).2
  have k1 : ∀ b, b ≠ g → (((((w.setCell ⟨g, i * 2, none⟩ (.int .i64 (I j).1)).setCell ⟨g, i * 2 + 1, none⟩ (.int .i64 (I j).2)).setCell ⟨g, j * 2, none⟩ (.int .i64 (I i).1)).setCell ⟨g, j * 2 + 1, none⟩ (.int .i64 (I i).2)).drew).heap[b]? = w.heap[b]? := fun b hb => by
    show ((((w.setCell _ _).setCell _ _).setCell _ _).setCell _ _).heap[b]? = _
    rw [Below.heap_setCell _ _ _ _ hb, Below.heap_setCell _ _ _ _ hb, Below.heap_setCell _ _ _ _ hb, Below.heap_setCell _ _ _ _ hb]
  have m1 : Moved (Foot Q (some ⟨g, 0, none⟩) (some m)) w (((((w.setCell ⟨g, i * 2, none⟩ (.int .i64 (I j).1)).setCell ⟨g, i * 2 + 1, none⟩ (.int .i64 (I j).2)).setCell ⟨g, j * 2, none⟩ (.int .i64 (I i).1)).setCell ⟨g, j * 2 + 1, none⟩ (.int .i64 (I i).2)).drew) :=
    ((((Moved.set w (.inr (.inl ⟨_, rfl, rfl⟩)) _ _).trans (Moved.set _ (.inr (.inl ⟨_, rfl, rfl⟩)) _ _)).trans (Moved.set _ (.inr (.inl ⟨_, rfl, rfl⟩)) _ _)).trans (Moved.set _ (.inr (.inl ⟨_, rfl, rfl⟩)) _ _)).drew
  have s2 : PairsAt (((((w.setCell ⟨g, i * 2, none⟩ (.int .i64 (I j).1)).setCell ⟨g, i * 2 + 1, none⟩ (.int .i64 (I j).2)).setCell ⟨g, j * 2, none⟩ (.int .i64 (I i).1)).setCell ⟨g, j * 2 + 1, none⟩ (.int .i64 (I i).2)).drew) g n cap (swp I i j) :=
    (s1.of_block (w' := World.drew _) rfl).congr fun k _ => by
      by_cases e : k = j
      · subst e; rw [setP_same, swp_r]
      · rw [setP_other _ _ e]
        by_cases e2 : k = i
        · subst e2; rw [setP_same, swp_l]
        · rw [setP_other _ _ e2, swp_o I e2 e]
  generalize World.drew _ = w1 at k1 m1 s2 ⊢
  clear s1 p0 p1 q0 q1 f0 f1 f2 f3 c0
  have hmg : m ≠ g := fun e => by
    obtain ⟨es, clock, l, hb, _⟩ := hM
    obtain ⟨cur, hb', _⟩ := hp
    rw [e, hb'] at hb
    cases hb
  have hM1 := hM.same (k1 m hmg)
  have hd1 : w1.heap[Q]? = _ := (k1 Q hgQ).trans h.head
  have c0 : w1.cell? ⟨Q, 0, none⟩ = some (.slice (some ⟨g, 0, none⟩) n cap) := by simp [World.cell?, hd1]
  have c1 : w1.cell? ⟨Q, 1, none⟩ = some (.map (some m)) := by simp [World.cell?, hd1]
  have p0 := s2.cell0 hi
  have q0 := s2.cell0 hj
  rw [swp_l] at p0
  rw [swp_r] at q0
  obtain ⟨w2, hr2, hM2, t2⟩ := map_put (w := w1.drew) (hM1.same rfl) (I j).1 (i : Int)
  go_wp2
  go_region
  have hd2 : w2.heap[Q]? = _ := (t2.block Q (by omega)).trans hd1
  have c2 : w2.cell? ⟨Q, 0, none⟩ = some (.slice (some ⟨g, 0, none⟩) n cap) := by simp [World.cell?, hd2]
  have c3 : w2.cell? ⟨Q, 1, none⟩ = some (.map (some m)) := by simp [World.cell?, hd2]
  have s3 : PairsAt w2 g n cap (swp I i j) := s2.of_block (t2.block g (fun e => hmg e.symm))
  have q2 := s3.cell0 hj
  rw [swp_r] at q2
  obtain ⟨w3, hr3, hM3, t3⟩ := map_put (w := w2.drew) (hM2.same rfl) (I i).1 (j : Int)
  clear hr2 c0 c1 p0 q0
  go_wp2
  go_region
  go_wp2
  go_end0
  have hFm : Foot Q (some ⟨g, 0, none⟩) (some m) m := .inr (.inr rfl)
  refine ⟨rfl, ⟨(t3.block Q (by omega)).trans hd2, .inr ⟨g, rfl, s3.of_block (t3.block g (fun e => hmg e.symm))⟩, h.apart, h.ids.swapped hi hj, (fun e => by cases e), fun m' hm' => ?_⟩, ?_⟩
  · cases hm'
    refine ⟨_, hM3, fun k jj => ?_, hQm⟩
    have hne : (I i).1 ≠ (I j).1 := fun e => hij (h.ids i j hi hj e)
    unfold at1
    by_cases e1 : k = (I i).1
    · subst e1
      simp only [if_true, Option.some.injEq]
      constructor
      · rintro rfl
        exact ⟨j, hj, by rw [swp_r], rfl⟩
      · rintro ⟨a, ha, hk, rfl⟩
        have := h.ids.swapped hi hj a j ha hj (by rw [hk, swp_r])
        omega
    · rw [if_neg e1]
      by_cases e2 : k = (I j).1
      · subst e2
        simp only [if_true, Option.some.injEq]
        constructor
        · rintro rfl
          exact ⟨i, hi, by rw [swp_l], rfl⟩
        · rintro ⟨a, ha, hk, rfl⟩
          have := h.ids.swapped hi hj a i ha hi (by rw [hk, swp_l])
          omega
      · rw [if_neg e2, hP k jj]
        constructor
        · rintro ⟨a, ha, hk, rfl⟩
          exact ⟨a, ha, by rw [swp_o I (fun e => e1 (by rw [← hk, e])) (fun e => e2 (by rw [← hk, e]))]; exact hk, rfl⟩
        · rintro ⟨a, ha, hk, rfl⟩
          by_cases e3 : a = i
          · subst e3; rw [swp_l] at hk; exact absurd hk.symm e2
          · by_cases e4 : a = j
            · subst e4; rw [swp_r] at hk; exact absurd hk.symm e1
            · rw [swp_o I e3 e4] at hk
              exact ⟨a, ha, hk, rfl⟩
  · exact ((m1.drew).trans (Moved.of_turned ⟨t2.os, t2.tape, t2.output, t2.size, t2.block⟩ hFm)).trans (Moved.undrew (Moved.of_turned t3 hFm))
end
end Go.Proofs.Ythcjmbfhcdkffaa
