/-
  The plan under way: a free handle; two halves joined.
-/
import Derived.Test.YteickckgljlacaaGreatSwC
import Derived.Deep.LoopGhost
import Derived.Deep.RegionHeld3
namespace Go.Proofs.YteickckgljlacaaGreat.Sw
open Go Go.RowKit

section
variable {w0 w w' : World} {E S bn bl k last : Nat} {N : List (Nat × Nd)} {L : List (Nd × Nat)} {M : Mdl} {F : Nat → Prop}
/-- The least handle above the last one that is no node. -/
theorem free_any (s : St w0 S F M) (h : Ex w0 w E S bn bl k N L last) (hl : last ≤ 1 + M.room) :
    Calls Tryz.prog 99 #[.pointer (some ⟨E, 0, none⟩)] w fun e w' => ∃ y : Nat, e = .returned (.int .u32 (y : Int)) ∧ last < y ∧ ¬ M.isNode y ∧ (∀ z, last < z → z < y → M.isNode z) ∧ Ex w0 w' E S bn bl k N L y ∧ Went (XF E bn bl) w w' := by
  have r2 := s.room.2
  have c4 := h.c4
  have f4 := h.blk.frozen 4
  have hw1 : IntKind.u32.wrap ((last : Int) + 1) = (last : Int) + 1 := by rw [IntKind.wrap_u32]; omega
  obtain ⟨h1, g1⟩ := h.setLast (last + 1)
  rw [show ((last + 1 : Nat) : Int) = (last : Int) + 1 by omega] at h1 g1
  have h1A : Aside (Ex w0 (w.setCell ⟨E, 4, none⟩ (.int .u32 ((last : Int) + 1))) E S bn bl k N L (last + 1)) := h1
  have g1A : Aside (Went (XF E bn bl) w (w.setCell ⟨E, 4, none⟩ (.int .u32 ((last : Int) + 1)))) := g1
  have sA : Aside (St w0 S F M) := s
  have topA : Aside (∀ z, M.isNode z → z < 2 + M.room) := fun z hz => s.nodes hz
  clear h h1 g1 s
  go_enter Tryz.func99, Tryz.ntmps99
  go_wp2_with fail
  go_loopg [10] (M.room + 3) (fun g _ wr => ∃ y : Nat, y + g = M.room + last + 4 ∧ last < y ∧ Aside (∀ z, last < z → z < y → M.isNode z) ∧ Aside (Ex w0 wr E S bn bl k N L y) ∧ Aside (Went (XF E bn bl) w wr))
  case atStart => exact ⟨last + 1, by omega, by omega, fun z h1 h2 => by omega, h1A.out, g1A.out⟩
  case round =>
    obtain ⟨y, hg, hy, hn, hE, hG⟩ := hrel
    have hnA : Aside (∀ z, last < z → z < y → M.isNode z) := hn
    have hEA : Aside (Ex w0 wr E S bn bl k N L y) := hE
    have hGA : Aside (Went (XF E bn bl) w wr) := hG
    clear hn hE hG
    have hyr : y ≤ 2 + M.room := by
      by_cases c : y ≤ last + 1
      · omega
      · have := topA.out _ (hnA.out (y - 1) (by omega) (by omega))
        omega
    have KI : ∀ q, Calls Tryz.prog 31 #[.pointer (some ⟨S, 0, none⟩), .int .u32 (y : Int)] (wr.drewN q) fun e w' => e = .returned (.bool (M.nodeB y)) ∧ w' = wr.drewN q := fun q => s_is ((hEA.out.drewN q).st sA.out) y (by omega)
    have c0 := hEA.out.c0
    have c4 := hEA.out.c4
    have hgA : Aside (y + gk = M.room + last + 4 ∧ last < y) := ⟨hg, hy⟩
    clear hg hy f4 hw1
    by_cases nd : M.isNode y
    · rw [Mdl.nodeB_true nd] at KI
      have ndA : Aside (M.isNode y) := nd
      clear nd
      go_wp2_with fail
      go_quiet ((go_at_call 31; exact Calls.quiet_of_same (KI _)))
      have hw2 : IntKind.u32.wrap ((y : Int) + 1) = (y : Int) + 1 := by rw [IntKind.wrap_u32]; omega
      have hE2 := hEA.out.drewN nq
      have d4 := hE2.c4
      have f4 := hE2.blk.frozen 4
      obtain ⟨h3, g3⟩ := hE2.setLast (y + 1)
      rw [show ((y + 1 : Nat) : Int) = (y : Int) + 1 by omega] at h3 g3
      have h3A : Aside (Ex w0 ((wr.drewN nq).setCell ⟨E, 4, none⟩ (.int .u32 ((y : Int) + 1))) E S bn bl k N L (y + 1)) := h3
      have g3A : Aside (Went (XF E bn bl) w ((wr.drewN nq).setCell ⟨E, 4, none⟩ (.int .u32 ((y : Int) + 1)))) := (went_drewN hGA.out nq).trans g3
      clear hE2 h3 g3
      go_wp2_with fail
      go_roundg (gk - 1)
      case measure => have := hgA.out; have := topA.out y ndA.out; omega
      case rel =>
        have := hgA.out
        have := topA.out y ndA.out
        refine ⟨y + 1, by omega, by omega, fun z h1 h2 => ?_, h3A.out, g3A.out⟩
        by_cases e : z = y
        · rw [e]; exact ndA.out
        · exact hnA.out z h1 (by omega)
    · rw [Mdl.nodeB_false nd] at KI
      have ndA : Aside (¬ M.isNode y) := nd
      clear nd
      go_wp2_with fail
      go_quiet ((go_at_call 31; exact Calls.quiet_of_same (KI _)))
      go_wp2_with fail
      go_ret
      exact ⟨y, rfl, hgA.out.2, ndA.out, hnA.out, hEA.out.drewN nq, went_drewN hGA.out nq⟩
/-- What a join leaves. -/
def JnS (M : Mdl) (k p q : Nat) (N : List (Nat × Nd)) (L : List (Nd × Nat)) (last x : Nat) (N' : List (Nat × Nd)) (L' : List (Nd × Nat)) (last' : Nat) : Prop :=
  (p = q ∧ x = p ∧ N' = N ∧ L' = L ∧ last' = last) ∨ (p ≠ q ∧ ((k + 1, p, q), x) ∈ L ∧ N' = N ∧ L' = L ∧ last' = last) ∨ (p ≠ q ∧ (k + 1, p, q) ∉ L.map (·.1) ∧ last < x ∧ ¬ M.isNode x ∧ (∀ z, last < z → z < x → M.isNode z) ∧ N' = N ++ [(x, (k + 1, p, q))] ∧ L' = L ++ [((k + 1, p, q), x)] ∧ last' = x)
theorem nd_kept {B : Nat} {d : Nd} {Q : Nat → Prop} (r : w.rowIs B 139 3 (ndC d)) (g : Went Q w w') (n : ¬ Q B) : w'.rowIs B 139 3 (ndC d) := r.of_block (g.block _ r.lt n)
theorem nd_three {B p q : Nat} (r : w.rowIs B 139 3 (ndC (k + 1, p, q))) : w.cell? ⟨B, 0, none⟩ = some (.int .i64 ((k : Int) + 1)) ∧ w.cell? ⟨B, 1, none⟩ = some (.int .u32 (p : Int)) ∧ w.cell? ⟨B, 2, none⟩ = some (.int .u32 (q : Int)) := by
  obtain ⟨b0, b1, b2⟩ := nd_row r
  change _ = some (Value.int IntKind.i64 ((k + 1 : Nat) : Int)) at b0
  rw [show ((k + 1 : Nat) : Int) = (k : Int) + 1 by omega] at b0
  exact ⟨b0, b1, b2⟩
theorem join_any (s : St w0 S F M) (h : Ex w0 w E S bn bl k N L last) (hl : last ≤ 1 + M.room) (kn : k + 1 < M.n) (p q : Nat) (hN : ∀ y ∈ N.map (·.1), M.isNode y ∨ y ≤ last) :
    Calls Tryz.prog 86 #[.pointer (some ⟨E, 0, none⟩), .int .u32 (p : Int), .int .u32 (q : Int)] w fun e w' => ∃ (x : Nat) (N' : List (Nat × Nd)) (L' : List (Nd × Nat)) (last' : Nat), e = .returned (.int .u32 (x : Int)) ∧ JnS M k p q N L last x N' L' last' ∧ Ex w0 w' E S bn bl k N' L' last' ∧ Went (XF E bn bl) w w' := by
  have n8 := s.ok.le8
  by_cases e : p = q
  · have eb : ((p : Int) == (q : Int)) = true := by rw [beq_iff_eq]; omega
    have fA : Aside (JnS M k p q N L last p N L last) := .inl ⟨e, rfl, rfl, rfl, rfl⟩
    clear e
    go_enter Tryz.func86, Tryz.ntmps86
    go_wp2_with fail
    go_ret
    exact ⟨p, N, L, last, rfl, fA.out, h, Went.refl _ _⟩
  · have eb : ((p : Int) == (q : Int)) = false := by rw [beq_eq_false_iff_ne]; omega
    have hw : IntKind.i64.wrap ((k : Int) + 1) = (k : Int) + 1 := by rw [IntKind.wrap_i64]; omega
    have hw2 : wrap64 ((k : Int) + 1) = (k : Int) + 1 := by unfold wrap64; omega
    have c1 := h.c1
    have eA : Aside (p ≠ q) := e
    clear e
    obtain ⟨B, hB⟩ : ∃ B, w.heap.size = B := ⟨_, rfl⟩
    obtain ⟨w1, hw1⟩ : ∃ w1, w1 = w.alloc (.cells #[.int .i64 ((k : Int) + 1), .int .u32 (p : Int), .int .u32 (q : Int)] 139) := ⟨_, rfl⟩
    have h1 := h.new (.cells #[.int .i64 ((k : Int) + 1), .int .u32 (p : Int), .int .u32 (q : Int)] 139)
    have r1 := nd_new w (k + 1, p, q)
    have hk1 : ((k + 1 : Nat) : Int) = (k : Int) + 1 := by omega
    change World.rowIs (w.alloc (.cells #[.int .i64 ((k + 1 : Nat) : Int), .int .u32 (p : Int), .int .u32 (q : Int)] 139)) _ _ _ _ at r1
    rw [hB, hk1] at r1
    have g1 : Aside (Went (XF E bn bl) w w1) := by show Went _ _ _; rw [hw1]; exact Went.new _ _ _
    have bE : ¬ XF E bn bl B := by
      rintro (e | e | e)
      · have := h.blk.lt; omega
      · have := h.hN.lt; omega
      · have := h.hL.lt; omega
    have bEA : Aside (¬ XF E bn bl B) := bE
    rw [← hw1] at h1 r1
    obtain ⟨b0, b1, b2⟩ := nd_three r1
    have h1A : Aside (Ex w0 w1 E S bn bl k N L last) := h1
    have r1A : Aside (w1.rowIs B 139 3 (ndC (k + 1, p, q))) := r1
    have hkA : Aside (((k + 1 : Nat) : Int) = (k : Int) + 1) := hk1
    have c3 := h1.c3
    have ndA : Aside (ndV (k + 1, p, q) = .agg #[.int .i64 ((k : Int) + 1), .int .u32 (p : Int), .int .u32 (q : Int)]) := by
      show ndV _ = _
      unfold ndV
      rw [hk1]
    have hNA : Aside (∀ y ∈ N.map (·.1), M.isNode y ∨ y ≤ last) := hN
    clear h h1 r1 hk1 bE hN
    by_cases t : (k + 1, p, q) ∈ L.map (·.1)
    · obtain ⟨⟨d, y⟩, hm, hd⟩ := List.mem_map.1 t
      change d = (k + 1, p, q) at hd
      subst hd
      have hmA : Aside (((k + 1, p, q), y) ∈ L) := hm
      have hlk : ∀ m, (Instr.lookup 141 (.map (some bl)) (.agg #[.int .i64 ((k : Int) + 1), .int .u32 (p : Int), .int .u32 (q : Int)]) true).run Tryz.prog (w1.drewN m) = .ok (.tuple #[.int .u32 (y : Int), .bool true]) (w1.drewN m) := fun m => by
        have := lookL_yes (h1A.out.drewN m).hL (k + 1, p, q) y hm true
        rwa [ndA.out] at this
      clear t hm
      go_enter Tryz.func86, Tryz.ntmps86
      go_wp2_with fail
      rw [← hw1]
      clear hw1 hB
      go_quiet (fail)
      have h2 := h1A.out.drewN nq
      have r2 := World.rowIs.of_block (w' := w1.drewN nq) r1A.out rfl
      have g2 : Aside (Went (XF E bn bl) w (w1.drewN nq)) := went_drewN g1.out nq
      clear hlk b0 b1 b2 c3 h1A r1A g1
      generalize w1.drewN nq = w2 at h2 r2 g2 ⊢
      have hlk : ∀ m, (Instr.lookup 141 (.map (some bl)) (.agg #[.int .i64 ((k : Int) + 1), .int .u32 (p : Int), .int .u32 (q : Int)]) false).run Tryz.prog (w2.drewN m) = .ok (.int .u32 (y : Int)) (w2.drewN m) := fun m => by
        have := lookL_yes (h2.drewN m).hL (k + 1, p, q) y hmA.out false
        rwa [ndA.out] at this
      have c3 := h2.c3
      obtain ⟨b0, b1, b2⟩ := nd_three r2
      have h2A : Aside (Ex w0 w2 E S bn bl k N L last) := h2
      clear h2 r2
      go_wp2_with fail
      go_quiet (fail)
      go_wp2_with fail
      go_ret
      exact ⟨y, N, L, last, rfl, .inr (.inl ⟨eA.out, hmA.out, rfl, rfl, rfl⟩), h2A.out.drewN _, went_drewN g2.out _⟩
    · have tA : Aside ((k + 1, p, q) ∉ L.map (·.1)) := t
      have hlk : ∀ m, (Instr.lookup 141 (.map (some bl)) (.agg #[.int .i64 ((k : Int) + 1), .int .u32 (p : Int), .int .u32 (q : Int)]) true).run Tryz.prog (w1.drewN m) = .ok (.tuple #[.int .u32 0, .bool false]) (w1.drewN m) := fun m => by
        have := lookL_no (h1A.out.drewN m).hL (k + 1, p, q) t
        rwa [ndA.out] at this
      clear t
      go_enter Tryz.func86, Tryz.ntmps86
      go_wp2_with fail
      rw [← hw1]
      clear hw1 hB
      go_quiet (fail)
      have h2 := h1A.out.drewN nq
      have r2 := World.rowIs.of_block (w' := w1.drewN nq) r1A.out rfl
      have g2 : Aside (Went (XF E bn bl) w (w1.drewN nq)) := went_drewN g1.out nq
      clear hlk b0 b1 b2 c3 h1A r1A g1
      generalize w1.drewN nq = w2 at h2 r2 g2 ⊢
      have K1 := free_any s h2.drew hl
      obtain ⟨b0, b1, b2⟩ := nd_three r2
      have C2 : w2.drew.cell? ⟨B, 0, none⟩ = some (.int .i64 ((k : Int) + 1)) ∧ w2.drew.cell? ⟨B, 1, none⟩ = some (.int .u32 (p : Int)) ∧ w2.drew.cell? ⟨B, 2, none⟩ = some (.int .u32 (q : Int)) := ⟨b0, b1, b2⟩
      have r2A : Aside (w2.rowIs B 139 3 (ndC (k + 1, p, q))) := r2
      have h2A : Aside (Ex w0 w2 E S bn bl k N L last) := h2
      clear r2 h2 b0 b1 b2
      go_wp2_with fail
      go_region_held3 (fun u => u.cell? ⟨B, 0, none⟩ = some (.int .i64 ((k : Int) + 1)) ∧ u.cell? ⟨B, 1, none⟩ = some (.int .u32 (p : Int)) ∧ u.cell? ⟨B, 2, none⟩ = some (.int .u32 (q : Int))) (first | assumption | exact C2) (first
        | (go_at_call 99; refine K1.mono ?_; clear K1; rintro e w3 ⟨y, rfl, y1, y2, y3, h3, g3⟩; have r3 : Aside (w3.rowIs B 139 3 (ndC (k + 1, p, q))) := nd_kept (w := w2.drew) r2A.out g3 bEA.out; have C3 := nd_three r3.out; have K2 := put_any h3 y (k + 1, p, q) (fun e => (hNA.out y e).elim y2 fun z => by omega) tA.out (by omega); have yA : Aside (last < y ∧ ¬ M.isNode y ∧ ∀ z, last < z → z < y → M.isNode z) := ⟨y1, y2, y3⟩; have g3A : Aside (Went (XF E bn bl) w w3) := g2.out.trans ((Went.refl (XF E bn bl) w2).drew.trans g3); clear y1 y2 y3 g3; rw [ndA.out] at K2)
        | (go_at_call 72; refine K2.mono ?_; clear K2; rintro e w4 ⟨rfl, h4, g4⟩; have r4 : Aside (w4.rowIs B 139 3 (ndC (k + 1, p, q))) := nd_kept r3.out g4 bEA.out; have C4 := nd_three r4.out))
      all_goals
        have hlk : ∀ m, (Instr.lookup 141 (.map (some bl)) (.agg #[.int .i64 ((k : Int) + 1), .int .u32 (p : Int), .int .u32 (q : Int)]) false).run Tryz.prog (w4.drewN m) = .ok (.int .u32 (y : Int)) (w4.drewN m) := fun m => by
          have := lookL_yes (h4.drewN m).hL (k + 1, p, q) y (by simp) false
          rwa [ndA.out] at this
        have c3 := h4.c3
        obtain ⟨b0, b1, b2⟩ := nd_three r4.out
        have h4A : Aside (Ex w0 w4 E S bn bl k (N ++ [(y, k + 1, p, q)]) (L ++ [((k + 1, p, q), y)]) y) := h4
        have g4A : Aside (Went (XF E bn bl) w w4) := g3A.out.trans g4
        clear h4 h3 g4 C3 C2
        go_wp2_with fail
        go_quiet (fail)
        go_wp2_with fail
        go_ret
        exact ⟨y, _, _, y, rfl, .inr (.inr ⟨eA.out, tA.out, yA.out.1, yA.out.2.1, yA.out.2.2, rfl, rfl, rfl⟩), h4A.out.drewN _, went_drewN g4A.out _⟩
end
end Go.Proofs.YteickckgljlacaaGreat.Sw
