/-
  Acts of the deque run to their end one behind the other, without a program.
-/
import Derived.Test.YtfpgdmnbehingaaPure
namespace Go.Proofs.Ytfpgdmnbehingaa
open Go Go.RowKit

section
variable {b n F E : Nat} {c : Nat → Int} {V : Nat → Int}
theorem Holds.start (b n : Nat) (hn : 1 ≤ n) (V : Nat → Int) {c : Nat → Int} (h0 : c b = 0) (h1 : c (b + 1) = 0) : Holds b n c 0 0 V :=
  ⟨h0, h1, Nat.le_refl _, by omega, hn, fun i _ h => absurd h (by omega), by omega⟩
theorem Holds.congr {V' : Nat → Int} (h : Holds b n c F E V) (k : ∀ i, F ≤ i → i < E → V i = V' i) : Holds b n c F E V' :=
  ⟨h.first, h.last, h.le, h.room, h.pos, fun i h1 h2 => (h.val i h1 h2).trans (k i h1 h2), h.small⟩
/-- The first number moved on. -/
theorem Holds.up (h : Holds b n c F E V) (hl : F < E) : Holds b n (upd c b (w64 ((F : Int) + 1))) (F + 1) E V := by
  have hs := h.small
  refine ⟨?_, ?_, hl, by have := h.room; omega, h.pos, fun i h1 h2 => ?_, hs⟩
  · rw [upd_same, w64_small (by omega) (by omega)]; omega
  · rw [upd_other _ _ (by omega)]; exact h.last
  · have := pl_lt b (i : Int) h.pos
    rw [upd_other _ _ (by omega)]
    exact h.val i (by omega) h2
theorem last_back {x : Int} (c : Nat → Int) (y : Int) (h : c (b + 1) = x) (hx : w64 (y + 1) = x) : upd (upd c (b + 1) y) (b + 1) (w64 (y + 1)) = c := by
  funext j
  by_cases d : j = b + 1
  · rw [d, upd_same, hx, h]
  · rw [upd_other _ _ d, upd_other _ _ d]

/-- A push where there is room. -/
theorem push_room (h : Holds b n c F E V) (v : Int) (hr : E < F + n) (hE : E + 1 < 1000000000) :
    (runs b n 16 c (Ac.ofPush v)).2.has = true ∧ (runs b n 16 c (Ac.ofPush v)).2.told = v ∧ Holds b n (runs b n 16 c (Ac.ofPush v)).1 F (E + 1) (fun i => if i = E then v else V i) := by
  have hs := h.small
  have hle := h.le
  have hp := pl_lt b (E : Int) h.pos
  rw [runs_step _ _ (by simp [Ac.ofPush]), nxt1 rfl, after_same (.inr (.inl rfl)), h.last]
  rw [runs_step _ _ (by simp), nxt2 rfl, after_same (.inr (.inr (.inl rfl))), h.first, ah_small (by show _ ≤ (E : Int) - _; omega) (by show (E : Int) - _ ≤ _; omega)]
  rw [if_neg (by show ¬ (n : Int) ≤ (E : Int) - _; omega)]
  rw [runs_step _ _ (by simp), nxt3 rfl, after3 rfl]
  rw [runs_step _ _ (by simp), nxt4 rfl, after4 rfl]
  rw [runs_done _ _ rfl]
  refine ⟨rfl, rfl, ?_⟩
  show Holds b n (upd (upd c (pl b n (E : Int)) v) (b + 1) (w64 (upd c (pl b n (E : Int)) v (b + 1) + 1))) F (E + 1) _
  have e1 : upd c (pl b n (E : Int)) v (b + 1) = (E : Int) := by rw [upd_other _ _ (by omega)]; exact h.last
  rw [e1]
  refine ⟨?_, ?_, by omega, by omega, h.pos, fun i h1 h2 => ?_, hE⟩
  · rw [upd_other _ _ (by omega), upd_other _ _ (by omega)]; exact h.first
  · rw [upd_same, w64_small (by omega) (by omega)]; omega
  · have hpi := pl_lt b (i : Int) h.pos
    rw [upd_other _ _ (by omega)]
    by_cases d : i = E
    · subst d
      rw [upd_same, if_pos rfl]
    · rw [upd_other _ _ (pl_ne b (by omega) (by omega)), if_neg d]
      exact h.val i h1 (by omega)
/-- A push where there is none. -/
theorem push_full (h : Holds b n c F E V) (v : Int) (hr : E = F + n) :
    (runs b n 16 c (Ac.ofPush v)).2.has = false ∧ (runs b n 16 c (Ac.ofPush v)).2.told = 0 ∧ (runs b n 16 c (Ac.ofPush v)).1 = c := by
  have hs := h.small
  have hle := h.le
  rw [runs_step _ _ (by simp [Ac.ofPush]), nxt1 rfl, after_same (.inr (.inl rfl)), h.last]
  rw [runs_step _ _ (by simp), nxt2 rfl, after_same (.inr (.inr (.inl rfl))), h.first, ah_small (by show _ ≤ (E : Int) - _; omega) (by show (E : Int) - _ ≤ _; omega)]
  rw [if_pos (by show (n : Int) ≤ (E : Int) - _; omega)]
  rw [runs_done _ _ rfl]
  exact ⟨rfl, rfl, rfl⟩
/-- A steal where there is something. -/
theorem steal_some (h : Holds b n c F E V) (hr : F < E) :
    (runs b n 16 c Ac.ofSteal).2.has = true ∧ (runs b n 16 c Ac.ofSteal).2.told = V F ∧ Holds b n (runs b n 16 c Ac.ofSteal).1 (F + 1) E V := by
  have hs := h.small
  have hle := h.le
  rw [runs_step _ _ (by simp [Ac.ofSteal]), nxt10 rfl, after_same (by simp [Ac.ofSteal]), h.first]
  rw [runs_step _ _ (by simp), nxt11 rfl, after_same (by simp), h.last, ah_small (by show _ ≤ (E : Int) - (F : Int); omega) (by show (E : Int) - (F : Int) ≤ _; omega)]
  rw [if_neg (by show ¬ (E : Int) - (F : Int) < 1; omega)]
  rw [runs_step _ _ (by simp), nxt12 rfl, after_same (by simp)]
  rw [runs_step _ _ (by simp), nxt13 rfl, after13 rfl, if_pos h.first, if_pos h.first]
  rw [runs_done _ _ rfl]
  exact ⟨rfl, h.val F (Nat.le_refl _) hr, h.up hr⟩
theorem steal_none (h : Holds b n c F F V) :
    (runs b n 16 c Ac.ofSteal).2.has = false ∧ (runs b n 16 c Ac.ofSteal).2.told = 0 ∧ (runs b n 16 c Ac.ofSteal).1 = c := by
  have hs := h.small
  rw [runs_step _ _ (by simp [Ac.ofSteal]), nxt10 rfl, after_same (by simp [Ac.ofSteal]), h.first]
  rw [runs_step _ _ (by simp), nxt11 rfl, after_same (by simp), h.last, ah_small (by show _ ≤ (F : Int) - (F : Int); omega) (by show (F : Int) - (F : Int) ≤ _; omega)]
  rw [if_pos (by show (F : Int) - (F : Int) < 1; omega)]
  rw [runs_done _ _ rfl]
  exact ⟨rfl, rfl, rfl⟩
/-- A pop where there are several. -/
theorem pop_more (h : Holds b n c F E V) (hr : F + 1 < E) :
    (runs b n 16 c Ac.ofPop).2.has = true ∧ (runs b n 16 c Ac.ofPop).2.told = V (E - 1) ∧ Holds b n (runs b n 16 c Ac.ofPop).1 F (E - 1) V := by
  have hs := h.small
  have hle := h.le
  have hx : w64 (c (b + 1) + 18446744073709551615) = ((E - 1 : Nat) : Int) := by rw [h.last, w64_back (by omega) (by omega)]; omega
  rw [runs_step _ _ (by simp [Ac.ofPop]), nxt5 rfl, after5 rfl, hx]
  have h0 : upd c (b + 1) ((E - 1 : Nat) : Int) b = (F : Int) := by rw [upd_other _ _ (by omega)]; exact h.first
  rw [runs_step _ _ (by simp), nxt6 rfl, after_same (by simp), h0, ah_small (by show _ ≤ ((E - 1 : Nat) : Int) - (F : Int); omega) (by show ((E - 1 : Nat) : Int) - (F : Int) ≤ _; omega)]
  rw [if_neg (by show ¬ ((E - 1 : Nat) : Int) - (F : Int) < 0; omega)]
  rw [runs_step _ _ (by simp), nxt7 rfl, after_same (by simp), if_neg (by show ¬ (F : Int) = ((E - 1 : Nat) : Int); omega)]
  rw [runs_done _ _ rfl]
  have hp := fun i : Nat => pl_lt b (i : Int) h.pos
  refine ⟨rfl, ?_, ⟨h0, upd_same _ _ _, by omega, by have := h.room; omega, h.pos, fun i h1 h2 => ?_, by omega⟩⟩
  · show upd c (b + 1) ((E - 1 : Nat) : Int) (pl b n ((E - 1 : Nat) : Int)) = _
    rw [upd_other _ _ (by have := hp (E - 1); omega)]
    exact h.val _ (by omega) (by omega)
  · show upd c (b + 1) ((E - 1 : Nat) : Int) (pl b n (i : Int)) = _
    rw [upd_other _ _ (by have := hp i; omega)]
    exact h.val _ h1 (by omega)
/-- A pop of the only one. -/
theorem pop_one (h : Holds b n c F (F + 1) V) :
    (runs b n 16 c Ac.ofPop).2.has = true ∧ (runs b n 16 c Ac.ofPop).2.told = V F ∧ Holds b n (runs b n 16 c Ac.ofPop).1 (F + 1) (F + 1) V := by
  have hs := h.small
  have hx : w64 (c (b + 1) + 18446744073709551615) = (F : Int) := by rw [h.last, w64_back (by omega) (by omega)]; omega
  rw [runs_step _ _ (by simp [Ac.ofPop]), nxt5 rfl, after5 rfl, hx]
  have h0 : upd c (b + 1) (F : Int) b = (F : Int) := by rw [upd_other _ _ (by omega)]; exact h.first
  rw [runs_step _ _ (by simp), nxt6 rfl, after_same (by simp), h0, ah_small (by show _ ≤ (F : Int) - (F : Int); omega) (by show (F : Int) - (F : Int) ≤ _; omega)]
  rw [if_neg (by show ¬ (F : Int) - (F : Int) < 0; omega)]
  rw [runs_step _ _ (by simp), nxt7 rfl, after_same (by simp), if_pos rfl]
  rw [runs_step _ _ (by simp), nxt8 rfl, after8 rfl, if_pos h0, if_pos h0]
  rw [runs_step _ _ (by simp), nxt9 rfl, after9 rfl]
  rw [runs_done _ _ rfl]
  have hp := fun i : Nat => pl_lt b (i : Int) h.pos
  have e1 : upd (upd c (b + 1) (F : Int)) b (w64 ((F : Int) + 1)) (b + 1) = (F : Int) := by rw [upd_other _ _ (by omega), upd_same]
  refine ⟨rfl, ?_, ⟨?_, ?_, by omega, by omega, h.pos, fun i h1 h2 => absurd h2 (by omega), hs⟩⟩
  · show upd c (b + 1) (F : Int) (pl b n (F : Int)) = _
    rw [upd_other _ _ (by have := hp F; omega)]
    exact h.val _ (by omega) (by omega)
  · show upd (upd (upd c (b + 1) (F : Int)) b (w64 ((F : Int) + 1))) (b + 1) _ b = _
    rw [upd_other _ _ (by omega), upd_same, w64_small (by omega) (by omega)]; omega
  · show upd (upd (upd c (b + 1) (F : Int)) b (w64 ((F : Int) + 1))) (b + 1) (w64 (upd (upd c (b + 1) (F : Int)) b (w64 ((F : Int) + 1)) (b + 1) + 1)) (b + 1) = _
    rw [upd_same, e1, w64_small (by omega) (by omega)]; omega
theorem pop_none (h : Holds b n c F F V) :
    (runs b n 16 c Ac.ofPop).2.has = false ∧ (runs b n 16 c Ac.ofPop).2.told = 0 ∧ (runs b n 16 c Ac.ofPop).1 = c := by
  have hs := h.small
  obtain ⟨x, hx⟩ : ∃ x, w64 (c (b + 1) + 18446744073709551615) = x := ⟨_, rfl⟩
  rw [runs_step _ _ (by simp [Ac.ofPop]), nxt5 rfl, after5 rfl, hx]
  have h0 : upd c (b + 1) x b = (F : Int) := by rw [upd_other _ _ (by omega)]; exact h.first
  have hL := h.last
  have ha : ah (F : Int) x < 0 := by rw [← hx, hL]; unfold ah wrap64 w64; omega
  have hb : w64 (x + 1) = (F : Int) := by rw [← hx, hL]; unfold w64; omega
  rw [runs_step _ _ (by simp), nxt6 rfl, after_same (by simp), h0, if_pos ha]
  rw [runs_step _ _ (by simp), nxt9 rfl, after9 rfl]
  rw [runs_done _ _ rfl]
  refine ⟨rfl, rfl, ?_⟩
  show upd (upd c (b + 1) x) (b + 1) (w64 (upd c (b + 1) x (b + 1) + 1)) = c
  rw [upd_same]
  exact last_back c x hL hb
end
end Go.Proofs.Ytfpgdmnbehingaa
