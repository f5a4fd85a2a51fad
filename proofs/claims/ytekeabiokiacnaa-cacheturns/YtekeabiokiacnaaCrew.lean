/-
  A row of acts of one cache: what a step of one of them does to all.
-/
import Derived.Test.YtekeabiokiacnaaOwn
import Derived.Test.YtekeabiokiacnaaTurnsM
import Derived.Deep.RegionLaw
namespace Go.Proofs.Ytekeabiokiacnaa
open Go Go.RowKit

/-- The m acts at As, in the states Ss, of the cache at T with the cells c. -/
structure Crew (W w : World) (R T n m : Nat) (ad : Option Addr) (cap : Nat) (As : Nat → Nat) (Ss : Nat → Ac) (c : Nat → Int) (o : Int) : Prop where
  sys : ∃ f, Sys w (R + 1) R (4 * n) T 0 n c o f
  own : OwnR 37 w W.heap.size ad m cap (fun i => .pointer (some ⟨As i, 0, none⟩))
  acts : ∀ i, i < m → IsAct w (As i) (R + 1) (Ss i) ∧ W.heap.size ≤ As i
  inj : ∀ i j, i < m → j < m → As i = As j → i = j
  old : Below W.heap.size W w
  hR : W.heap.size ≤ R

def setA (As : Nat → Nat) (k : Nat) (A : Nat) : Nat → Nat := fun i => if i = k then A else As i
theorem setA_same (As : Nat → Nat) (k : Nat) (A : Nat) : setA As k A k = A := by simp [setA]
theorem setA_other (As : Nat → Nat) {k i : Nat} (A : Nat) (h : i ≠ k) : setA As k A i = As i := by simp [setA, h]

section
variable {W w w' : World} {R T n m cap : Nat} {ad : Option Addr} {As : Nat → Nat} {Ss : Nat → Ac} {c : Nat → Int} {o : Int}
theorem Crew.size (h : Crew W w R T n m ad cap As Ss c o) : W.heap.size ≤ w.heap.size := h.old.size
theorem Crew.stand (h : Crew W w R T n m ad cap As Ss c o) : Stand W w R (4 * n) T 0 n c := by
  obtain ⟨f, H⟩ := h.sys
  exact ⟨⟨o, f, H⟩, h.old, h.hR⟩
theorem Crew.act (h : Crew W w R T n m ad cap As Ss c o) {k : Nat} (hk : k < m) : IsAct w (As k) (R + 1) (Ss k) := (h.acts k hk).1
theorem Crew.new (h : Crew W w R T n m ad cap As Ss c o) (k : Below w.heap.size w w') : Crew W w' R T n m ad cap As Ss c o := by
  obtain ⟨f, H⟩ := h.sys
  exact ⟨⟨f, H.below k⟩, h.own.below k, fun i hi => ⟨(h.acts i hi).1.below k, (h.acts i hi).2⟩, h.inj, far h.old k h.size, h.hR⟩
theorem Crew.drawn (h : Crew W w R T n m ad cap As Ss c o) (q : Nat) : Crew W (w.drewN q) R T n m ad cap As Ss c o := by
  obtain ⟨f, H⟩ := h.sys
  exact ⟨⟨f, H.drewN q⟩, h.own.kept (fun _ _ => rfl), fun i hi => ⟨(h.acts i hi).1.drewN q, (h.acts i hi).2⟩, h.inj, ⟨h.old.os, h.old.tape, h.old.output, h.old.size, h.old.block⟩, h.hR⟩
theorem Crew.drew (h : Crew W w R T n m ad cap As Ss c o) : Crew W w.drew R T n m ad cap As Ss c o := by
  obtain ⟨f, H⟩ := h.sys
  exact ⟨⟨f, H.drew⟩, h.own.kept (fun _ _ => rfl), fun i hi => ⟨(h.acts i hi).1.drew, (h.acts i hi).2⟩, h.inj, ⟨h.old.os, h.old.tape, h.old.output, h.old.size, h.old.block⟩, h.hR⟩
/-- Behind what was done to a row of numbers of the call's own. -/
theorem Crew.row {m2 cap2 : Nat} {ad2 : Option Addr} {V2 : Nat → Value} (h : Crew W w R T n m ad cap As Ss c o) (o2 : OwnR 3 w W.heap.size ad2 m2 cap2 V2) (k : Went (At ad2) w w') : Crew W w' R T n m ad cap As Ss c o := by
  obtain ⟨f, H⟩ := h.sys
  exact ⟨⟨f, H.row o2 (.inr rfl) k⟩, h.own.row o2 (by decide) k, fun i hi => ⟨(h.acts i hi).1.row o2 (.inr rfl) k, (h.acts i hi).2⟩, h.inj, h.old.trans (k.below h.size fun b hb => (o2.block b hb).1), h.hR⟩
/-- One act more. -/
theorem Crew.add {w2 : World} {A g cap' : Nat} {S : Ac} (h : Crew W w R T n m ad cap As Ss c o) (hF : IsAct w A (R + 1) S) (hWF : W.heap.size ≤ A) (hnew : ∀ i, i < m → As i ≠ A)
    (o2 : OwnR 37 w2 W.heap.size (some ⟨g, 0, none⟩) (m + 1) cap' (fun i => if i = m then .pointer (some ⟨A, 0, none⟩) else .pointer (some ⟨As i, 0, none⟩))) (k : Went (At ad) w w2) :
    Crew W w2 R T n (m + 1) (some ⟨g, 0, none⟩) cap' (setA As m A) (setS Ss m S) c o := by
  obtain ⟨f, H⟩ := h.sys
  refine ⟨⟨f, H.row h.own (.inl rfl) k⟩, o2.congr fun i hi => ?_, fun i hi => ?_, fun i j hi hj e => ?_, h.old.trans (k.below h.size fun b hb => (h.own.block b hb).1), h.hR⟩
  · by_cases d : i = m
    · simp only [d, if_true, setA_same]
    · simp only [d, if_false, setA_other _ _ d]
  · by_cases d : i = m
    · rw [d, setA_same, setS_same]
      exact ⟨hF.row h.own (.inl rfl) k, hWF⟩
    · rw [setA_other _ _ d, setS_other _ _ d]
      have := h.acts i (by omega)
      exact ⟨this.1.row h.own (.inl rfl) k, this.2⟩
  · by_cases d : i = m
    · by_cases d2 : j = m
      · omega
      · rw [d, setA_same, setA_other _ _ d2] at e
        exact absurd e.symm (hnew j (by omega))
    · by_cases d2 : j = m
      · rw [d2, setA_same, setA_other _ _ d] at e
        exact absurd e (hnew i (by omega))
      · rw [setA_other _ _ d, setA_other _ _ d2] at e
        exact h.inj i j (by omega) (by omega) e
/-- A step of act k, which is under way. -/
theorem crew_step (h : Crew W w R T n m ad cap As Ss c o) {k : Nat} (hk : k < m) (f : Fit (4 * n) (Ss k)) (h0 : ¬ (Ss k).st = 0) :
    Calls Try.prog 15 #[.pointer (some ⟨As k, 0, none⟩)] w fun e w' => e = .returned (.bool (decide (((Ss k).nxt c).st = 0))) ∧
      Crew W w' R T n m ad cap As (setS Ss k ((Ss k).nxt c)) ((Ss k).after c) (wrap64 (o + 1)) ∧ Went (Foot (R + 1) R (As k)) w w' := by
  obtain ⟨g, H⟩ := h.sys
  obtain ⟨ka, hW⟩ := h.acts k hk
  refine (step_on H ka f h0).mono ?_
  rintro e w' ⟨rfl, s1, k1, b1⟩
  refine ⟨rfl, ⟨s1, h.own.went (.inl rfl) H ka b1, fun i hi => ?_, h.inj, h.old.trans (b1.below h.size fun i hi => by have := h.hR; rcases hi with e | e | e <;> omega), h.hR⟩, b1⟩
  by_cases d : i = k
  · rw [d, setS_same]
    exact ⟨k1, hW⟩
  · rw [setS_other _ _ d]
    obtain ⟨ki, hWi⟩ := h.acts i hi
    have hne : As i ≠ As k := fun e => d (h.inj i k hi hk e)
    refine ⟨ki.kept (b1.block _ ki.lt fun e => ?_), hWi⟩
    rcases e with e | e | e
    · exact ki.neP H.mem e
    · exact ki.neR H.mem e
    · exact hne e
theorem crew_get (h : Crew W w R T n m ad cap As Ss c o) (key : Int) (h0 : 0 ≤ key) (h1 : key ≤ 18446744073709551615) :
    Calls Try.prog 12 #[.pointer (some ⟨T, 0, none⟩), .int .u64 key] w fun e w' => ∃ A, e = .returned (.pointer (some ⟨A, 0, none⟩)) ∧ IsAct w' A (R + 1) (Ac.ofGet (line 0 n key) key) ∧ W.heap.size ≤ A ∧ Crew W w' R T n m ad cap As Ss c o ∧ Below w.heap.size w w' ∧ (∀ i, i < m → As i ≠ A) := by
  refine (s_get h.stand key rfl h0 h1).mono ?_
  rintro e w' ⟨A, rfl, k1, a1, _, b1, e1⟩
  exact ⟨A, rfl, k1, a1, h.new b1, b1, fun i hi e => by have := (h.acts i hi).1.lt; have := e1.out; omega⟩
theorem crew_put (h : Crew W w R T n m ad cap As Ss c o) (key val : Int) (h0 : 0 ≤ key) (h1 : key ≤ 18446744073709551615) (h2 : 0 ≤ val) (h3 : val ≤ 18446744073709551615) :
    Calls Try.prog 11 #[.pointer (some ⟨T, 0, none⟩), .int .u64 key, .int .u64 val] w fun e w' => ∃ A, e = .returned (.pointer (some ⟨A, 0, none⟩)) ∧ IsAct w' A (R + 1) (Ac.ofPut (line 0 n key) key val) ∧ W.heap.size ≤ A ∧ Crew W w' R T n m ad cap As Ss c o ∧ Below w.heap.size w w' ∧ (∀ i, i < m → As i ≠ A) := by
  refine (s_put h.stand key val rfl h0 h1 h2 h3).mono ?_
  rintro e w' ⟨A, rfl, k1, a1, _, b1, e1⟩
  exact ⟨A, rfl, k1, a1, h.new b1, b1, fun i hi e => by have := (h.acts i hi).1.lt; have := e1.out; omega⟩
theorem crew_done (h : Crew W w R T n m ad cap As Ss c o) {k : Nat} (hk : k < m) (b : Bool) (hb : decide ((Ss k).st = 0) = b) :
    Calls Try.prog 13 #[.pointer (some ⟨As k, 0, none⟩)] w fun e w' => e = .returned (.bool b) ∧ w' = w := by
  have := done_any (h.act hk)
  rw [hb] at this
  exact this
theorem crew_ops (h : Crew W w R T n m ad cap As Ss c o) :
    Calls Try.prog 14 #[.pointer (some ⟨R + 1, 0, none⟩)] w fun e w' => e = .returned (.int .i64 o) ∧ w' = w := by
  obtain ⟨f, H⟩ := h.sys
  exact ops_any _ _ _ _ _ _ _ H.mem
end

theorem nxt_same (c : Nat → Int) (S : Ac) : (S.nxt c).put = S.put ∧ (S.nxt c).key = S.key ∧ (S.nxt c).val = S.val := by
  unfold Ac.nxt
  repeat' split
  all_goals exact ⟨rfl, rfl, rfl⟩
theorem nxt_won {c : Nat → Int} {S : Ac} (h : S.st = 0) : (S.nxt c).won = S.won := by rw [nxt0 h]

/-- The acts, the count of each one's steps, and what they are. -/
structure TurnI (W w : World) (R T n m : Nat) (ad : Option Addr) (cap : Nat) (adS : Option Addr) (capS : Nat) (As : Nat → Nat) (Ss : Nat → Ac) (St : Nat → Nat) (c : Nat → Int) (o : Int) (Pt : Nat → Bool) (Ky Vl : Nat → Int) : Prop where
  crew : Crew W w R T n m ad cap As Ss c o
  steps : OwnR 3 w W.heap.size adS m capS (fun i => .int .i64 (St i : Int))
  turn : Turn m n Ss c
  few : ∀ a, a < m → St a + (Ss a).mu ≤ 5
  won : ∀ a, a < m → (Ss a).won = true → 0 < St a
  same : ∀ a, a < m → (Ss a).put = Pt a ∧ (Ss a).key = Ky a % 6 ∧ (Pt a = true → (Ss a).val = Vl a)
section
variable {W w w' : World} {R T n m cap capS : Nat} {ad adS : Option Addr} {As : Nat → Nat} {Ss : Nat → Ac} {St : Nat → Nat} {c : Nat → Int} {o : Int} {Pt : Nat → Bool} {Ky Vl : Nat → Int}
theorem TurnI.drawn (h : TurnI W w R T n m ad cap adS capS As Ss St c o Pt Ky Vl) (q : Nat) : TurnI W (w.drewN q) R T n m ad cap adS capS As Ss St c o Pt Ky Vl :=
  ⟨h.crew.drawn q, h.steps.kept (fun _ _ => rfl), h.turn, h.few, h.won, h.same⟩
/-- What a get that has found something tells was put with its key by a put that had begun. -/
theorem TurnI.hit (h : TurnI W w R T n m ad cap adS capS As Ss St c o Pt Ky Vl) {k : Nat} (hk : k < m) (hf : (Ss k).found = true) :
    Pt k = false ∧ ∃ q, q < m ∧ Pt q = true ∧ 0 < St q ∧ Ky q % 6 = Ky k % 6 ∧ Vl q = (Ss k).told := by
  have g := h.turn.each k hk
  have s := h.same k hk
  have hp : (Ss k).put = false := by
    cases e : (Ss k).put with
    | false => rfl
    | true => have := (g.put e).2.1; rw [hf] at this; cases this
  obtain ⟨q, h1, h2, h3, h4, h5⟩ := g.hit hp hf
  have sq := h.same q h1
  have hq : Pt q = true := sq.1.symm.trans h3
  refine ⟨s.1.symm.trans hp, q, h1, hq, h.won q h1 h2, ?_, ?_⟩
  · rw [← sq.2.1, ← s.2.1]; exact h4
  · unfold Ac.told
    rw [if_pos hf, ← h5]
    exact (sq.2.2 hq).symm
/-- Behind a step of act k. -/
theorem TurnI.step (h : TurnI W w R T n m ad cap adS capS As Ss St c o Pt Ky Vl) {k : Nat} (hk : k < m) (hm : m ≤ 1000) (h0 : ¬ (Ss k).st = 0) :
    Turn m n (setS Ss k ((Ss k).nxt c)) ((Ss k).after c) ∧ (∀ a, a < m → (if a = k then St k + 1 else St a) + (setS Ss k ((Ss k).nxt c) a).mu ≤ 5) ∧ (∀ a, a < m → (setS Ss k ((Ss k).nxt c) a).won = true → 0 < if a = k then St k + 1 else St a) ∧ (∀ a, a < m → (setS Ss k ((Ss k).nxt c) a).put = Pt a ∧ (setS Ss k ((Ss k).nxt c) a).key = Ky a % 6 ∧ (Pt a = true → (setS Ss k ((Ss k).nxt c) a).val = Vl a)) := by
  have f := h.turn.fit k hk
  have mu := f.mu_step (c := c) h0
  refine ⟨h.turn.step hk hm, fun a ha => ?_, fun a ha hw => ?_, fun a ha => ?_⟩
  · by_cases d : a = k
    · rw [d, if_pos rfl, setS_same]; have := h.few k hk; omega
    · rw [if_neg d, setS_other _ _ d]; exact h.few a ha
  · by_cases d : a = k
    · rw [if_pos d]; omega
    · rw [if_neg d]
      rw [setS_other _ _ d] at hw
      exact h.won a ha hw
  · by_cases d : a = k
    · rw [d, setS_same]
      have e := nxt_same c (Ss k)
      rw [e.1, e.2.1, e.2.2]
      exact h.same k hk
    · rw [setS_other _ _ d]; exact h.same a ha
end
end Go.Proofs.Ytekeabiokiacnaa
