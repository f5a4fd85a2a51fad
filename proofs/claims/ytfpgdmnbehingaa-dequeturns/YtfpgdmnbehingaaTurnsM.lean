/-
  An owner that pushes and pops, three thieves that steal, in whatever turns, without a program: what was pushed is taken once at most, and what isn't taken is there, in its order.
-/
import Derived.Test.YtfpgdmnbehingaaLastM
namespace Go.Proofs.Ytfpgdmnbehingaa
open Go Go.RowKit

/-- A row with one number more. -/
def ext (K : Nat → Int) (L : Nat) (v : Int) : Nat → Int := fun i => if i = L then v else K i
theorem ext_old {K : Nat → Int} {L i : Nat} (v : Int) (h : i < L) : ext K L v i = K i := if_neg (by omega)
theorem ext_new (K : Nat → Int) (L : Nat) (v : Int) : ext K L v L = v := if_pos rfl

/-- P numbers were pushed, 1 to P; the L numbers K were taken, each once; the others are there, in their order. -/
structure Book (F T : Nat) (V : Nat → Int) (P : Nat) (K : Nat → Int) (L : Nat) : Prop where
  rng : ∀ i, i < L → 1 ≤ K i ∧ K i ≤ (P : Int)
  inj : ∀ i j, i < j → j < L → K i ≠ K j
  live : ∀ i, F ≤ i → i < T → 1 ≤ V i ∧ V i ≤ (P : Int) ∧ ∀ j, j < L → K j ≠ V i
  inc : ∀ i j, F ≤ i → i < j → j < T → V i < V j
  all : ∀ v : Int, 1 ≤ v → v ≤ (P : Int) → (∃ j, j < L ∧ K j = v) ∨ ∃ i, F ≤ i ∧ i < T ∧ V i = v

section
variable {F T P L : Nat} {V K : Nat → Int}
theorem Book.start (V K : Nat → Int) : Book 0 0 V 0 K 0 :=
  ⟨fun i h => absurd h (by omega), fun i j _ h => absurd h (by omega), fun i _ h => absurd h (by omega), fun i j _ _ h => absurd h (by omega), fun v h1 h2 => by omega⟩
theorem Book.push (h : Book F T V P K L) (hF : F ≤ T) : Book F (T + 1) (fun i => if i = T then ((P : Int) + 1) else V i) (P + 1) K L := by
  refine ⟨fun i hi => ?_, h.inj, fun i h1 h2 => ?_, fun i j h1 h2 h3 => ?_, fun v h1 h2 => ?_⟩
  · have := h.rng i hi; omega
  · by_cases d : i = T
    · simp only [d, if_true]
      exact ⟨by omega, by omega, fun j hj => by have := h.rng j hj; omega⟩
    · simp only [d, if_false]
      have := h.live i h1 (by omega)
      exact ⟨this.1, by omega, this.2.2⟩
  · simp only [show ¬ i = T by omega, if_false]
    by_cases d : j = T
    · simp only [d, if_true]
      have := h.live i h1 (by omega)
      omega
    · simp only [d, if_false]
      exact h.inc i j h1 h2 (by omega)
  · by_cases d : v = (P : Int) + 1
    · exact .inr ⟨T, hF, by omega, by simp [d]⟩
    · rcases h.all v h1 (by omega) with q | ⟨i, q1, q2, q3⟩
      · exact .inl q
      · exact .inr ⟨i, q1, by omega, by simp only [show ¬ i = T by omega, if_false]; exact q3⟩
/-- What is taken is one of those that are there. -/
theorem Book.take {x F' T' : Nat} (h : Book F T V P K L) (h1 : F ≤ x) (h2 : x < T) (hF : F ≤ F') (hT : T' ≤ T) (hx : ∀ i, F' ≤ i → i < T' → i ≠ x) (hb : ∀ i, F ≤ i → i < T → i = x ∨ F' ≤ i ∧ i < T') : Book F' T' V P (ext K L (V x)) (L + 1) := by
  have lx := h.live x h1 h2
  have hne : ∀ i j, F ≤ i → i < T → F ≤ j → j < T → i ≠ j → V i ≠ V j := fun i j a1 a2 a3 a4 d => by
    rcases Nat.lt_or_gt_of_ne d with q | q
    · have := h.inc i j a1 q a4; omega
    · have := h.inc j i a3 q a2; omega
  refine ⟨fun i hi => ?_, fun i j hij hj => ?_, fun i q1 q2 => ?_, fun i j q1 q2 q3 => h.inc i j (by omega) q2 (by omega), fun v q1 q2 => ?_⟩
  · by_cases d : i = L
    · rw [d, ext_new]; exact ⟨lx.1, lx.2.1⟩
    · rw [ext_old _ (by omega)]; exact h.rng i (by omega)
  · rw [ext_old _ (by omega)]
    by_cases d : j = L
    · rw [d, ext_new]; exact lx.2.2 i (by omega)
    · rw [ext_old _ (by omega)]; exact h.inj i j hij (by omega)
  · have li := h.live i (by omega) (by omega)
    refine ⟨li.1, li.2.1, fun j hj => ?_⟩
    by_cases d : j = L
    · rw [d, ext_new]; exact hne x i h1 h2 (by omega) (by omega) fun e => hx i q1 q2 e.symm
    · rw [ext_old _ (by omega)]; exact li.2.2 j (by omega)
  · rcases h.all v q1 q2 with ⟨j, r1, r2⟩ | ⟨i, r1, r2, r3⟩
    · exact .inl ⟨j, by omega, by rw [ext_old _ r1]; exact r2⟩
    · rcases hb i r1 r2 with d | ⟨d1, d2⟩
      · exact .inl ⟨L, by omega, by rw [ext_new, ← d]; exact r3⟩
      · exact .inr ⟨i, d1, d2, r3⟩
end

def Pend (O : Ac) : Prop := O.st = 9 ∧ O.got = true
def setN (f : Nat → Nat) (k x : Nat) : Nat → Nat := fun i => if i = k then x else f i
theorem setN_same (f : Nat → Nat) (k x : Nat) : setN f k x k = x := by simp [setN]
theorem setN_other (f : Nat → Nat) {k i : Nat} (x : Nat) (h : i ≠ k) : setN f k x i = f i := by simp [setN, h]

/-- The four acts Ss (act 0 is the owner's; done where there is none), how many steps each has made, what the owner pushes (0: it pops), how many were put, what was taken. -/
structure GameI (n : Nat) (c : Nat → Int) (Ss : Nat → Ac) (stp : Nat → Nat) (push : Int) (P L : Nat) (K : Nat → Int) : Prop where
  fit : ∀ q, q < 4 → Fit (Ss q)
  u64 : U64 c
  few : ∀ q, q < 4 → stp q + (Ss q).mu ≤ 16
  idle : ∀ q, q < 4 → (Ss q).st = 0 → stp q = 0
  pushing : 1 ≤ (Ss 0).st → (Ss 0).st ≤ 4 → push = (P : Int) + 1 ∧ (Ss 0).value = (P : Int) + 1
  popping : 5 ≤ (Ss 0).st → push = 0
  conc : ∃ F T V, Conc 0 n c F T V (Ss 0) 3 (fun i => Ss (i + 1)) ∧ T ≤ P ∧ (Pend (Ss 0) → Book F T V P (ext K L (Ss 0).value) (L + 1)) ∧ (¬ Pend (Ss 0) → Book F T V P K L)

section
variable {n P L : Nat} {c : Nat → Int} {Ss : Nat → Ac} {stp : Nat → Nat} {push : Int} {K : Nat → Int}
theorem GameI.start (n : Nat) (hn : 1 ≤ n) (K : Nat → Int) (S : Ac) (hS : S.st = 0) (hf : Fit S) (hg : S.got = false) : GameI n (fun _ => 0) (fun _ => S) (fun _ => 0) 0 0 0 K := by
  refine ⟨fun _ _ => hf, fun _ => ⟨Int.le_refl 0, show (0 : Int) ≤ _ by omega⟩, fun _ _ => by rw [mu_zero hS]; omega, fun _ _ _ => rfl, fun h => absurd h (by omega), fun _ => rfl, 0, 0, fun _ => 0, ?_, Nat.le_refl _, fun h => absurd h.1 (by omega), fun _ => Book.start _ _⟩
  exact (Holds.start (c := fun _ => 0) 0 n hn (fun _ => 0) rfl rfl).conc (OwnOK.fresh (.inl hS) fun _ => hg) (by omega) fun i _ => ThOK.fresh (.inl hS)
/-- The owner begins. -/
theorem GameI.begin {O : Ac} {push' : Int} (h : GameI n c Ss stp push P L K) (h0 : (Ss 0).st = 0) (hf : Fit O) (hg : O.got = false) (hO : O.st = 1 ∧ push' = (P : Int) + 1 ∧ O.value = (P : Int) + 1 ∨ O.st = 5 ∧ push' = 0) : GameI n c (setS Ss 0 O) stp push' P L K := by
  obtain ⟨F, T, V, C, hT, hp, hb⟩ := h.conc
  have hth : (fun i => setS Ss 0 O (i + 1)) = fun i => Ss (i + 1) := by funext i; rw [setS_other _ _ (by omega)]
  refine ⟨fun q hq => ?_, h.u64, fun q hq => ?_, fun q hq => ?_, fun h1 h2 => ?_, fun h1 => ?_, F, T, V, ?_, hT, fun k => ?_, fun _ => hb fun k => absurd k.1 (by omega)⟩
  · by_cases d : q = 0
    · subst d; rw [setS_same]; exact hf
    · rw [setS_other _ _ d]; exact h.fit q hq
  · by_cases d : q = 0
    · subst d; rw [setS_same, h.idle 0 hq h0]; have := hf.mu_le; omega
    · rw [setS_other _ _ d]; exact h.few q hq
  · by_cases d : q = 0
    · subst d; exact fun _ => h.idle 0 hq h0
    · rw [setS_other _ _ d]; exact h.idle q hq
  · rw [setS_same] at h1 h2 ⊢
    rcases hO with ⟨_, e, e'⟩ | ⟨e, _⟩
    · exact ⟨e, e'⟩
    · omega
  · rw [setS_same] at h1
    rcases hO with ⟨e, _⟩ | ⟨_, e⟩
    · omega
    · exact e
  · rw [setS_same, hth]
    exact C.begin h0 (by rcases hO with ⟨e, _⟩ | ⟨e, _⟩ <;> omega) fun _ => hg
  · rw [setS_same] at k
    have := k.1
    rcases hO with ⟨e, _⟩ | ⟨e, _⟩ <;> omega
/-- A thief begins. -/
theorem GameI.enter {S : Ac} (h : GameI n c Ss stp push P L K) {k : Nat} (hk : k < 3) (h0 : (Ss (k + 1)).st = 0) (hf : Fit S) (hS : S.st = 10) : GameI n c (setS Ss (k + 1) S) stp push P L K := by
  obtain ⟨F, T, V, C, hT, hp, hb⟩ := h.conc
  have hs0 : setS Ss (k + 1) S 0 = Ss 0 := setS_other _ _ (by omega)
  refine ⟨fun q hq => ?_, h.u64, fun q hq => ?_, fun q hq => ?_, by rw [hs0]; exact h.pushing, by rw [hs0]; exact h.popping, F, T, V, ?_, hT, by rw [hs0]; exact hp, by rw [hs0]; exact hb⟩
  · by_cases d : q = k + 1
    · subst d; rw [setS_same]; exact hf
    · rw [setS_other _ _ d]; exact h.fit q hq
  · by_cases d : q = k + 1
    · subst d; rw [setS_same, h.idle _ hq h0]; have := hf.mu_le; omega
    · rw [setS_other _ _ d]; exact h.few q hq
  · by_cases d : q = k + 1
    · subst d; exact fun _ => h.idle _ hq h0
    · rw [setS_other _ _ d]; exact h.idle q hq
  · rw [hs0, setS_shift]
    exact C.enter (.inr hS)
/-- How many steps act k has made behind one more. -/
def tick (stp : Nat → Nat) (k : Nat) (S : Ac) : Nat → Nat := setN stp k (if S.st = 0 then 0 else stp k + 1)
/-- What a step leaves of what doesn't hang on the values. -/
theorem GameI.ticks (h : GameI n c Ss stp push P L K) {k : Nat} (hk : k < 4) (h0 : ¬ (Ss k).st = 0) :
    (∀ q, q < 4 → Fit (setS Ss k ((Ss k).nxt 0 n c) q)) ∧ U64 ((Ss k).after 0 n c) ∧ (∀ q, q < 4 → tick stp k ((Ss k).nxt 0 n c) q + (setS Ss k ((Ss k).nxt 0 n c) q).mu ≤ 16) ∧ (∀ q, q < 4 → (setS Ss k ((Ss k).nxt 0 n c) q).st = 0 → tick stp k ((Ss k).nxt 0 n c) q = 0) := by
  have hm := (h.fit k hk).mu_step (b := 0) (n := n) (c := c) h0
  have hw := h.few k hk
  refine ⟨fun q hq => ?_, h.u64.step (h.fit k hk), fun q hq => ?_, fun q hq => ?_⟩
  · by_cases d : q = k
    · rw [d, setS_same]; exact (h.fit k hk).step h.u64
    · rw [setS_other _ _ d]; exact h.fit q hq
  · unfold tick
    by_cases d : q = k
    · subst d
      rw [setS_same, setN_same]
      split <;> omega
    · rw [setS_other _ _ d, setN_other _ _ d]; exact h.few q hq
  · unfold tick
    by_cases d : q = k
    · subst d
      rw [setS_same, setN_same]
      intro e
      rw [if_pos e]
    · rw [setS_other _ _ d, setN_other _ _ d]; exact h.idle q hq
/-- A step of the owner's: under way still, or what was put, or what was taken, or nothing. -/
theorem GameI.own (h : GameI n c Ss stp push P L K) (h0 : ¬ (Ss 0).st = 0) (hP : P + 1 < 1000000000) :
    (¬ ((Ss 0).nxt 0 n c).st = 0 ∧ GameI n ((Ss 0).after 0 n c) (setS Ss 0 ((Ss 0).nxt 0 n c)) (tick stp 0 ((Ss 0).nxt 0 n c)) push P L K) ∨
    (((Ss 0).nxt 0 n c).st = 0 ∧ ((Ss 0).nxt 0 n c).got = true ∧ 0 < push ∧ ((Ss 0).nxt 0 n c).value = push ∧ GameI n ((Ss 0).after 0 n c) (setS Ss 0 ((Ss 0).nxt 0 n c)) (tick stp 0 ((Ss 0).nxt 0 n c)) push (P + 1) L K) ∨
    (((Ss 0).nxt 0 n c).st = 0 ∧ ((Ss 0).nxt 0 n c).got = true ∧ push = 0 ∧ GameI n ((Ss 0).after 0 n c) (setS Ss 0 ((Ss 0).nxt 0 n c)) (tick stp 0 ((Ss 0).nxt 0 n c)) push P (L + 1) (ext K L ((Ss 0).nxt 0 n c).value)) ∨
    (((Ss 0).nxt 0 n c).st = 0 ∧ ((Ss 0).nxt 0 n c).got = false ∧ GameI n ((Ss 0).after 0 n c) (setS Ss 0 ((Ss 0).nxt 0 n c)) (tick stp 0 ((Ss 0).nxt 0 n c)) push P L K) := by
  obtain ⟨F, T, V, C, hT, hp, hb⟩ := h.conc
  obtain ⟨F', T', V', C', ev⟩ := own_step C h0 (by omega)
  obtain ⟨t1, t2, t3, t4⟩ := h.ticks (k := 0) (by omega) h0
  have hpg := h.pushing
  have hpo := h.popping
  generalize (Ss 0).nxt 0 n c = O' at C' ev t1 t3 t4 ⊢
  have hth : (fun i => setS Ss 0 O' (i + 1)) = fun i => Ss (i + 1) := by funext i; rw [setS_other _ _ (by omega)]
  have mk : ∀ (P' L' : Nat) (K' : Nat → Int), (1 ≤ O'.st → O'.st ≤ 4 → push = (P' : Int) + 1 ∧ O'.value = (P' : Int) + 1) → (5 ≤ O'.st → push = 0) → T' ≤ P' → (Pend O' → Book F' T' V' P' (ext K' L' O'.value) (L' + 1)) → (¬ Pend O' → Book F' T' V' P' K' L') → GameI n ((Ss 0).after 0 n c) (setS Ss 0 O') (tick stp 0 O') push P' L' K' := fun P' L' K' a1 a2 a3 a4 a5 =>
    ⟨t1, t2, t3, t4, by rw [setS_same]; exact a1, by rw [setS_same]; exact a2, F', T', V', by rw [setS_same, hth]; exact C', a3, by rw [setS_same]; exact a4, by rw [setS_same]; exact a5⟩
  have hle := C.le
  rcases ev.ev with ⟨e1, e2, e3, e4, e5, e6, e7⟩ | ⟨e1, e2, e3, e4, e5, e6, e7, e8⟩ | ⟨e1, e2, e3, e4, e5, e6, e7, e8⟩ | ⟨e1, e2, e3, e4, e5, e6, e7⟩ | ⟨e1, e2, e3, e4, e5, e6, e7⟩
  · -- pushed
    have hg := hpg (by omega) (by omega)
    right; left
    refine ⟨e2, e3, by omega, by rw [e4, hg.2, hg.1], mk (P + 1) L K (fun q => absurd q (by omega)) (fun q => absurd q (by omega)) (by omega) (fun q => absurd q.1 (by omega)) fun _ => ?_⟩
    have B := (hb fun q => absurd q.1 (by omega)).push hle
    rw [e5, e6, e7, hg.2]
    exact B
  · -- popped without a swap
    right; right; left
    refine ⟨e2, e3, hpo (by omega), mk P (L + 1) _ (fun q => absurd q (by omega)) (fun q => absurd q (by omega)) (by omega) (fun q => absurd q.1 (by omega)) fun _ => ?_⟩
    have B := hb fun q => absurd q.1 (by omega)
    rw [e8, e7]
    exact B.take (x := T') (by omega) (by omega) (by omega) (by omega) (fun i _ q => by omega) (fun i q1 q2 => by omega)
  · -- the only one taken by a swap: it is told a step later
    left
    refine ⟨by omega, mk P L K (fun _ q => absurd q (by omega)) (fun _ => hpo (by omega)) (by omega) (fun _ => ?_) fun q => absurd ⟨e2, e3⟩ q⟩
    have B := hb fun q => absurd q.1 (by omega)
    rw [e8, e7, e4, e5]
    exact B.take (x := F) (Nat.le_refl _) (by omega) (by omega) (Nat.le_refl _) (fun i q _ => by omega) (fun i q1 q2 => by omega)
  · -- raised
    right; right
    cases hg : (Ss 0).got
    · right
      refine ⟨e2, by rw [e3, hg], mk P L K (fun q => absurd q (by omega)) (fun q => absurd q (by omega)) (by omega) (fun q => absurd q.1 (by omega)) fun _ => ?_⟩
      rw [e5, e6, e7]
      exact hb fun q => by have := q.2; rw [hg] at this; cases this
    · left
      refine ⟨e2, by rw [e3, hg], hpo (by omega), mk P (L + 1) _ (fun q => absurd q (by omega)) (fun q => absurd q (by omega)) (by omega) (fun q => absurd q.1 (by omega)) fun _ => ?_⟩
      rw [e4, e5, e6, e7]
      exact hp ⟨e1, hg⟩
  · have np : ¬ Pend (Ss 0) := fun q => e1 q.1
    have np' : ¬ Pend O' := fun q => by
      have := e2 (.inr q.1)
      rw [q.2] at this
      cases this
    have B := hb np
    have G : GameI n ((Ss 0).after 0 n c) (setS Ss 0 O') (tick stp 0 O') push P L K := by
      refine mk P L K (fun q1 q2 => ?_) (fun q => ?_) (by omega) (fun q => absurd q np') fun _ => by rw [e3, e4, e5]; exact B
      · have hl : (Ss 0).st ≤ 4 := by
          rcases Nat.lt_or_ge 4 (Ss 0).st with d | d
          · rcases e7 (by omega) with d' | d' <;> omega
          · exact d
        rw [(e6 (by omega) hl).2]
        exact hpg (by omega) hl
      · rcases Nat.lt_or_ge 4 (Ss 0).st with d | d
        · exact hpo (by omega)
        · have := (e6 (by omega) d).1; omega
    by_cases hd : O'.st = 0
    · exact .inr (.inr (.inr ⟨hd, e2 (.inl hd), G⟩))
    · exact .inl ⟨hd, G⟩
/-- A step of a thief's. -/
theorem GameI.thief (h : GameI n c Ss stp push P L K) {k : Nat} (hk : k < 3) (h0 : ¬ (Ss (k + 1)).st = 0) :
    (¬ ((Ss (k + 1)).nxt 0 n c).st = 0 ∧ GameI n ((Ss (k + 1)).after 0 n c) (setS Ss (k + 1) ((Ss (k + 1)).nxt 0 n c)) (tick stp (k + 1) ((Ss (k + 1)).nxt 0 n c)) push P L K) ∨
    (((Ss (k + 1)).nxt 0 n c).st = 0 ∧ ((Ss (k + 1)).nxt 0 n c).got = true ∧ GameI n ((Ss (k + 1)).after 0 n c) (setS Ss (k + 1) ((Ss (k + 1)).nxt 0 n c)) (tick stp (k + 1) ((Ss (k + 1)).nxt 0 n c)) push P (L + 1) (ext K L ((Ss (k + 1)).nxt 0 n c).value)) ∨
    (((Ss (k + 1)).nxt 0 n c).st = 0 ∧ ((Ss (k + 1)).nxt 0 n c).got = false ∧ GameI n ((Ss (k + 1)).after 0 n c) (setS Ss (k + 1) ((Ss (k + 1)).nxt 0 n c)) (tick stp (k + 1) ((Ss (k + 1)).nxt 0 n c)) push P L K) := by
  obtain ⟨F, T, V, C, hT, hp, hb⟩ := h.conc
  obtain ⟨F', C', ev⟩ := th_step C (k := k) hk ((h.fit _ (by omega)).st) h0
  change Conc 0 n ((Ss (k + 1)).after 0 n c) F' T V (Ss 0) 3 (setS (fun i => Ss (i + 1)) k ((Ss (k + 1)).nxt 0 n c)) at C'
  change ThEv F T V ((Ss (k + 1)).nxt 0 n c) F' at ev
  obtain ⟨t1, t2, t3, t4⟩ := h.ticks (k := k + 1) (by omega) h0
  generalize (Ss (k + 1)).nxt 0 n c = S' at C' ev t1 t3 t4 ⊢
  rw [← setS_shift] at C'
  have hs0 : setS Ss (k + 1) S' 0 = Ss 0 := setS_other _ _ (by omega)
  have mk : ∀ (L' : Nat) (K' : Nat → Int), (Pend (Ss 0) → Book F' T V P (ext K' L' (Ss 0).value) (L' + 1)) → (¬ Pend (Ss 0) → Book F' T V P K' L') → GameI n ((Ss (k + 1)).after 0 n c) (setS Ss (k + 1) S') (tick stp (k + 1) S') push P L' K' := fun L' K' a4 a5 =>
    ⟨t1, t2, t3, t4, by rw [hs0]; exact h.pushing, by rw [hs0]; exact h.popping, F', T, V, by rw [hs0]; exact C', hT, by rw [hs0]; exact a4, by rw [hs0]; exact a5⟩
  rcases ev with ⟨e1, e2, e3, e4, e5⟩ | ⟨e1, e2⟩
  · right; left
    refine ⟨e1, e2, mk (L + 1) _ (fun q => ?_) fun q => ?_⟩
    · have := C.own.s9 q.1; omega
    · rw [e3, e4]
      exact (hb q).take (x := F) (Nat.le_refl _) e5 (by omega) (Nat.le_refl _) (fun i q _ => by omega) (fun i q1 q2 => by omega)
  · have G := mk L K (fun q => by rw [e2]; exact hp q) fun q => by rw [e2]; exact hb q
    by_cases hd : S'.st = 0
    · exact .inr (.inr ⟨hd, e1 hd, G⟩)
    · exact .inl ⟨hd, G⟩
end
end Go.Proofs.Ytfpgdmnbehingaa
