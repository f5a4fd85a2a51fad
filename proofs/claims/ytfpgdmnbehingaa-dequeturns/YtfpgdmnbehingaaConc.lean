/-
  An owner and thieves in whatever turns, without a program: what stands in the cells at each moment, and what each step takes or brings.
-/
import Derived.Test.YtfpgdmnbehingaaSeq
namespace Go.Proofs.Ytfpgdmnbehingaa
open Go Go.RowKit

/-- The owner takes the last value without a swap. -/
def Busy (O : Ac) : Prop := O.st = 7 ∧ ¬ O.first = O.last
/-- What the end's cell holds: a pop has lowered it. -/
def lastOf (O : Ac) (T : Nat) : Int := if 6 ≤ O.st ∧ O.st ≤ 9 then w64 ((T : Int) - 1) else (T : Int)
/-- The owner's act: a push, a pop, or none. -/
structure OwnOK (b n : Nat) (c : Nat → Int) (F T : Nat) (V : Nat → Int) (O : Ac) : Prop where
  st : O.st ≤ 9
  got : 1 ≤ O.st → O.st ≤ 8 → O.got = false
  s2 : O.st = 2 → O.last = (T : Int)
  s3 : O.st = 3 → O.last = (T : Int) ∧ T < F + n
  s4 : O.st = 4 → T < F + n ∧ c (pl b n (T : Int)) = O.value
  s6 : O.st = 6 → O.last = w64 ((T : Int) - 1)
  s7 : O.st = 7 → O.last = (T : Int) - 1 ∧ ∃ f : Nat, O.first = (f : Int) ∧ f ≤ F ∧ f + 1 ≤ T ∧ (f + 1 < T → F < T)
  s8 : O.st = 8 → 1 ≤ T ∧ O.first = (T : Int) - 1 ∧ T ≤ F + 1 ∧ (F + 1 = T → O.value = V F)
  s9 : O.st = 9 → F = T
/-- A thief's act: a steal, or none. -/
structure ThOK (F T : Nat) (V : Nat → Int) (O S : Ac) : Prop where
  st : S.st = 0 ∨ 10 ≤ S.st
  s11 : S.st = 11 → ∃ f : Nat, S.first = (f : Int) ∧ f ≤ F
  s12 : S.st = 12 → ∃ f : Nat, S.first = (f : Int) ∧ f ≤ F ∧ (f = F → F < T ∧ (Busy O → F + 1 < T))
  s13 : S.st = 13 → ∃ f : Nat, S.first = (f : Int) ∧ f ≤ F ∧ (f = F → F < T ∧ (Busy O → F + 1 < T) ∧ S.value = V F)
/-- The values V of the numbers F to T are there and not taken. -/
structure Conc (b n : Nat) (c : Nat → Int) (F T : Nat) (V : Nat → Int) (O : Ac) (m : Nat) (Th : Nat → Ac) : Prop where
  first : c b = (F : Int)
  last : c (b + 1) = lastOf O T
  le : F ≤ T
  room : T ≤ F + n
  pos : 1 ≤ n
  small : T < 1000000000
  val : ∀ i, F ≤ i → i < T → c (pl b n (i : Int)) = V i
  own : OwnOK b n c F T V O
  th : ∀ i, i < m → ThOK F T V O (Th i)

def setS (Ss : Nat → Ac) (k : Nat) (S : Ac) : Nat → Ac := fun i => if i = k then S else Ss i
theorem setS_same (Ss : Nat → Ac) (k : Nat) (S : Ac) : setS Ss k S k = S := by simp [setS]
theorem setS_other (Ss : Nat → Ac) {k i : Nat} (S : Ac) (h : i ≠ k) : setS Ss k S i = Ss i := by simp [setS, h]

section
variable {b n F T m : Nat} {c : Nat → Int} {V : Nat → Int} {O S : Ac} {Th : Nat → Ac}
theorem lastOf_no (h : O.st ≤ 5) : lastOf O T = (T : Int) := if_neg (by omega)
theorem lastOf_mid (h : 6 ≤ O.st) (h' : O.st ≤ 9) : lastOf O T = w64 ((T : Int) - 1) := if_pos ⟨h, h'⟩
theorem ah_back {f T : Nat} (hf : f ≤ T) (hT : T < 1000000000) : ah (f : Int) (w64 ((T : Int) - 1)) = (T : Int) - 1 - (f : Int) := by unfold ah wrap64 w64; omega
theorem w64_pred {T : Nat} (h : 1 ≤ T) (hT : T < 1000000000) : w64 ((T : Int) - 1) = (T : Int) - 1 := w64_small (by omega) (by omega)
theorem not_busy (h : ¬ O.st = 7) : ¬ Busy O := fun k => h k.1
/-- What an owner that isn't about to take without a swap leaves of a thief. -/
theorem ThOK.owner {O' : Ac} (h : ThOK F T V O S) (k : Busy O' → F + 1 < T) : ThOK F T V O' S :=
  ⟨h.st, h.s11, fun e => by obtain ⟨f, h1, h2, h3⟩ := h.s12 e; exact ⟨f, h1, h2, fun d => ⟨(h3 d).1, k⟩⟩, fun e => by obtain ⟨f, h1, h2, h3⟩ := h.s13 e; exact ⟨f, h1, h2, fun d => ⟨(h3 d).1, k, (h3 d).2.2⟩⟩⟩
/-- Behind a number that was taken at the front. -/
theorem ThOK.up {O' : Ac} (h : ThOK F T V O S) : ThOK (F + 1) T V O' S :=
  ⟨h.st, fun e => by obtain ⟨f, h1, h2⟩ := h.s11 e; exact ⟨f, h1, by omega⟩, fun e => by obtain ⟨f, h1, h2, _⟩ := h.s12 e; exact ⟨f, h1, by omega, fun d => absurd d (by omega)⟩, fun e => by obtain ⟨f, h1, h2, _⟩ := h.s13 e; exact ⟨f, h1, by omega, fun d => absurd d (by omega)⟩⟩
theorem upd_pl {x : Int} {j i : Nat} (c : Nat → Int) (hn : 1 ≤ n) (hj : j < b + 2) : upd c j x (pl b n (i : Int)) = c (pl b n (i : Int)) := by
  have := pl_lt b (i : Int) hn
  exact upd_other _ _ (by omega)
/-- Nobody is under way. -/
theorem Conc.holds (h : Conc b n c F T V O m Th) (h0 : O.st = 0) : Holds b n c F T V :=
  ⟨h.first, h.last.trans (lastOf_no (by omega)), h.le, h.room, h.pos, h.val, h.small⟩
theorem Holds.conc (h : Holds b n c F T V) (hO : OwnOK b n c F T V O) (h5 : O.st ≤ 5) (hT : ∀ i, i < m → ThOK F T V O (Th i)) : Conc b n c F T V O m Th :=
  ⟨h.first, h.last.trans (lastOf_no h5).symm, h.le, h.room, h.pos, h.small, h.val, hO, hT⟩
theorem OwnOK.fresh (h : O.st = 0 ∨ O.st = 1 ∨ O.st = 5) (hg : 1 ≤ O.st → O.got = false) : OwnOK b n c F T V O := by
  refine ⟨by omega, fun k _ => hg k, ?_, ?_, ?_, ?_, ?_, ?_, ?_⟩
  all_goals exact fun e => absurd e (by omega)
theorem ThOK.fresh (h : S.st = 0 ∨ S.st = 10) : ThOK F T V O S := by
  refine ⟨by omega, ?_, ?_, ?_⟩
  all_goals exact fun e => absurd e (by omega)
/-- Another act of the owner's, where it had none. -/
theorem Conc.begin {O' : Ac} (h : Conc b n c F T V O m Th) (h0 : O.st = 0) (h1 : O'.st = 0 ∨ O'.st = 1 ∨ O'.st = 5) (hg : 1 ≤ O'.st → O'.got = false) : Conc b n c F T V O' m Th :=
  (h.holds h0).conc (OwnOK.fresh h1 hg) (by omega) fun i hi => (h.th i hi).owner fun k => absurd k.1 (by omega)
theorem Conc.enter (h : Conc b n c F T V O m Th) {k : Nat} (hS : S.st = 0 ∨ S.st = 10) : Conc b n c F T V O m (setS Th k S) :=
  ⟨h.first, h.last, h.le, h.room, h.pos, h.small, h.val, h.own, fun i hi => by
    by_cases d : i = k
    · rw [d, setS_same]; exact ThOK.fresh hS
    · rw [setS_other _ _ d]; exact h.th i hi⟩
/-- A step of the owner's that neither takes nor brings, and leaves the cells. -/
theorem Conc.still {O' : Ac} (h : Conc b n c F T V O m Th) (hl : lastOf O' T = lastOf O T) (hO : OwnOK b n c F T V O') (hB : Busy O' → F + 1 < T) : Conc b n c F T V O' m Th :=
  ⟨h.first, h.last.trans hl.symm, h.le, h.room, h.pos, h.small, h.val, hO, fun i hi => (h.th i hi).owner hB⟩

/-- What an owner's step does. -/
structure OwnEv (F T : Nat) (V : Nat → Int) (O O' : Ac) (F' T' : Nat) (V' : Nat → Int) : Prop where
  ev : (O.st = 4 ∧ O'.st = 0 ∧ O'.got = true ∧ O'.value = O.value ∧ F' = F ∧ T' = T + 1 ∧ V' = fun i => if i = T then O.value else V i) ∨
    (O.st = 7 ∧ O'.st = 0 ∧ O'.got = true ∧ F' = F ∧ T' + 1 = T ∧ F < T ∧ V' = V ∧ O'.value = V T') ∨
    (O.st = 8 ∧ O'.st = 9 ∧ O'.got = true ∧ F' = F + 1 ∧ T' = T ∧ F + 1 = T ∧ V' = V ∧ O'.value = V F) ∨
    (O.st = 9 ∧ O'.st = 0 ∧ O'.got = O.got ∧ O'.value = O.value ∧ F' = F ∧ T' = T ∧ V' = V) ∨
    (¬ O.st = 9 ∧ (O'.st = 0 ∨ O'.st = 9 → O'.got = false) ∧ F' = F ∧ T' = T ∧ V' = V ∧ (1 ≤ O.st → O.st ≤ 4 → O'.st ≤ 4 ∧ O'.value = O.value) ∧ (5 ≤ O.st → O'.st = 0 ∨ 5 ≤ O'.st))
theorem own_step (h : Conc b n c F T V O m Th) (h0 : ¬ O.st = 0) (hT : T + 1 < 1000000000) :
    ∃ F' T' V', Conc b n (O.after b n c) F' T' V' (O.nxt b n c) m Th ∧ OwnEv F T V O (O.nxt b n c) F' T' V' := by
  have hs := h.small
  have hle := h.le
  have hp := h.pos
  have ho := h.own
  have hg := ho.got
  obtain e | e | e | e | e | e | e | e | e : O.st = 1 ∨ O.st = 2 ∨ O.st = 3 ∨ O.st = 4 ∨ O.st = 5 ∨ O.st = 6 ∨ O.st = 7 ∨ O.st = 8 ∨ O.st = 9 := by have := ho.st; omega
  · -- askEnd
    have g := hg (by omega) (by omega)
    have hl : c (b + 1) = (T : Int) := h.last.trans (lastOf_no (by omega))
    rw [nxt1 e, after_same (by simp [e]), hl]
    refine ⟨F, T, V, h.still ?_ ⟨by show 2 ≤ 9; omega, fun _ _ => g, fun _ => rfl, fun k => by simp at k, fun k => by simp at k, fun k => by simp at k, fun k => by simp at k, fun k => by simp at k, fun k => by simp at k⟩ (fun k => absurd k.1 (by simp)), ⟨.inr (.inr (.inr (.inr ⟨by omega, fun _ => g, rfl, rfl, rfl, fun _ _ => ⟨by show 2 ≤ 4; omega, rfl⟩, fun k => absurd k (by omega)⟩)))⟩⟩
    rw [lastOf_no (by show 2 ≤ 5; omega), lastOf_no (by omega)]
  · -- askRoom
    have g := hg (by omega) (by omega)
    have hl := ho.s2 e
    rw [nxt2 e, after_same (by simp [e]), h.first, hl, ah_small (by omega) (by omega)]
    by_cases hr : (n : Int) ≤ (T : Int) - (F : Int)
    · rw [if_pos hr]
      refine ⟨F, T, V, h.still ?_ (OwnOK.fresh (.inl rfl) fun k => by simp at k) (fun k => absurd k.1 (by simp)), ⟨.inr (.inr (.inr (.inr ⟨by omega, fun _ => rfl, rfl, rfl, rfl, fun _ _ => ⟨by show 0 ≤ 4; omega, rfl⟩, fun k => absurd k (by omega)⟩)))⟩⟩
      rw [lastOf_no (by show 0 ≤ 5; omega), lastOf_no (by omega)]
    · rw [if_neg hr]
      refine ⟨F, T, V, h.still ?_ ⟨by show 3 ≤ 9; omega, fun _ _ => g, fun k => by simp at k, fun _ => ⟨rfl, by omega⟩, fun k => by simp at k, fun k => by simp at k, fun k => by simp at k, fun k => by simp at k, fun k => by simp at k⟩ (fun k => absurd k.1 (by simp)), ⟨.inr (.inr (.inr (.inr ⟨by omega, fun _ => g, rfl, rfl, rfl, fun _ _ => ⟨by show 3 ≤ 4; omega, rfl⟩, fun k => absurd k (by omega)⟩)))⟩⟩
      rw [lastOf_no (by show 3 ≤ 5; omega), lastOf_no (by omega)]
  · -- fill
    have g := hg (by omega) (by omega)
    obtain ⟨hl, hr⟩ := ho.s3 e
    rw [nxt3 e, after3 e, hl]
    have hpl := pl_lt b (T : Int) hp
    refine ⟨F, T, V, ⟨?_, ?_, hle, h.room, hp, hs, fun i h1 h2 => ?_, ⟨by show 4 ≤ 9; omega, fun _ _ => g, fun k => by simp at k, fun k => by simp at k, fun _ => ⟨hr, upd_same _ _ _⟩, fun k => by simp at k, fun k => by simp at k, fun k => by simp at k, fun k => by simp at k⟩, fun i hi => (h.th i hi).owner fun k => absurd k.1 (by simp)⟩, ⟨.inr (.inr (.inr (.inr ⟨by omega, fun _ => g, rfl, rfl, rfl, fun _ _ => ⟨by show 4 ≤ 4; omega, rfl⟩, fun k => absurd k (by omega)⟩)))⟩⟩
    · rw [upd_other _ _ (by omega)]; exact h.first
    · rw [upd_other _ _ (by omega), h.last, lastOf_no (by omega), lastOf_no (by show 4 ≤ 5; omega)]
    · rw [upd_other _ _ (pl_ne b h2 (by omega))]; exact h.val i h1 h2
  · -- show
    obtain ⟨hr, hv⟩ := ho.s4 e
    have hl : c (b + 1) = (T : Int) := h.last.trans (lastOf_no (by omega))
    rw [nxt4 e, after4 e, hl, w64_small (by omega) (by omega)]
    refine ⟨F, T + 1, fun i => if i = T then O.value else V i, ⟨?_, ?_, by omega, by omega, hp, hT, fun i h1 h2 => ?_, OwnOK.fresh (.inl rfl) fun k => by simp at k, fun i hi => ?_⟩, ⟨.inl ⟨e, rfl, rfl, rfl, rfl, rfl, rfl⟩⟩⟩
    · rw [upd_other _ _ (by omega)]; exact h.first
    · rw [upd_same, lastOf_no (by show 0 ≤ 5; omega)]; omega
    · rw [upd_pl c hp (by omega)]
      by_cases d : i = T
      · rw [if_pos d, d]; exact hv
      · rw [if_neg d]; exact h.val i h1 (by omega)
    · have t := h.th i hi
      refine ⟨t.st, t.s11, fun k => ?_, fun k => ?_⟩
      · obtain ⟨f, h1, h2, h3⟩ := t.s12 k
        exact ⟨f, h1, h2, fun d => ⟨by have := (h3 d).1; omega, fun q => absurd q.1 (by simp)⟩⟩
      · obtain ⟨f, h1, h2, h3⟩ := t.s13 k
        refine ⟨f, h1, h2, fun d => ⟨by have := (h3 d).1; omega, fun q => absurd q.1 (by simp), ?_⟩⟩
        rw [if_neg (by have := (h3 d).1; omega)]
        exact (h3 d).2.2
  · -- lower
    have g := hg (by omega) (by omega)
    have hl : c (b + 1) = (T : Int) := h.last.trans (lastOf_no (by omega))
    have hw : w64 (c (b + 1) + 18446744073709551615) = w64 ((T : Int) - 1) := by rw [hl]; unfold w64; omega
    rw [nxt5 e, after5 e, hw]
    refine ⟨F, T, V, ⟨?_, ?_, hle, h.room, hp, hs, fun i h1 h2 => ?_, ⟨by show 6 ≤ 9; omega, fun _ _ => g, fun k => by simp at k, fun k => by simp at k, fun k => by simp at k, fun _ => rfl, fun k => by simp at k, fun k => by simp at k, fun k => by simp at k⟩, fun i hi => (h.th i hi).owner fun k => absurd k.1 (by simp)⟩, ⟨.inr (.inr (.inr (.inr ⟨by omega, fun _ => g, rfl, rfl, rfl, fun _ k => absurd k (by omega), fun _ => .inr (by show 5 ≤ 6; omega)⟩)))⟩⟩
    · rw [upd_other _ _ (by omega)]; exact h.first
    · rw [upd_same, lastOf_mid (by show 6 ≤ 6; omega) (by show 6 ≤ 9; omega)]
    · rw [upd_pl c hp (by omega)]; exact h.val i h1 h2
  · -- askFirst
    have g := hg (by omega) (by omega)
    have hl := ho.s6 e
    rw [nxt6 e, after_same (by simp [e]), h.first, hl, ah_back hle hs]
    by_cases hr : (T : Int) - 1 - (F : Int) < 0
    · rw [if_pos hr]
      refine ⟨F, T, V, h.still ?_ ⟨by show 9 ≤ 9; omega, fun _ k => absurd k (by show ¬ 9 ≤ 8; omega), fun k => by simp at k, fun k => by simp at k, fun k => by simp at k, fun k => by simp at k, fun k => by simp at k, fun k => by simp at k, fun _ => by omega⟩ (fun k => absurd k.1 (by simp)), ⟨.inr (.inr (.inr (.inr ⟨by omega, fun _ => g, rfl, rfl, rfl, fun _ k => absurd k (by omega), fun _ => .inr (by show 5 ≤ 9; omega)⟩)))⟩⟩
      rw [lastOf_mid (by show 6 ≤ 9; omega) (by show 9 ≤ 9; omega), lastOf_mid (by omega) (by omega)]
    · rw [if_neg hr]
      have hw := w64_pred (T := T) (by omega) hs
      refine ⟨F, T, V, h.still ?_ ⟨by show 7 ≤ 9; omega, fun _ _ => g, fun k => by simp at k, fun k => by simp at k, fun k => by simp at k, fun k => by simp at k, fun _ => ⟨hw, F, rfl, Nat.le_refl _, by omega, fun _ => by omega⟩, fun k => by simp at k, fun k => by simp at k⟩ (fun k => ?_), ⟨.inr (.inr (.inr (.inr ⟨by omega, fun _ => g, rfl, rfl, rfl, fun _ k => absurd k (by omega), fun _ => .inr (by show 5 ≤ 7; omega)⟩)))⟩⟩
      · rw [lastOf_mid (by show 6 ≤ 7; omega) (by show 7 ≤ 9; omega), lastOf_mid (by omega) (by omega)]
      · have := k.2
        rw [hw] at this
        change ¬ (F : Int) = (T : Int) - 1 at this
        omega
  · -- take
    have g := hg (by omega) (by omega)
    obtain ⟨hl, f, hf, hfF, hfT, hfb⟩ := ho.s7 e
    have hpos : 1 ≤ T := by omega
    have hlN : O.last = ((T - 1 : Nat) : Int) := by rw [hl]; omega
    rw [nxt7 e, after_same (by simp [e])]
    by_cases hr : O.first = O.last
    · rw [if_pos hr, hlN]
      have hfe : f + 1 = T := by rw [hf, hlN] at hr; omega
      refine ⟨F, T, V, h.still ?_ ⟨by show 8 ≤ 9; omega, fun _ _ => g, fun k => by simp at k, fun k => by simp at k, fun k => by simp at k, fun k => by simp at k, fun k => by simp at k, fun _ => ⟨hpos, by show O.first = _; rw [hr, hl], by omega, fun d => ?_⟩, fun k => by simp at k⟩ (fun k => absurd k.1 (by simp)), ⟨.inr (.inr (.inr (.inr ⟨by omega, fun _ => g, rfl, rfl, rfl, fun _ k => absurd k (by omega), fun _ => .inr (by show 5 ≤ 8; omega)⟩)))⟩⟩
      · rw [lastOf_mid (by show 6 ≤ 8; omega) (by show 8 ≤ 9; omega), lastOf_mid (by omega) (by omega)]
      · show c (pl b n ((T - 1 : Nat) : Int)) = V F
        rw [show T - 1 = F by omega]
        exact h.val F (Nat.le_refl _) (by omega)
    · rw [if_neg hr, hlN]
      have hB : Busy O := ⟨e, hr⟩
      have hfe : f + 1 < T := by rw [hf, hlN] at hr; omega
      have hFT := hfb hfe
      have hbF : ∀ i, i < m → ThOK F (T - 1) V (⟨O.first, ((T - 1 : Nat) : Int), c (pl b n ((T - 1 : Nat) : Int)), O.left, 0, true⟩ : Ac) (Th i) := fun i hi => by
        have t := h.th i hi
        refine ⟨t.st, t.s11, fun k => ?_, fun k => ?_⟩
        · obtain ⟨f', h1, h2, h3⟩ := t.s12 k
          exact ⟨f', h1, h2, fun d => ⟨by have := (h3 d).2 hB; omega, fun q => absurd q.1 (by simp)⟩⟩
        · obtain ⟨f', h1, h2, h3⟩ := t.s13 k
          exact ⟨f', h1, h2, fun d => ⟨by have := (h3 d).2.1 hB; omega, fun q => absurd q.1 (by simp), (h3 d).2.2⟩⟩
      have hv : c (pl b n ((T - 1 : Nat) : Int)) = V (T - 1) := h.val _ (by omega) (by omega)
      exact ⟨F, T - 1, V, ⟨h.first, by rw [h.last, lastOf_mid (by omega) (by omega), w64_pred hpos hs, lastOf_no (by show 0 ≤ 5; omega)]; omega, by omega, by have := h.room; omega, hp, by omega, fun i h1 h2 => h.val i h1 (by omega), OwnOK.fresh (.inl rfl) fun k => by simp at k, hbF⟩, ⟨.inr (.inl ⟨e, rfl, rfl, rfl, by omega, hFT, rfl, hv⟩)⟩⟩
  · -- contend
    have g := hg (by omega) (by omega)
    obtain ⟨hpos, hf, hF, hv⟩ := ho.s8 e
    rw [nxt8 e, after8 e, h.first, hf]
    by_cases hr : (F : Int) = (T : Int) - 1
    · rw [if_pos hr, if_pos hr]
      have hw : w64 ((T : Int) - 1 + 1) = ((F + 1 : Nat) : Int) := by rw [w64_small (by omega) (by omega)]; omega
      rw [hw]
      refine ⟨F + 1, T, V, ⟨upd_same _ _ _, ?_, by omega, by omega, hp, hs, fun i h1 h2 => absurd h2 (by omega), ⟨by show 9 ≤ 9; omega, fun _ k => absurd k (by show ¬ 9 ≤ 8; omega), fun k => by simp at k, fun k => by simp at k, fun k => by simp at k, fun k => by simp at k, fun k => by simp at k, fun k => by simp at k, fun _ => by omega⟩, fun i hi => (h.th i hi).up⟩, ⟨.inr (.inr (.inl ⟨e, rfl, rfl, rfl, rfl, by omega, rfl, hv (by omega)⟩))⟩⟩
      rw [upd_other _ _ (by omega), h.last, lastOf_mid (by omega) (by omega), lastOf_mid (by show 6 ≤ 9; omega) (by show 9 ≤ 9; omega)]
    · rw [if_neg hr, if_neg hr]
      refine ⟨F, T, V, h.still ?_ ⟨by show 9 ≤ 9; omega, fun _ k => absurd k (by show ¬ 9 ≤ 8; omega), fun k => by simp at k, fun k => by simp at k, fun k => by simp at k, fun k => by simp at k, fun k => by simp at k, fun k => by simp at k, fun _ => by omega⟩ (fun k => absurd k.1 (by simp)), ⟨.inr (.inr (.inr (.inr ⟨by omega, fun _ => rfl, rfl, rfl, rfl, fun _ k => absurd k (by omega), fun _ => .inr (by show 5 ≤ 9; omega)⟩)))⟩⟩
      rw [lastOf_mid (by show 6 ≤ 9; omega) (by show 9 ≤ 9; omega), lastOf_mid (by omega) (by omega)]
  · -- raise
    have hF := ho.s9 e
    rw [nxt9 e, after9 e]
    refine ⟨F, T, V, ⟨?_, ?_, hle, h.room, hp, hs, fun i h1 h2 => absurd h2 (by omega), OwnOK.fresh (.inl rfl) fun k => by simp at k, fun i hi => (h.th i hi).owner fun k => absurd k.1 (by simp)⟩, ⟨.inr (.inr (.inr (.inl ⟨e, rfl, rfl, rfl, rfl, rfl, rfl⟩)))⟩⟩
    · rw [upd_other _ _ (by omega)]; exact h.first
    · rw [upd_same, h.last, lastOf_mid (by omega) (by omega), lastOf_no (by show 0 ≤ 5; omega)]
      unfold w64
      omega

/-- What a thief's step does. -/
def ThEv (F T : Nat) (V : Nat → Int) (S' : Ac) (F' : Nat) : Prop :=
  (S'.st = 0 ∧ S'.got = true ∧ S'.value = V F ∧ F' = F + 1 ∧ F < T) ∨ ((S'.st = 0 → S'.got = false) ∧ F' = F)
theorem th_step (h : Conc b n c F T V O m Th) {k : Nat} (hk : k < m) (h13 : (Th k).st ≤ 13) (h0 : ¬ (Th k).st = 0) :
    ∃ F', Conc b n ((Th k).after b n c) F' T V O m (setS Th k ((Th k).nxt b n c)) ∧ ThEv F T V ((Th k).nxt b n c) F' := by
  have hs := h.small
  have hle := h.le
  have hp := h.pos
  have t := h.th k hk
  have same : ∀ S' : Ac, ThOK F T V O S' → Conc b n c F T V O m (setS Th k S') := fun S' hS => ⟨h.first, h.last, hle, h.room, hp, hs, h.val, h.own, fun i hi => by
    by_cases d : i = k
    · rw [d, setS_same]; exact hS
    · rw [setS_other _ _ d]; exact h.th i hi⟩
  obtain e | e | e | e : (Th k).st = 10 ∨ (Th k).st = 11 ∨ (Th k).st = 12 ∨ (Th k).st = 13 := by have := t.st; omega
  · rw [nxt10 e, after_same (by simp [e]), h.first]
    exact ⟨F, same _ ⟨.inr (by show 10 ≤ 11; omega), fun _ => ⟨F, rfl, Nat.le_refl _⟩, fun q => by simp at q, fun q => by simp at q⟩, .inr ⟨fun q => by simp at q, rfl⟩⟩
  · obtain ⟨f, hf, hfF⟩ := t.s11 e
    rw [nxt11 e, after_same (by simp [e])]
    by_cases hr : ah (Th k).first (c (b + 1)) < 1
    · rw [if_pos hr]
      exact ⟨F, same _ (ThOK.fresh (.inl rfl)), .inr ⟨fun _ => rfl, rfl⟩⟩
    · rw [if_neg hr]
      refine ⟨F, same _ ⟨.inr (by show 10 ≤ 12; omega), fun q => by simp at q, fun _ => ⟨f, hf, hfF, fun d => ?_⟩, fun q => by simp at q⟩, .inr ⟨fun q => by simp at q, rfl⟩⟩
      subst d
      rw [hf, h.last] at hr
      by_cases hm : 6 ≤ O.st ∧ O.st ≤ 9
      · rw [lastOf_mid hm.1 hm.2, ah_back (by omega) hs] at hr
        exact ⟨by omega, fun _ => by omega⟩
      · have hn7 : ¬ O.st = 7 := by omega
        rw [show lastOf O T = (T : Int) from if_neg hm, ah_small (by omega) (by omega)] at hr
        exact ⟨by omega, fun q => absurd q (not_busy hn7)⟩
  · obtain ⟨f, hf, hfF, hfe⟩ := t.s12 e
    rw [nxt12 e, after_same (by simp [e]), hf]
    refine ⟨F, same _ ⟨.inr (by show 10 ≤ 13; omega), fun q => by simp at q, fun q => by simp at q, fun _ => ⟨f, rfl, hfF, fun d => ⟨(hfe d).1, (hfe d).2, ?_⟩⟩⟩, .inr ⟨fun q => by simp at q, rfl⟩⟩
    show c (pl b n (f : Int)) = V F
    rw [d]
    exact h.val F (Nat.le_refl _) (hfe d).1
  · obtain ⟨f, hf, hfF, hfe⟩ := t.s13 e
    rw [nxt13 e, after13 e, h.first, hf]
    by_cases hr : (F : Int) = (f : Int)
    · rw [if_pos hr, if_pos hr]
      obtain rfl : f = F := by omega
      obtain ⟨h1, h2, h3⟩ := hfe rfl
      have hw : w64 ((f : Int) + 1) = ((f + 1 : Nat) : Int) := by rw [w64_small (by omega) (by omega)]; omega
      rw [hw]
      have ho := h.own
      refine ⟨f + 1, ⟨upd_same _ _ _, ?_, h1, by have := h.room; omega, hp, hs, fun i q1 q2 => ?_, ⟨ho.st, ho.got, ho.s2, fun q => ⟨(ho.s3 q).1, by have := (ho.s3 q).2; omega⟩, fun q => ⟨by have := (ho.s4 q).1; omega, ?_⟩, ho.s6, fun q => ?_, fun q => ?_, fun q => ?_⟩, fun i hi => ?_⟩, .inl ⟨rfl, rfl, h3, rfl, h1⟩⟩
      · rw [upd_other _ _ (by omega)]; exact h.last
      · rw [upd_pl c hp (by omega)]; exact h.val i (by omega) q2
      · rw [upd_pl c hp (by omega)]; exact (ho.s4 q).2
      · obtain ⟨k1, f0, k2, k3, k4, k5⟩ := ho.s7 q
        refine ⟨k1, f0, k2, by omega, k4, fun k6 => ?_⟩
        have hB : Busy O := ⟨q, by rw [k1, k2]; omega⟩
        exact h2 hB
      · obtain ⟨k1, k2, k3, k4⟩ := ho.s8 q
        exact ⟨k1, k2, by omega, fun d => absurd d (by omega)⟩
      · have := ho.s9 q; omega
      · by_cases d : i = k
        · rw [d, setS_same]; exact ThOK.fresh (.inl rfl)
        · rw [setS_other _ _ d]; exact (h.th i hi).up
    · rw [if_neg hr, if_neg hr]
      split
      · exact ⟨F, same _ (ThOK.fresh (.inl rfl)), .inr ⟨fun _ => rfl, rfl⟩⟩
      · exact ⟨F, same _ (ThOK.fresh (.inr rfl)), .inr ⟨fun q => by simp at q, rfl⟩⟩
end
end Go.Proofs.Ytfpgdmnbehingaa
