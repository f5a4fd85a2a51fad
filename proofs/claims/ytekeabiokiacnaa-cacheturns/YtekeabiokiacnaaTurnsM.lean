/-
  Puts and gets in whatever turns, without a program: what a get has found was put with its key by a put that had made a version its own.
-/
import Derived.Test.YtekeabiokiacnaaPure
namespace Go.Proofs.Ytekeabiokiacnaa
open Go Go.RowKit

def setS (Ss : Nat → Ac) (k : Nat) (S : Ac) : Nat → Ac := fun i => if i = k then S else Ss i
theorem setS_same (Ss : Nat → Ac) (k : Nat) (S : Ac) : setS Ss k S k = S := by simp [setS]
theorem setS_other (Ss : Nat → Ac) {k i : Nat} (S : Ac) (h : i ≠ k) : setS Ss k S i = Ss i := by simp [setS, h]
theorem setS_self (Ss : Nat → Ac) (k : Nat) : setS Ss k (Ss k) = Ss := by
  funext i
  by_cases d : i = k
  · rw [d, setS_same]
  · rw [setS_other _ _ d]

/-- How many of the first acts have made a version their own. -/
def wins (Ss : Nat → Ac) : Nat → Nat
  | 0 => 0
  | k + 1 => wins Ss k + if (Ss k).won = true then 1 else 0
theorem wins_le (Ss : Nat → Ac) (m : Nat) : wins Ss m ≤ m := by
  induction m with
  | zero => exact Nat.le_refl _
  | succ m ih => show wins Ss m + _ ≤ _; split <;> omega
theorem wins_congr {Ss Ss' : Nat → Ac} (m : Nat) (h : ∀ i, i < m → (Ss' i).won = (Ss i).won) : wins Ss' m = wins Ss m := by
  induction m with
  | zero => rfl
  | succ m ih =>
    show wins Ss' m + _ = wins Ss m + _
    rw [ih fun i hi => h i (by omega), h m (by omega)]
theorem wins_flip {Ss : Nat → Ac} {k : Nat} {S : Ac} (m : Nat) (hk : k < m) (h0 : (Ss k).won = false) (h1 : S.won = true) : wins (setS Ss k S) m = wins Ss m + 1 := by
  induction m with
  | zero => omega
  | succ m ih =>
    show wins (setS Ss k S) m + _ = wins Ss m + _ + 1
    by_cases d : m = k
    · subst d
      rw [setS_same, h0, h1, wins_congr (Ss := Ss) m fun i hi => by rw [setS_other _ _ (by omega)]]
      simp
    · rw [ih (by omega), setS_other _ _ d]
      omega

/-- Put q has made version v of the line at f its own. -/
def Own (m : Nat) (Ss : Nat → Ac) (f : Nat) (v : Int) (q : Nat) : Prop := q < m ∧ (Ss q).won = true ∧ (Ss q).put = true ∧ (Ss q).first = f ∧ (Ss q).ver = v
/-- What the puts that have a version of their own are stays. -/
def Keep (m : Nat) (Ss Ss' : Nat → Ac) : Prop := ∀ q, q < m → (Ss q).won = true → (Ss' q).won = true ∧ (Ss' q).put = (Ss q).put ∧ (Ss' q).first = (Ss q).first ∧ (Ss' q).ver = (Ss q).ver ∧ (Ss' q).key = (Ss q).key ∧ (Ss' q).val = (Ss q).val
theorem Own.keep {m : Nat} {Ss Ss' : Nat → Ac} {f : Nat} {v : Int} {q : Nat} (h : Own m Ss f v q) (k : Keep m Ss Ss') : Own m Ss' f v q ∧ (Ss' q).key = (Ss q).key ∧ (Ss' q).val = (Ss q).val := by
  have e := k q h.1 h.2.1
  exact ⟨⟨h.1, e.1, e.2.1.trans h.2.2.1, e.2.2.1.trans h.2.2.2.1, e.2.2.2.1.trans h.2.2.2.2⟩, e.2.2.2.2.1, e.2.2.2.2.2⟩

/-- What is so of an act among the others. -/
structure Good (m : Nat) (Ss : Nat → Ac) (S : Ac) : Prop where
  key : 0 ≤ S.key ∧ S.key ≤ 18446744073709551615
  val : 0 ≤ S.val ∧ S.val ≤ 18446744073709551615
  put : S.put = true → (∀ i, i < 4 → S.h i = half S.key S.val i) ∧ S.found = false ∧ S.st ≤ 3 ∧ (S.st = 1 ∨ S.st = 2 → S.won = false) ∧ (S.st = 3 → S.won = true) ∧ (S.st = 2 → S.ver = bh (hi S.was))
  get : S.put = false → S.won = false ∧ (S.st = 0 ∨ S.st = 4 ∨ S.st = 5) ∧ (¬ S.st = 0 → S.found = false ∧ ∀ i, i < 2 → S.h i = half S.key 0 i)
  mid : S.put = false → S.st = 5 → ∃ q, Own m Ss S.first S.ver q ∧ ∀ i, i < S.cell → half (Ss q).key (Ss q).val i = S.h i
  hit : S.put = false → S.found = true → ∃ q, q < m ∧ (Ss q).won = true ∧ (Ss q).put = true ∧ (Ss q).key = S.key ∧ (Ss q).val = jn (S.h 2) (S.h 3)
theorem Good.keep {m : Nat} {Ss Ss' : Nat → Ac} {S : Ac} (h : Good m Ss S) (k : Keep m Ss Ss') : Good m Ss' S := by
  refine ⟨h.key, h.val, h.put, h.get, fun a b => ?_, fun a b => ?_⟩
  · obtain ⟨q, ho, hq⟩ := h.mid a b
    have e := ho.keep k
    exact ⟨q, e.1, fun i hi => by rw [e.2.1, e.2.2]; exact hq i hi⟩
  · obtain ⟨q, h1, h2, h3, h4, h5⟩ := h.hit a b
    have e := k q h1 h2
    exact ⟨q, h1, e.1, e.2.1.trans h3, e.2.2.2.2.1.trans h4, e.2.2.2.2.2.trans h5⟩

structure Turn (m n : Nat) (Ss : Nat → Ac) (c : Nat → Int) : Prop where
  line : ∀ p, p < m → ∃ j, j < n ∧ (Ss p).first = 4 * j
  fit : ∀ p, p < m → Fit (4 * n) (Ss p)
  u64 : U64 c
  cells : ∀ j i, j < n → i < 4 → hi (c (4 * j + i)) = 0 ∨ ∃ q, Own m Ss (4 * j) (hi (c (4 * j + i))) q ∧ lo (c (4 * j + i)) = half (Ss q).key (Ss q).val i
  top : ∀ p, p < m → (Ss p).won = true → 1 ≤ (Ss p).ver ∧ (Ss p).ver ≤ hi (c (Ss p).first)
  one : ∀ p q, p < m → q < m → (Ss p).won = true → (Ss q).won = true → (Ss p).first = (Ss q).first → (Ss p).ver = (Ss q).ver → p = q
  few : ∀ j, j < n → hi (c (4 * j)) ≤ ((wins Ss m : Nat) : Int)
  each : ∀ p, p < m → Good m Ss (Ss p)

section
variable {m n k : Nat} {Ss : Nat → Ac} {c : Nat → Int} {S' : Ac}
/-- A step that writes no cell. -/
theorem Turn.quiet (h : Turn m n Ss c) (e1 : S'.put = (Ss k).put) (e2 : S'.key = (Ss k).key) (e3 : S'.val = (Ss k).val) (e4 : S'.first = (Ss k).first) (e5 : S'.won = (Ss k).won) (e6 : S'.won = true → S'.ver = (Ss k).ver) (f : Fit (4 * n) S') (g : Good m Ss S') :
    Turn m n (setS Ss k S') c := by
  have kp : Keep m Ss (setS Ss k S') := fun q _ hw => by
    by_cases d : q = k
    · rw [d, setS_same]
      rw [d] at hw
      exact ⟨e5.trans hw, e1, e4, e6 (e5.trans hw), e2, e3⟩
    · rw [setS_other _ _ d]
      exact ⟨hw, rfl, rfl, rfl, rfl, rfl⟩
  have same : ∀ q, (setS Ss k S' q).first = (Ss q).first ∧ (setS Ss k S' q).won = (Ss q).won ∧ ((Ss q).won = true → (setS Ss k S' q).ver = (Ss q).ver) := fun q => by
    by_cases d : q = k
    · rw [d, setS_same]
      exact ⟨e4, e5, fun w => e6 (e5.trans w)⟩
    · rw [setS_other _ _ d]
      exact ⟨rfl, rfl, fun _ => rfl⟩
  refine ⟨fun p hp => ?_, fun p hp => ?_, h.u64, fun j i hj hi4 => ?_, fun p hp hw => ?_, fun p q hp hq hwp hwq ef ev => ?_, fun j hj => ?_, fun p hp => ?_⟩
  · rw [(same p).1]; exact h.line p hp
  · by_cases d : p = k
    · rw [d, setS_same]; exact f
    · rw [setS_other _ _ d]; exact h.fit p hp
  · rcases h.cells j i hj hi4 with z | ⟨q, ho, hl⟩
    · exact .inl z
    · have e := ho.keep kp
      exact .inr ⟨q, e.1, by rw [e.2.1, e.2.2]; exact hl⟩
  · have s := same p
    rw [s.2.1] at hw
    rw [s.1, s.2.2 hw]
    exact h.top p hp hw
  · have s := same p
    have s' := same q
    rw [s.2.1] at hwp
    rw [s'.2.1] at hwq
    rw [s.1, s'.1] at ef
    rw [s.2.2 hwp, s'.2.2 hwq] at ev
    exact h.one p q hp hq hwp hwq ef ev
  · rw [wins_congr m fun i _ => (same i).2.1]; exact h.few j hj
  · by_cases d : p = k
    · rw [d, setS_same]; exact g.keep kp
    · rw [setS_other _ _ d]; exact (h.each p hp).keep kp

theorem mul4 {a b i j : Nat} (hi : i < 4) (hj : j < 4) (h : 4 * a + i = 4 * b + j) : a = b ∧ i = j := by omega

/-- A put that writes. -/
theorem Turn.write (h : Turn m n Ss c) (hk : k < m) (hp : (Ss k).put = true) (hst : (Ss k).st = 3) : Turn m n (setS Ss k ((Ss k).nxt c)) ((Ss k).after c) := by
  have f := h.fit k hk
  have g := h.each k hk
  have hcl := f.cell (.inl hst)
  have hw : (Ss k).won = true := (g.put hp).2.2.2.2.1 hst
  obtain ⟨jk, hjk, hfk⟩ := h.line k hk
  have hv := h.top k hk hw
  have hh := f.h (Ss k).cell
  have hvv := f.ver
  have b : Turn m n (setS Ss k ((Ss k).nxt c)) c := by
    refine h.quiet ?_ ?_ ?_ ?_ ?_ ?_ (f.step h.u64) ?_
    all_goals rw [nxt3 hst]
    · exact fun _ => rfl
    · refine ⟨g.key, g.val, fun _ => ?_, fun a => ?_, fun a => ?_, fun a => ?_⟩
      · have q := g.put hp
        refine ⟨q.1, q.2.1, ?_, fun e => ?_, fun _ => hw, fun e => ?_⟩
        · show (if _ then 0 else 3) ≤ 3; split <;> omega
        · exfalso
          have : (if (Ss k).cell + 1 = 4 then 0 else 3) = 1 ∨ (if (Ss k).cell + 1 = 4 then 0 else 3) = 2 := e
          split at this <;> omega
        · exfalso
          have : (if (Ss k).cell + 1 = 4 then 0 else 3) = 2 := e
          split at this <;> omega
      · exact absurd (hp.symm.trans a) (by simp)
      · exact absurd (hp.symm.trans a) (by simp)
      · exact absurd (hp.symm.trans a) (by simp)
  have hs : ((Ss k).nxt c).first = 4 * jk ∧ ((Ss k).nxt c).won = true ∧ ((Ss k).nxt c).put = true ∧ ((Ss k).nxt c).ver = (Ss k).ver ∧ ((Ss k).nxt c).key = (Ss k).key ∧ ((Ss k).nxt c).val = (Ss k).val := by
    rw [nxt3 hst]; exact ⟨hfk, hw, hp, rfl, rfl, rfl⟩
  rw [after3 hst, hfk]
  refine ⟨b.line, b.fit, fun i => ?_, fun j i hj hi4 => ?_, fun p hpm hwp => ?_, b.one, fun j hj => ?_, b.each⟩
  · by_cases d : i = 4 * jk + (Ss k).cell
    · rw [d, upd_same]; exact jn_lt hvv.1 hvv.2 hh.1 hh.2
    · rw [upd_other _ _ d]; exact h.u64 i
  · by_cases d : 4 * j + i = 4 * jk + (Ss k).cell
    · have e := mul4 hi4 (by omega) d
      right
      refine ⟨k, ⟨hk, ?_⟩, ?_⟩
      · rw [d, upd_same, hi_jn _ hh.1 hh.2, setS_same, e.1]
        exact ⟨hs.2.1, hs.2.2.1, hs.1, hs.2.2.2.1⟩
      · rw [d, upd_same, lo_jn _ hh.1 hh.2, setS_same, hs.2.2.2.2.1, hs.2.2.2.2.2, e.2]
        exact (g.put hp).1 _ (by omega)
    · rw [upd_other _ _ d]; exact b.cells j i hj hi4
  · obtain ⟨jp, _, hfp⟩ := b.line p hpm
    have := b.top p hpm hwp
    rw [hfp] at this ⊢
    rw [upd_other _ _ (by omega)]
    exact this
  · rw [upd_other _ _ (by omega)]
    exact b.few j hj

/-- A put that makes the next version its own. -/
theorem Turn.claim (h : Turn m n Ss c) (hk : k < m) (hm : m ≤ 1000) (hp : (Ss k).put = true) (hst : (Ss k).st = 2) (hx : c (Ss k).first = (Ss k).was) : Turn m n (setS Ss k ((Ss k).nxt c)) ((Ss k).after c) := by
  have f := h.fit k hk
  have g := h.each k hk
  have q := g.put hp
  have hw : (Ss k).won = false := q.2.2.2.1 (.inr hst)
  obtain ⟨jk, hjk, hfk⟩ := h.line k hk
  have hh := f.h 0
  have hvv := f.ver
  have hu := h.u64 (Ss k).first
  have hv0 := hi_lt hu.1 hu.2
  have hfew := h.few jk hjk
  have hwl := wins_le Ss m
  have hver : (Ss k).ver = hi (c (Ss k).first) + 1 := by
    rw [q.2.2.2.2.2 hst, ← hx]
    unfold bh
    rw [if_neg (by rw [hfk]; omega)]
  have en : (Ss k).nxt c = ⟨(Ss k).put, (Ss k).key, (Ss k).val, (Ss k).first, 1, (Ss k).h, (Ss k).was, (Ss k).ver, 3, (Ss k).found, true⟩ := by rw [nxt2 hst, if_pos hx]
  have fN := f.step h.u64
  rw [en] at fN ⊢
  rw [after2 hst hx]
  generalize hS : (⟨(Ss k).put, (Ss k).key, (Ss k).val, (Ss k).first, 1, (Ss k).h, (Ss k).was, (Ss k).ver, 3, (Ss k).found, true⟩ : Ac) = S2 at fN
  have s1 : S2.put = true := by rw [← hS]; exact hp
  have s2 : S2.key = (Ss k).key := by rw [← hS]
  have s3 : S2.val = (Ss k).val := by rw [← hS]
  have s4 : S2.first = (Ss k).first := by rw [← hS]
  have s5 : S2.won = true := by rw [← hS]
  have s6 : S2.ver = (Ss k).ver := by rw [← hS]
  have kp : Keep m Ss (setS Ss k S2) := fun p _ hwp => by
    have d : p ≠ k := fun e => by rw [e, hw] at hwp; cases hwp
    rw [setS_other _ _ d]
    exact ⟨hwp, rfl, rfl, rfl, rfl, rfl⟩
  have gS : Good m Ss S2 := by
    rw [← hS]
    refine ⟨g.key, g.val, fun _ => ⟨q.1, q.2.1, Nat.le_refl 3, fun e => ?_, fun _ => rfl, fun e => ?_⟩, fun a => ?_, fun a => ?_, fun a => ?_⟩
    · have : (3 = 1 ∨ 3 = 2) := e
      omega
    · have : 3 = 2 := e
      omega
    · exact absurd (hp.symm.trans a) (by simp)
    · exact absurd (hp.symm.trans a) (by simp)
    · exact absurd (hp.symm.trans a) (by simp)
  have hi0 : hi (jn (Ss k).ver ((Ss k).h 0)) = (Ss k).ver := hi_jn _ hh.1 hh.2
  rw [hfk]
  refine ⟨fun p hpm => ?_, fun p hpm => ?_, fun i => ?_, fun j i hj hi4 => ?_, fun p hpm hwp => ?_, fun p r hpm hrm hwp hwr ef ev => ?_, fun j hj => ?_, fun p hpm => ?_⟩
  · by_cases d : p = k
    · rw [d, setS_same, s4]; exact ⟨jk, hjk, hfk⟩
    · rw [setS_other _ _ d]; exact h.line p hpm
  · by_cases d : p = k
    · rw [d, setS_same]; exact fN
    · rw [setS_other _ _ d]; exact h.fit p hpm
  · by_cases d : i = 4 * jk
    · rw [d, upd_same]; exact jn_lt hvv.1 hvv.2 hh.1 hh.2
    · rw [upd_other _ _ d]; exact h.u64 i
  · by_cases d : 4 * j + i = 4 * jk
    · have e : j = jk ∧ i = 0 := by omega
      right
      refine ⟨k, ⟨hk, ?_⟩, ?_⟩
      · rw [d, upd_same, hi0, setS_same, e.1]
        exact ⟨s5, s1, s4.trans hfk, s6⟩
      · rw [d, upd_same, lo_jn _ hh.1 hh.2, setS_same, s2, s3, e.2]
        exact q.1 0 (by omega)
    · rw [upd_other _ _ d]
      rcases h.cells j i hj hi4 with z | ⟨r, ho, hl⟩
      · exact .inl z
      · have e := ho.keep kp
        exact .inr ⟨r, e.1, by rw [e.2.1, e.2.2]; exact hl⟩
  · by_cases d : p = k
    · rw [d, setS_same, s6, s4, hfk, upd_same, hi0]
      exact ⟨by omega, Int.le_refl _⟩
    · rw [setS_other _ _ d] at hwp ⊢
      obtain ⟨jp, _, hfp⟩ := h.line p hpm
      have t := h.top p hpm hwp
      by_cases d2 : (Ss p).first = 4 * jk
      · rw [d2, upd_same, hi0]
        rw [d2, ← hfk] at t
        exact ⟨t.1, by omega⟩
      · rw [upd_other _ _ d2]
        exact t
  · by_cases d : p = k
    · by_cases d2 : r = k
      · omega
      · exfalso
        rw [d, setS_same, setS_other _ _ d2, s4] at ef
        rw [d, setS_same, setS_other _ _ d2, s6] at ev
        rw [setS_other _ _ d2] at hwr
        have t := h.top r hrm hwr
        rw [← ef] at t
        omega
    · by_cases d2 : r = k
      · exfalso
        rw [d2, setS_same, setS_other _ _ d, s4] at ef
        rw [d2, setS_same, setS_other _ _ d, s6] at ev
        rw [setS_other _ _ d] at hwp
        have t := h.top p hpm hwp
        rw [ef] at t
        omega
      · rw [setS_other _ _ d, setS_other _ _ d2] at ef ev
        rw [setS_other _ _ d] at hwp
        rw [setS_other _ _ d2] at hwr
        exact h.one p r hpm hrm hwp hwr ef ev
  · rw [wins_flip m hk hw s5]
    by_cases d : 4 * j = 4 * jk
    · rw [d, upd_same, hi0, hver, hfk]
      omega
    · rw [upd_other _ _ d]
      have := h.few j hj
      omega
  · by_cases d : p = k
    · rw [d, setS_same]; exact gS.keep kp
    · rw [setS_other _ _ d]; exact (h.each p hpm).keep kp
theorem half01 (key val : Int) {i : Nat} (h : i < 2) : half key val i = half key 0 i := by
  obtain rfl | rfl : i = 0 ∨ i = 1 := by omega
  · rfl
  · rfl
/-- A get that opens its line. -/
theorem Turn.open_ (h : Turn m n Ss c) (hk : k < m) (hp : (Ss k).put = false) (hst : (Ss k).st = 4) : Turn m n (setS Ss k ((Ss k).nxt c)) c := by
  have f := h.fit k hk
  have g := h.each k hk
  have q := g.get hp
  have q2 := q.2.2 (by omega)
  obtain ⟨jk, hjk, hfk⟩ := h.line k hk
  have fN := f.step h.u64
  rw [nxt4 hst] at fN ⊢
  by_cases hx : hi (c (Ss k).first) = 0 ∨ ¬ lo (c (Ss k).first) = (Ss k).h 0
  · rw [if_pos hx] at fN ⊢
    refine h.quiet rfl rfl rfl rfl rfl (fun _ => rfl) fN ⟨g.key, g.val, fun a => absurd (hp.symm.trans a) (by simp), fun _ => ⟨q.1, .inl rfl, fun e => absurd rfl e⟩, fun _ e => absurd (show 0 = 5 from e) (by omega), fun _ e => absurd (q2.1.symm.trans e) (by simp)⟩
  · rw [if_neg hx] at fN ⊢
    have hw : ∀ x : Bool, (Ss k).won = x → x = false := fun x e => e.symm.trans q.1
    refine h.quiet rfl rfl rfl rfl rfl (fun e => absurd (hw true e) (by simp)) fN ⟨g.key, g.val, fun a => absurd (hp.symm.trans a) (by simp), fun _ => ⟨q.1, .inr (.inr rfl), fun _ => q2⟩, fun _ _ => ?_, fun _ e => absurd (q2.1.symm.trans e) (by simp)⟩
    have h0 : ¬ hi (c (Ss k).first) = 0 := fun e => hx (.inl e)
    have h1 : lo (c (Ss k).first) = (Ss k).h 0 := Classical.byContradiction fun e => hx (.inr e)
    rw [hfk] at h0 h1 ⊢
    rcases h.cells jk 0 hjk (by omega) with z | ⟨r, ho, hl⟩
    · exact absurd z h0
    · refine ⟨r, ho, fun i hi1 => ?_⟩
      have : i < 1 := hi1
      obtain rfl : i = 0 := by omega
      rw [← hl]
      exact h1
/-- A get that reads a cell. -/
theorem Turn.read (h : Turn m n Ss c) (hk : k < m) (hp : (Ss k).put = false) (hst : (Ss k).st = 5) : Turn m n (setS Ss k ((Ss k).nxt c)) c := by
  have f := h.fit k hk
  have g := h.each k hk
  have q := g.get hp
  have q2 := q.2.2 (by omega)
  have hcl := f.cell (.inr hst)
  obtain ⟨jk, hjk, hfk⟩ := h.line k hk
  have fN := f.step h.u64
  rw [nxt5 hst] at fN ⊢
  by_cases hx : ¬ hi (c ((Ss k).first + (Ss k).cell)) = (Ss k).ver ∨ (Ss k).cell < 2 ∧ ¬ lo (c ((Ss k).first + (Ss k).cell)) = (Ss k).h (Ss k).cell
  · rw [if_pos hx] at fN ⊢
    exact h.quiet rfl rfl rfl rfl rfl (fun _ => rfl) fN ⟨g.key, g.val, fun a => absurd (hp.symm.trans a) (by simp), fun _ => ⟨q.1, .inl rfl, fun e => absurd rfl e⟩, fun _ e => absurd (show 0 = 5 from e) (by omega), fun _ e => absurd (q2.1.symm.trans e) (by simp)⟩
  · rw [if_neg hx] at fN ⊢
    have h0 : hi (c ((Ss k).first + (Ss k).cell)) = (Ss k).ver := Classical.byContradiction fun e => hx (.inl e)
    have h1 : (Ss k).cell < 2 → lo (c ((Ss k).first + (Ss k).cell)) = (Ss k).h (Ss k).cell := fun a => Classical.byContradiction fun e => hx (.inr ⟨a, e⟩)
    obtain ⟨r, ho, hr⟩ := g.mid hp hst
    have ht := h.top r ho.1 ho.2.1
    have hl : lo (c ((Ss k).first + (Ss k).cell)) = half (Ss r).key (Ss r).val (Ss k).cell := by
      rw [hfk] at h0 ⊢
      rcases h.cells jk (Ss k).cell hjk (by omega) with z | ⟨r', ho', hl'⟩
      · exfalso
        rw [z] at h0
        have := ho.2.2.2.2
        omega
      · have e : r' = r := h.one r' r ho'.1 ho.1 ho'.2.1 ho.2.1 (ho'.2.2.2.1.trans (hfk.symm.trans ho.2.2.2.1.symm)) (ho'.2.2.2.2.trans (h0.trans ho.2.2.2.2.symm))
        rw [e] at hl'
        exact hl'
    obtain ⟨x, hxx⟩ : ∃ x, lo (c ((Ss k).first + (Ss k).cell)) = x := ⟨_, rfl⟩
    rw [hxx] at h1 hl fN ⊢
    have hn : ∀ i, i < (Ss k).cell + 1 → half (Ss r).key (Ss r).val i = upd (Ss k).h (Ss k).cell x i := fun i hi1 => by
      by_cases d : i = (Ss k).cell
      · rw [d, upd_same]; exact hl.symm
      · rw [upd_other _ _ d]; exact hr i (by omega)
    have hk2 : ∀ i, i < 2 → upd (Ss k).h (Ss k).cell x i = half (Ss k).key 0 i := fun i hi2 => by
      by_cases d : i = (Ss k).cell
      · rw [d, upd_same, h1 (by omega)]; exact q2.2 _ (by omega)
      · rw [upd_other _ _ d]; exact q2.2 i hi2
    have hw : ∀ y : Bool, (Ss k).won = y → y = false := fun y e => e.symm.trans q.1
    by_cases d : (Ss k).cell + 1 = 4
    · rw [if_pos d] at fN ⊢
      rw [if_pos d] at fN ⊢
      refine h.quiet rfl rfl rfl rfl rfl (fun _ => rfl) fN ⟨g.key, g.val, fun a => absurd (hp.symm.trans a) (by simp), fun _ => ⟨q.1, .inl rfl, fun e => absurd rfl e⟩, fun _ e => absurd (show 0 = 5 from e) (by omega), fun _ _ => ?_⟩
      refine ⟨r, ho.1, ho.2.1, ho.2.2.1, ?_, ?_⟩
      · have a0 : hi (Ss r).key = hi (Ss k).key := (hn 0 (by omega)).trans (hk2 0 (by omega))
        have a1 : lo (Ss r).key = lo (Ss k).key := (hn 1 (by omega)).trans (hk2 1 (by omega))
        show (Ss r).key = (Ss k).key
        rw [← jn_hi_lo (Ss r).key, a0, a1, jn_hi_lo]
      · show (Ss r).val = jn (upd (Ss k).h (Ss k).cell x 2) (upd (Ss k).h (Ss k).cell x 3)
        rw [← hn 2 (by omega), ← hn 3 (by omega)]
        exact (jn_hi_lo _).symm
    · rw [if_neg d] at fN ⊢
      rw [if_neg d] at fN ⊢
      refine h.quiet rfl rfl rfl rfl rfl (fun _ => rfl) fN ⟨g.key, g.val, fun a => absurd (hp.symm.trans a) (by simp), fun _ => ⟨q.1, .inr (.inr rfl), fun _ => ⟨q2.1, hk2⟩⟩, fun _ _ => ⟨r, ho, hn⟩, fun _ e => absurd (q2.1.symm.trans e) (by simp)⟩
/-- Whatever act steps next. -/
theorem Turn.step (h : Turn m n Ss c) (hk : k < m) (hm : m ≤ 1000) : Turn m n (setS Ss k ((Ss k).nxt c)) ((Ss k).after c) := by
  have f := h.fit k hk
  have g := h.each k hk
  by_cases h0 : (Ss k).st = 0
  · rw [nxt0 h0, setS_self, after_same (fun e => by omega) (by omega)]; exact h
  · cases hp : (Ss k).put with
    | false =>
      rcases (g.get hp).2.1 with e | e | e
      · exact absurd e h0
      · rw [after_same (fun q => by omega) (by omega)]; exact h.open_ hk hp e
      · rw [after_same (fun q => by omega) (by omega)]; exact h.read hk hp e
    | true =>
      have q := g.put hp
      obtain e | e | e : (Ss k).st = 1 ∨ (Ss k).st = 2 ∨ (Ss k).st = 3 := by omega
      · have fN := f.step h.u64
        rw [nxt1 e] at fN ⊢
        rw [after_same (fun q => by omega) (by omega)]
        have hw := q.2.2.2.1 (.inl e)
        refine h.quiet rfl rfl rfl rfl rfl (fun a => absurd (hw.symm.trans a) (by simp)) fN ⟨g.key, g.val, fun _ => ⟨q.1, q.2.1, by show 2 ≤ 3; omega, fun _ => hw, fun a => absurd (show 2 = 3 from a) (by omega), fun _ => rfl⟩, fun a => absurd (hp.symm.trans a) (by simp), fun a => absurd (hp.symm.trans a) (by simp), fun a => absurd (hp.symm.trans a) (by simp)⟩
      · by_cases hx : c (Ss k).first = (Ss k).was
        · exact h.claim hk hm hp e hx
        · have fN := f.step h.u64
          rw [nxt2 e, if_neg hx] at fN ⊢
          rw [after_same (fun _ => hx) (by omega)]
          refine h.quiet rfl rfl rfl rfl rfl (fun _ => rfl) fN ⟨g.key, g.val, fun _ => ⟨q.1, q.2.1, Nat.zero_le _, fun a => ?_, fun a => absurd (show 0 = 3 from a) (by omega), fun a => absurd (show 0 = 2 from a) (by omega)⟩, fun a => absurd (hp.symm.trans a) (by simp), fun a => absurd (hp.symm.trans a) (by simp), fun a => absurd (hp.symm.trans a) (by simp)⟩
          have : (0 = 1 ∨ 0 = 2) := a
          omega
      · exact h.write hk hp e
theorem Good.ofPut {f : Nat} {key val : Int} (h0 : 0 ≤ key ∧ key ≤ 18446744073709551615) (h1 : 0 ≤ val ∧ val ≤ 18446744073709551615) : Good m Ss (Ac.ofPut f key val) :=
  ⟨h0, h1, fun _ => ⟨fun _ _ => rfl, rfl, by show 1 ≤ 3; omega, fun _ => rfl, fun a => absurd (show 1 = 3 from a) (by omega), fun a => absurd (show 1 = 2 from a) (by omega)⟩, fun a => absurd (show true = false from a) (by simp), fun a => absurd (show true = false from a) (by simp), fun a => absurd (show true = false from a) (by simp)⟩
theorem Good.ofGet {f : Nat} {key : Int} (h0 : 0 ≤ key ∧ key ≤ 18446744073709551615) : Good m Ss (Ac.ofGet f key) :=
  ⟨h0, ⟨Int.le_refl 0, show (0 : Int) ≤ _ by omega⟩, fun a => absurd (show false = true from a) (by simp), fun _ => ⟨rfl, .inr (.inl rfl), fun _ => ⟨rfl, fun _ _ => rfl⟩⟩, fun _ a => absurd (show 4 = 5 from a) (by omega), fun _ a => absurd (show false = true from a) (by simp)⟩
/-- Acts that have done nothing yet, over cells that are all 0. -/
theorem Turn.start (h1 : ∀ p, p < m → ∃ j, j < n ∧ (Ss p).first = 4 * j) (h2 : ∀ p, p < m → Fit (4 * n) (Ss p)) (h3 : ∀ p, p < m → (Ss p).won = false) (h4 : ∀ p, p < m → Good m Ss (Ss p)) : Turn m n Ss (fun _ => 0) :=
  ⟨h1, h2, fun _ => ⟨Int.le_refl 0, show (0 : Int) ≤ _ by omega⟩, fun _ _ _ _ => .inl (show hi 0 = 0 by decide), fun p hp a => absurd ((h3 p hp).symm.trans a) (by simp), fun p _ hp _ a => absurd ((h3 p hp).symm.trans a) (by simp), fun _ _ => (by show hi 0 ≤ _; rw [show hi 0 = 0 by decide]; omega), h4⟩

/-! ## Turns that are fair -/
/-- How often act a was next before turn j, of m. -/
def times (m a j : Nat) : Nat := (j + m - 1 - a) / m
theorem times_succ {m a : Nat} (j : Nat) (ha : a < m) : times m a (j + 1) = times m a j + if j % m = a then 1 else 0 := by
  unfold times
  have hr := Nat.mod_lt j (show 0 < m by omega)
  have hj := Nat.div_add_mod j m
  generalize j / m = q at hj
  generalize hrr : j % m = r at hj hr
  have f : ∀ x, (m * q + x) / m = q + x / m := fun x => Nat.mul_add_div (by omega) q x
  have e1 : j + 1 + m - 1 - a = m * q + (r + m - a) := by omega
  have e2 : j + m - 1 - a = m * q + (r + m - 1 - a) := by omega
  rw [e1, e2, f, f]
  by_cases c : r = a
  · subst c
    rw [if_pos rfl, show r + m - r = m by omega, Nat.div_self (by omega), Nat.div_eq_of_lt (by omega)]
  · rw [if_neg c]
    by_cases d : r < a
    · rw [Nat.div_eq_of_lt (show r + m - a < m by omega), Nat.div_eq_of_lt (show r + m - 1 - a < m by omega)]
    · have g : ∀ x, m ≤ x → x < 2 * m → x / m = 1 := fun x h1 h2 => by
        rw [Nat.div_eq_sub_div (by omega) h1, Nat.div_eq_of_lt (by omega)]
      rw [g _ (by omega) (by omega), g _ (by omega) (by omega)]
theorem times_more {m a : Nat} (j c : Nat) (ha : a < m) : times m a (j + m * c) = times m a j + c := by
  unfold times
  rw [show j + m * c + m - 1 - a = m * c + (j + m - 1 - a) by omega, Nat.mul_add_div (by omega)]
  omega
/-- What is so of the turns behind turn j: L of them are given, then each is next in turn. -/
def Fair (m L j : Nat) (Ss : Nat → Ac) : Prop := ∀ a, a < m → L ≤ j → (Ss a).mu = 0 ∨ (Ss a).mu + times m a j ≤ 5 + times m a L
theorem Fair.early {L j : Nat} (hj : j ≤ L) : Fair m L j Ss := by
  intro a ha hL
  obtain rfl : j = L := by omega
  right
  have := mu_le (Ss a)
  omega
theorem Fair.step {L j : Nat} {S : Ac} (h : Fair m L j Ss) (hj : L ≤ j) (hS : S.mu = 0 ∨ S.mu + 1 ≤ (Ss (j % m)).mu) : Fair m L (j + 1) (setS Ss (j % m) S) := by
  intro a ha _
  rw [times_succ j ha]
  by_cases d : a = j % m
  · rw [d, setS_same, if_pos rfl]
    have h0 := h a ha hj
    rw [d] at h0
    omega
  · rw [setS_other _ _ d, if_neg (fun e => d e.symm)]
    have := h a ha hj
    omega
theorem Fair.same {L j : Nat} (h : Fair m L j Ss) (hj : L ≤ j) (hS : (Ss (j % m)).mu = 0) : Fair m L (j + 1) Ss := by
  intro a ha _
  rw [times_succ j ha]
  by_cases d : a = j % m
  · left; rw [d]; exact hS
  · rw [if_neg (fun e => d e.symm)]
    have := h a ha hj
    omega
theorem Fair.done {L : Nat} (h : Fair m L (L + m * 17) Ss) : ∀ a, a < m → (Ss a).mu = 0 := by
  intro a ha
  rcases h a ha (by omega) with e | e
  · exact e
  · rw [times_more L _ ha] at e
    omega
end
end Go.Proofs.Ytekeabiokiacnaa
