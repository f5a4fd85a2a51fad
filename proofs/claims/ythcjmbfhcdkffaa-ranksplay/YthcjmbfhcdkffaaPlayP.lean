/-
  The statement's own list of pairs: what a push, a removal, a change make of it; the appends that make it.
-/
import Derived.Test.YthcjmbfhcdkffaaBest
import Derived.Test.YthcjmbfhcdkffaaKnown
namespace Go.Proofs.Ythcjmbfhcdkffaa
open Go Go.RowKit

/-- Place b left out. -/
def del (I : Nat → Int × Int) (b : Nat) : Nat → Int × Int := fun i => if i < b then I i else I (i + 1)
theorem del_same {I : Nat → Int × Int} {n b : Nat} (hb : b < n + 1) (x : Int × Int) : (∃ k, k < n ∧ del I b k = x) ↔ (∃ k, k < n + 1 ∧ k ≠ b ∧ I k = x) := by
  unfold del
  constructor
  · rintro ⟨k, hk, e⟩
    by_cases c : k < b
    · rw [if_pos c] at e; exact ⟨k, by omega, by omega, e⟩
    · rw [if_neg c] at e; exact ⟨k + 1, by omega, by omega, e⟩
  · rintro ⟨k, hk, hne, e⟩
    by_cases c : k < b
    · exact ⟨k, by omega, by rw [if_pos c]; exact e⟩
    · refine ⟨k - 1, by omega, ?_⟩
      rw [if_neg (by omega), show k - 1 + 1 = k by omega]
      exact e
theorem del_ids {I : Nat → Int × Int} {n : Nat} (h : Ids (n + 1) I) (b : Nat) : Ids n (del I b) := by
  intro i j hi hj e
  unfold del at e
  by_cases ci : i < b <;> by_cases cj : j < b
  · rw [if_pos ci, if_pos cj] at e; exact h i j (by omega) (by omega) e
  · rw [if_pos ci, if_neg cj] at e; have := h i (j + 1) (by omega) (by omega) e; omega
  · rw [if_neg ci, if_pos cj] at e; have := h (i + 1) j (by omega) (by omega) e; omega
  · rw [if_neg ci, if_neg cj] at e; have := h (i + 1) (j + 1) (by omega) (by omega) e; omega
theorem setKey_ids {I : Nat → Int × Int} {n : Nat} (h : Ids n I) (a : Nat) (key : Int) : Ids n (setP I a ((I a).1, key)) := by
  have hid : ∀ k, (setP I a ((I a).1, key) k).1 = (I k).1 := fun k => by
    by_cases e : k = a
    · subst e; rw [setP_same]
    · rw [setP_other _ _ e]
  intro i j hi hj e
  rw [hid, hid] at e
  exact h i j hi hj e
/-- The best of the queue is the best of the list. -/
theorem best_is {I : Nat → Int × Int} {n b : Nat} {K : Int → Option Int} (ht : Tells n I K) (hb : b < n) (hbest : ∀ i, i < n → bet (I i) (I b) = false) {x : Int × Int} (hx : K x.1 = some x.2 ∧ ∀ id key, K id = some key → bet (id, key) x = false) : x = I b := by
  obtain ⟨i, hi, he⟩ := (ht x.1 x.2).1 hx.1
  have h1 := bet_not.1 (hbest i hi)
  have h2 := bet_not.1 (hx.2 (I b).1 (I b).2 ((ht _ _).2 ⟨b, hb, rfl⟩))
  rw [he] at h1
  simp only at h1 h2
  exact Prod.ext (by omega) (by omega)
theorem Tells.none_of {I : Nat → Int × Int} {n : Nat} {K : Int → Option Int} (ht : Tells n I K) {id : Int} (h : ∀ i, i < n → (I i).1 ≠ id) : K id = none := by
  cases e : K id with
  | none => rfl
  | some v =>
    obtain ⟨i, hi, he⟩ := (ht id v).1 e
    exact absurd (by rw [he]) (h i hi)

theorem addr_add (b o j : Nat) : (⟨b, o, none⟩ : Addr).add j = ⟨b, o + j, none⟩ := by
  by_cases h : j = 0
  · subst h; rfl
  · simp [Addr.add, h]

/-- Some pairs are appended to a slice of one's own. -/
theorem append_pairs {w : World} {ad : Option Addr} {n cap : Nat} {I : Nat → Int × Int} (h : OwnP w ad n cap I) {B : Nat} (hB : Blk ad fun b => B ≤ b) (hBw : B ≤ w.heap.size) {m : Nat} (hn : n + m ≤ 1000000)
    (J : Nat → Int × Int) (a : Addr) (c : Nat) (hc : ∀ j u, (pairsL m J)[j]? = some u → w.cell? (a.add j) = some u) (ty : TypeId) :
    ∃ ad' cap' w', (Builtin.append_ #[26, 26] ty #[.slice ad n cap, .slice (some a) m c]).run Try.prog w = .ok (.slice ad' (n + m) cap') w' ∧ OwnP w' ad' (n + m) cap' (fun i => if i < n then I i else J (i - n)) ∧ (Blk ad' fun b => B ≤ b) ∧ Moved (fun k => B ≤ k) w w' := by
  obtain ⟨i, hi, hz, hsz, hby⟩ := info_parts info30
  obtain ⟨v', w', hrun, r1, r2, r3, r4⟩ := run_append_own_at (P := Try.prog) w B 26 ty 30 i _ 2 16 Try.underlying26 hi hz hsz hby (by kernel_rfl) (by decide) (.slice ad n cap) n (pairsL n I) (h.owns hB) a m c (pairsL m J) (pairsL_length m J) hc (pairsL_one m J) (by simp only [maxLen]; omega) (by omega) hBw
  have e1 : ∀ m, pairsL n I ++ pairsL m J = pairsL (n + m) (fun i => if i < n then I i else J (i - n)) := by
    intro m
    induction m with
    | zero =>
      rw [show pairsL 0 J = [] from rfl, List.append_nil, Nat.add_zero]
      exact pairsL_congr fun i hi => by rw [if_pos hi]
    | succ m ih => rw [pairsL_succ, ← List.append_assoc, ih, show n + (m + 1) = n + m + 1 from rfl, pairsL_succ, if_neg (by omega), show n + m - n = m by omega]
  rw [e1] at r1
  obtain ⟨ad', cap', rfl, ho, hb⟩ := OwnP.of_owns r1
  refine ⟨ad', cap', w', hrun, ho, hb, ⟨r2.os, r2.tape, r2.output, r2.size, fun k hk hS => r2.block k hk fun e => hS ?_⟩⟩
  have hob : (Value.slice ad n cap).ownBlock = ad.map (·.block) := by cases ad <;> rfl
  rw [hob] at e
  cases ad with
  | none => simp at e
  | some a' =>
    simp at e
    subst e
    exact hB _ rfl

/-- 'append(append([]T(nil), m[:b]...), m[b+1:]...)': the two appends. -/
theorem del_runs {w : World} {g n cap : Nat} {I : Nat → Int × Int} (hp : PairsAt w g (n + 1) cap I) {b : Nat} (hb : b < n + 1) (hn : n ≤ 100000) :
    ∃ ad1 cap1 w1 ad2 cap2 w2, (Builtin.append_ #[26, 26] 26 #[.slice none 0 0, .slice (some ⟨g, 0, none⟩) b cap]).run Try.prog w = .ok (.slice ad1 b cap1) w1 ∧
      (Builtin.append_ #[26, 26] 26 #[.slice ad1 b cap1, .slice (if cap = b + 1 then some ⟨g, 0, none⟩ else some ⟨g, (b + 1) * 2, none⟩) (n - b) (cap - (b + 1))]).run Try.prog w1 = .ok (.slice ad2 n cap2) w2 ∧
      OwnP w2 ad2 n cap2 (del I b) ∧ (Blk ad2 fun k => w.heap.size ≤ k) ∧ Below w.heap.size w w2 := by
  have hg := hp.lt
  have cell : ∀ (w' : World), w'.heap[g]? = w.heap[g]? → ∀ (s m : Nat), s + m ≤ n + 1 → ∀ j u, (pairsL m fun i => I (s + i))[j]? = some u → w'.cell? ((⟨g, s * 2, none⟩ : Addr).add j) = some u := by
    intro w' hw' s m hsm j u hu
    have hj : j < m * 2 := by
      have := (List.getElem?_eq_some_iff.1 hu).1
      rwa [pairsL_length] at this
    have hp' := hp.of_block hw'
    rw [addr_add]
    by_cases e : j % 2 = 0
    · obtain ⟨i, rfl⟩ : ∃ i, j = i * 2 := ⟨j / 2, by omega⟩
      rw [(pairsL_get (by omega)).1] at hu
      rw [show s * 2 + i * 2 = (s + i) * 2 by omega, hp'.cell0 (by omega)]
      exact hu
    · obtain ⟨i, rfl⟩ : ∃ i, j = i * 2 + 1 := ⟨j / 2, by omega⟩
      rw [(pairsL_get (by omega)).2] at hu
      rw [show s * 2 + (i * 2 + 1) = (s + i) * 2 + 1 by omega, hp'.cell1 (by omega)]
      exact hu
  obtain ⟨ad1, cap1, w1, hr1, ho1, hb1, m1⟩ := append_pairs (OwnP.nil w I) (B := w.heap.size) (fun a ha => by cases ha) (Nat.le_refl _) (m := b) (by omega) (fun i => I (0 + i)) ⟨g, 0, none⟩ cap (by have := cell w rfl 0 b (by omega); rwa [Nat.zero_mul] at this) 26
  rw [Nat.zero_add] at hr1 ho1
  have hg1 : w1.heap[g]? = w.heap[g]? := m1.block g hg (by omega)
  have hcap := hp.cap_le
  have key : ∀ A : Addr, (∀ j u, (pairsL (n - b) fun i => I (b + 1 + i))[j]? = some u → w1.cell? (A.add j) = some u) → ∃ ad2 cap2 w2, (Builtin.append_ #[26, 26] 26 #[.slice ad1 b cap1, .slice (some A) (n - b) (cap - (b + 1))]).run Try.prog w1 = .ok (.slice ad2 n cap2) w2 ∧ OwnP w2 ad2 n cap2 (del I b) ∧ (Blk ad2 fun k => w.heap.size ≤ k) ∧ Below w.heap.size w w2 := by
    intro A hA
    obtain ⟨ad2, cap2, w2, hr2, ho2, hb2, m2⟩ := append_pairs ho1 hb1 m1.size (m := n - b) (by omega) (fun i => I (b + 1 + i)) A (cap - (b + 1)) hA 26
    rw [show b + (n - b) = n by omega] at hr2 ho2
    refine ⟨ad2, cap2, w2, hr2, ho2.congr fun i hi => ?_, hb2, ⟨m2.os.trans m1.os, m2.tape.trans m1.tape, m2.output.trans m1.output, Nat.le_trans m1.size m2.size, fun k hk => ?_⟩⟩
    · unfold del
      by_cases c : i < b
      · rw [if_pos c, if_pos c, if_neg (by omega), show i - 0 = i from rfl, Nat.zero_add]
      · rw [if_neg c, if_neg c, show b + 1 + (i - b) = i + 1 by omega]
    · rw [m2.block k (Nat.lt_of_lt_of_le hk m1.size) (by omega), m1.block k hk (by omega)]
  by_cases hc : cap = b + 1
  · have hbn : n - b = 0 := by omega
    obtain ⟨ad2, cap2, w2, r⟩ := key ⟨g, 0, none⟩ (by rw [hbn]; intro j u hu; simp [pairsL] at hu)
    exact ⟨ad1, cap1, w1, ad2, cap2, w2, hr1, by rw [if_pos hc]; exact r.1, r.2⟩
  · obtain ⟨ad2, cap2, w2, r⟩ := key ⟨g, (b + 1) * 2, none⟩ (cell w1 hg1 (b + 1) (n - b) (by omega))
    exact ⟨ad1, cap1, w1, ad2, cap2, w2, hr1, by rw [if_neg hc]; exact r.1, r.2⟩
end Go.Proofs.Ythcjmbfhcdkffaa
