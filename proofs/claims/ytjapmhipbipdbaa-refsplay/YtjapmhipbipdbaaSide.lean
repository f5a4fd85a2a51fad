/-
  The object and the lists beside it, step by step.
-/
import Derived.Test.YtjapmhipbipdbaaRowc
namespace Go.Proofs.Ytjapmhipbipdbaa
open Go Go.RowKit

/-- The object, a row of counts, stacks: each in blocks of its own, none of them older than W. -/
structure Sq (W w : World) (R : Nat) (F : Nat → Prop) (P : Int → Option Int) (m n : Nat) (T : Nat → List Int) (adm : Option Addr) (capm : Nat) (cs : List (Int × Int)) (S : Nat) (A : Nat → Option Addr) (C : Nat → Nat) (T2 : Nat → List Int) : Prop where
  has : Has w R F P m n T
  own : OwnC w adm capm cs
  stk : Stk w S n A C T2
  sep : ∀ b, Fs S n A b → ¬ F b
  lowF : ∀ b, F b → W.heap.size ≤ b
  lowM : ∀ b, At adm b → W.heap.size ≤ b
  lowS : ∀ b, Fs S n A b → W.heap.size ≤ b
  below : Below W.heap.size W w
section
variable {W w w' : World} {R S n m m' : Nat} {F F' : Nat → Prop} {P P' : Int → Option Int} {T T' T2 T2' : Nat → List Int} {adm adm' : Option Addr} {capm capm' : Nat} {cs cs' : List (Int × Int)} {A A' : Nat → Option Addr} {C C' : Nat → Nat}
theorem Has.kinds (h : Has w R F P m n T) {b : Nat} {cur : Array Value} {t : TypeId} (hb : w.heap[b]? = some (.cells cur t (0, 0))) (h1 : t ≠ 52) (h2 : t ≠ 38) (h3 : t ≠ 29) : ¬ F b := by
  obtain ⟨mb, S, A, C, rfl, h⟩ := h
  rintro (rfl | hm | rfl | ⟨k, hk, hA⟩)
  · rw [h.head] at hb
    injection hb with hb
    injection hb with e1 e2
    exact h1 e2.symm
  · subst hm
    obtain ⟨es, clock, l, hm, _⟩ : IsMap w b P m := h.map
    rw [hm] at hb
    cases hb
  · obtain ⟨c, hc, _⟩ := h.stk.row
    rw [hc] at hb
    injection hb with hb
    injection hb with e1 e2
    exact h2 e2.symm
  · obtain ⟨c, hc⟩ := (h.stk.own k hk).kind b hA
    rw [hc] at hb
    injection hb with hb
    injection hb with e1 e2
    exact h3 e2.symm
theorem Stk.kinds (h : Stk w S n A C T) {b : Nat} {cur : Array Value} {t : TypeId} (hb : w.heap[b]? = some (.cells cur t (0, 0))) (h2 : t ≠ 38) (h3 : t ≠ 29) : ¬ Fs S n A b := by
  rintro (rfl | ⟨k, hk, hA⟩)
  · obtain ⟨c, hc, _⟩ := h.row
    rw [hc] at hb
    injection hb with hb
    injection hb with e1 e2
    exact h2 e2.symm
  · obtain ⟨c, hc⟩ := (h.own k hk).kind b hA
    rw [hc] at hb
    injection hb with hb
    injection hb with e1 e2
    exact h3 e2.symm
theorem Sq.apM (h : Sq W w R F P m n T adm capm cs S A C T2) : ∀ b, At adm b → ¬ F b ∧ ¬ Fs S n A b := fun b hb => by
  obtain ⟨c, hc⟩ := h.own.kind b hb
  exact ⟨h.has.kinds hc (by decide) (by decide) (by decide), h.stk.kinds hc (by decide) (by decide)⟩
theorem Sq.kept (h : Sq W w R F P m n T adm capm cs S A C T2) (k : Below w.heap.size w w') : Sq W w' R F P m n T adm capm cs S A C T2 :=
  ⟨h.has.below k, h.own.kept fun b hb => k.block b (h.own.block b hb), h.stk.kept fun b hb => k.block b (h.stk.lt b hb), h.sep, h.lowF, h.lowM, h.lowS, h.below.trans (k.mono h.below.size)⟩
/-- A call moves the object. -/
theorem Sq.call (h : Sq W w R F P m n T adm capm cs S A C T2) (mv : Moved F F' w w') (h' : Has w' R F' P' m' n T') : Sq W w' R F' P' m' n T' adm capm cs S A C T2 :=
  ⟨h', h.own.kept fun b hb => mv.went.block b (h.own.block b hb) (h.apM b hb).1, h.stk.kept fun b hb => mv.went.block b (h.stk.lt b hb) (h.sep b hb), mv.apart h.stk.lt h.sep, fun b hb => (mv.new b hb).elim (h.lowF b) (fun e => Nat.le_trans h.below.size e), h.lowM, h.lowS, h.below.trans (mv.went.below h.below.size h.lowF)⟩
/-- The row of counts is another. -/
theorem Sq.owned (h : Sq W w R F P m n T adm capm cs S A C T2) (bw : Went (At adm) w w') (o : OwnC w' adm' capm' cs') (hw : ∀ g, At adm' g → At adm g ∨ w.heap.size ≤ g) : Sq W w' R F P m n T adm' capm' cs' S A C T2 :=
  ⟨h.has.ofWent bw fun b hb hA => (h.apM b hA).1 hb, o, h.stk.kept fun b hb => bw.block b (h.stk.lt b hb) fun hA => (h.apM b hA).2 hb, h.sep, h.lowF, fun b hb => (hw b hb).elim (h.lowM b) (fun e => Nat.le_trans h.below.size e), h.lowS, h.below.trans (bw.below h.below.size h.lowM)⟩
/-- The stacks are others. -/
theorem Sq.stacked (h : Sq W w R F P m n T adm capm cs S A C T2) (bw : Went (Fs S n A) w w') (s : Stk w' S n A' C' T2') (hA : ∀ b, Fs S n A' b → Fs S n A b ∨ w.heap.size ≤ b) : Sq W w' R F P m n T adm capm cs S A' C' T2' :=
  ⟨h.has.ofWent bw fun b hb hS => h.sep b hS hb, h.own.kept fun b hb => bw.block b (h.own.block b hb) (h.apM b hb).2, s, fun b hb hF => (hA b hb).elim (fun e => h.sep b e hF) (fun e => by have := h.has.lt b hF; omega), h.lowF, h.lowM, fun b hb => (hA b hb).elim (h.lowS b) (fun e => Nat.le_trans h.below.size e), h.below.trans (bw.below h.below.size h.lowS)⟩
/-- A block of another kind is in none of them. -/
theorem Sq.box (h : Sq W w R F P m n T adm capm cs S A C T2) {b : Nat} {c : Array Value} (hb : w.heap[b]? = some (.cells c 31 (0, 0))) : b < w.heap.size ∧ ¬ F b ∧ ¬ At adm b ∧ ¬ Fs S n A b := by
  refine ⟨(Array.getElem?_eq_some_iff.1 hb).1, h.has.kinds hb (by decide) (by decide) (by decide), fun hA => ?_, h.stk.kinds hb (by decide) (by decide)⟩
  obtain ⟨c2, hc⟩ := h.own.kind b hA
  rw [hc] at hb
  injection hb with hb
  injection hb with e1 e2
  exact absurd e2 (by decide)
end

/-! ## What they tell -/
structure Good (P : Int → Option Int) (m n : Nat) (T : Nat → List Int) (cs : List (Int × Int)) (j : Nat) : Prop where
  all : IsAll P cs
  pos : ∀ k v, P k = some v → 0 ≤ k
  posT : ∀ i, i < n → ∀ x, x ∈ T i → 0 ≤ x
  four : n ≤ 4
  few : m ≤ j
  csl : cs.length ≤ j
  deepT : ∀ i, i < n → (T i).length ≤ j
  cnt : ∀ k v, P k = some v → 1 ≤ v ∧ v ≤ (j : Int)
theorem cat_few {T : Nat → List Int} {j : Nat} : ∀ {n : Nat}, (∀ i, i < n → (T i).length ≤ j) → (cat T n).length ≤ n * j
  | 0, _ => by simp [cat]
  | n + 1, h => by
    have h1 := cat_few (n := n) fun i hi => h i (by omega)
    have h2 := h n (by omega)
    unfold cat at h1 ⊢
    rw [List.range_succ, List.flatMap_append, List.length_append, Nat.succ_mul]
    simp
    simp at h1
    omega
section
variable {P : Int → Option Int} {m n j : Nat} {T : Nat → List Int} {cs xs ys : List (Int × Int)}
theorem Good.fits (h : Good P m n T cs j) (hj : j ≤ 101) : m + (cat T n).length ≤ 60000 := by
  have h1 := cat_few h.deepT
  have h2 := h.four
  have h3 := h.few
  have h4 : n * j ≤ 4 * 101 := Nat.mul_le_mul h2 hj
  omega
theorem Good.same (h : Good P m n T cs j) : Good P m n T cs (j + 1) :=
  ⟨h.all, h.pos, h.posT, h.four, by have := h.few; omega, by have := h.csl; omega, fun i hi => by have := h.deepT i hi; omega, fun k v e => by have := h.cnt k v e; omega⟩
theorem at1_some {k k' : Int} {o : Option Int} {v : Int} (h : at1 P k o k' = some v) : (k' = k ∧ o = some v) ∨ (k' ≠ k ∧ P k' = some v) := by
  unfold at1 at h
  by_cases e : k' = k
  · rw [if_pos e] at h; exact .inl ⟨e, h⟩
  · rw [if_neg e] at h; exact .inr ⟨e, h⟩
theorem Good.turned (h : Good P m n T cs j) {k v : Int} {m' : Nat} {cs' : List (Int × Int)} (hk : 0 ≤ k) (hv : 1 ≤ v ∧ v ≤ (j : Int) + 1) (ha : IsAll (at1 P k (some v)) cs') (hm : m' ≤ j + 1) (hl : cs'.length ≤ j + 1) : Good (at1 P k (some v)) m' n T cs' (j + 1) := by
  refine ⟨ha, fun k' u e => ?_, h.posT, h.four, hm, hl, fun i hi => by have := h.deepT i hi; omega, fun k' u e => ?_⟩
  · rcases at1_some e with ⟨rfl, _⟩ | ⟨_, e⟩
    · exact hk
    · exact h.pos _ _ e
  · rcases at1_some e with ⟨_, e2⟩ | ⟨_, e⟩
    · have := Option.some.inj e2; omega
    · have := h.cnt _ _ e; omega
theorem Good.gone (h : Good P m n T cs j) {k : Int} {cs' : List (Int × Int)} (ha : IsAll (at1 P k none) cs') (hl : cs'.length ≤ j + 1) : Good (at1 P k none) m n T cs' (j + 1) := by
  refine ⟨ha, fun k' u e => ?_, h.posT, h.four, by have := h.few; omega, hl, fun i hi => by have := h.deepT i hi; omega, fun k' u e => ?_⟩
  · rcases at1_some e with ⟨_, e2⟩ | ⟨_, e⟩
    · cases e2
    · exact h.pos _ _ e
  · rcases at1_some e with ⟨_, e2⟩ | ⟨_, e⟩
    · cases e2
    · have := h.cnt _ _ e; omega
theorem Good.stack (h : Good P m n T cs j) {i : Nat} {zs : List Int} (hz : ∀ x, x ∈ zs → x ∈ T i ∨ 0 ≤ x) (hl : zs.length ≤ j + 1) : Good P m n (up T i zs) cs (j + 1) := by
  refine ⟨h.all, h.pos, fun k hk x hx => ?_, h.four, by have := h.few; omega, by have := h.csl; omega, fun k hk => ?_, fun k v e => by have := h.cnt k v e; omega⟩
  · by_cases e : k = i
    · subst e
      rw [up_same] at hx
      rcases hz x hx with h1 | h1
      · exact h.posT k hk x h1
      · exact h1
    · rw [up_other _ _ e] at hx
      exact h.posT k hk x hx
  · by_cases e : k = i
    · subst e
      rw [up_same]
      exact hl
    · rw [up_other _ _ e]
      have := h.deepT k hk
      omega
end
/-- As the look over all takes it. -/
theorem Sq.al {W w : World} {R S n m j : Nat} {F : Nat → Prop} {P : Int → Option Int} {T : Nat → List Int} {adm : Option Addr} {capm : Nat} {cs : List (Int × Int)} {A : Nat → Option Addr} {C : Nat → Nat} (h : Sq W w R F P m n T adm capm cs S A C T) (g : Good P m n T cs j) : Al w R F P m n T adm capm cs S A C :=
  ⟨h.has, h.own, h.stk, g.all, g.pos, g.posT, g.four⟩
end Go.Proofs.Ytjapmhipbipdbaa
