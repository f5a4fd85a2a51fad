/-
  A store brought into an order, without a program: which levels change, and how often.
-/
import Derived.Test.YteickckgljlacaaGreatSwN
import Derived.Test.YteickckgljlacaaGreatSwS
namespace Go.Proofs.YteickckgljlacaaGreat.Sw
open Go Go.RowKit

/-- What stays when levels are exchanged. -/
structure Kept (M M' : Mdl) : Prop where
  n : M'.n = M.n
  room : M'.room = M.room
  node : ∀ x, M.isNode x → M'.isNode x
  val : ∀ x, M.isNode x → ∀ s, M'.val x s = M.val x s
theorem Kept.refl (M : Mdl) : Kept M M := ⟨rfl, rfl, fun _ h => h, fun _ _ _ => rfl⟩
theorem Kept.trans {M M' M'' : Mdl} (h : Kept M M') (k : Kept M' M'') : Kept M M'' :=
  ⟨k.n.trans h.n, k.room.trans h.room, fun x hx => k.node x (h.node x hx), fun x hx s => (k.val x (h.node x hx) s).trans (h.val x hx s)⟩
theorem Plan.kept {M M' : Mdl} {k : Nat} (p : Plan M k M') (o : M.Ok) : Kept M M' :=
  ⟨p.n, p.room, fun _ hx => hx.imp id fun e => p.keep _ e, fun _ hx s => p.val o hx s⟩
theorem Kept.tbl {M M' : Mdl} (h : Kept M M') {x : Nat} (hx : M.isNode x) : M'.tbl x = M.tbl x := funext fun _ => h.val x hx _
theorem Kept.grew {M M' : Mdl} (g : Mdl.Grew M M') (o : M.Ok) : Kept M M' := ⟨g.n, g.room, fun _ hx => g.isNode hx, fun _ hx s => g.val o hx s⟩
theorem surj_of_inj {n : Nat} {v : Nat → Nat} (lt : ∀ i, i < n → v i < n) (inj : ∀ i j, i < n → j < n → v i = v j → i = j) {u : Nat} (hu : u < n) : ∃ i, i < n ∧ v i = u := by
  by_cases c : u ∈ (List.range n).map v
  · obtain ⟨i, hi, e⟩ := List.mem_map.1 c
    exact ⟨i, List.mem_range.1 hi, e⟩
  · exfalso
    have nd : ((List.range n).map v).Nodup := nodup_map_on v _ List.nodup_range fun _ hx _ hy e => inj _ _ (List.mem_range.1 hx) (List.mem_range.1 hy) e
    have := nodup_le (u :: (List.range n).map v) (List.range n) (List.nodup_cons.2 ⟨c, nd⟩) fun x hx => by
      rcases List.mem_cons.1 hx with rfl | hx
      · exact List.mem_range.2 hu
      · obtain ⟨i, hi, e⟩ := List.mem_map.1 hx
        rw [← e]
        exact List.mem_range.2 (lt i (List.mem_range.1 hi))
    simp at this
    omega
/-- A variable gone up so many levels. -/
def downV (v : Nat → Nat) (p : Nat) : Nat → Nat → Nat
  | 0 => v
  | d + 1 => swv (downV v p d) (p - d - 1)
/-- The level of a variable. -/
def posN (v : Nat → Nat) (x : Nat) : Nat → Nat
  | 0 => 0
  | n + 1 => if v n = x then n else posN v x n
def toP (v : Nat → Nat) (Z : Nat → Int) (n j : Nat) : Nat := posN v (Z j).toNat n
/-- The order when so many levels have got their variables. -/
def toV (v : Nat → Nat) (Z : Nat → Int) (n : Nat) : Nat → Nat → Nat
  | 0 => v
  | j + 1 => downV (toV v Z n j) (toP (toV v Z n j) Z n j) (toP (toV v Z n j) Z n j - j)
/-- In how many swaps. -/
def toC (v : Nat → Nat) (Z : Nat → Int) (n : Nat) : Nat → Nat
  | 0 => 0
  | j + 1 => toC v Z n j + (toP (toV v Z n j) Z n j - j)
theorem toC_mono {v : Nat → Nat} {Z : Nat → Int} {n i : Nat} : ∀ {j}, i ≤ j → toC v Z n i ≤ toC v Z n j
  | 0, h => by rw [Nat.le_zero.1 h]; exact Nat.le_refl _
  | j + 1, h => by
    rcases Nat.lt_or_ge j i with c | c
    · rw [show i = j + 1 by omega]; exact Nat.le_refl _
    · exact Nat.le_trans (toC_mono c) (Nat.le_add_right _ _)
theorem downV_lo {v : Nat → Nat} {p : Nat} : ∀ {d i : Nat}, d ≤ p → i < p - d → downV v p d i = v i
  | 0, _, _, _ => rfl
  | d + 1, i, h, hi => by rw [downV, swv_far (by omega) (by omega), downV_lo (by omega) (by omega)]
theorem downV_at {v : Nat → Nat} {p : Nat} : ∀ {d : Nat}, d ≤ p → downV v p d (p - d) = v p
  | 0, _ => rfl
  | d + 1, h => by
    rw [downV, show p - (d + 1) = p - d - 1 by omega, swv_k, show p - d - 1 + 1 = p - d by omega, downV_at (by omega)]
theorem posN_of {v : Nat → Nat} {i : Nat} : ∀ {n : Nat}, (∀ a b, a < n → b < n → v a = v b → a = b) → i < n → posN v (v i) n = i
  | 0, _, hi => absurd hi (Nat.not_lt_zero _)
  | n + 1, inj, hi => by
    rw [posN]
    by_cases e : v n = v i
    · rw [if_pos e]; exact inj n i (by omega) hi e
    · rw [if_neg e]
      have : i ≠ n := fun q => e (by rw [q])
      exact posN_of (fun a b ha hb => inj a b (by omega) (by omega)) (by omega)
/-- Where the next variable is. -/
theorem to_at {v : Nat → Nat} {Z : Nat → Int} {n j : Nat} (lt : ∀ i, i < n → v i < n) (inj : ∀ a b, a < n → b < n → v a = v b → a = b) (hj : j < n) (hZ : ∀ i, i < n → 0 ≤ Z i ∧ Z i < (n : Int)) (hd : ∀ i j, i < n → j < i → Z j ≠ Z i) (hv : ∀ i, i < j → ((v i : Nat) : Int) = Z i) :
    toP v Z n j < n ∧ j ≤ toP v Z n j ∧ ((v (toP v Z n j) : Nat) : Int) = Z j ∧ v (toP v Z n j) = (Z j).toNat := by
  have z := hZ j hj
  obtain ⟨p, hp, e⟩ := surj_of_inj lt inj (u := (Z j).toNat) (by omega)
  have q : toP v Z n j = p := by unfold toP; rw [← e]; exact posN_of inj hp
  rw [q]
  refine ⟨hp, Nat.le_of_not_lt fun c => ?_, by rw [e]; omega, e⟩
  have h1 := hv p c
  rw [e] at h1
  exact hd j p hj c (by omega)
/-- What stands above the variable that is brought up. -/
theorem to_step {v : Nat → Nat} {Z : Nat → Int} {n j : Nat} (lt : ∀ i, i < n → v i < n) (inj : ∀ a b, a < n → b < n → v a = v b → a = b) (hj : j < n) (hZ : ∀ i, i < n → 0 ≤ Z i ∧ Z i < (n : Int)) (hd : ∀ i j, i < n → j < i → Z j ≠ Z i) (hv : ∀ i, i < j → ((v i : Nat) : Int) = Z i) :
    ∀ i, i < j + 1 → ((downV v (toP v Z n j) (toP v Z n j - j) i : Nat) : Int) = Z i := by
  obtain ⟨h1, h2, h3, _⟩ := to_at lt inj hj hZ hd hv
  intro i hi
  by_cases e : i = j
  · subst e
    have := downV_at (v := v) (p := toP v Z n i) (d := toP v Z n i - i) (by omega)
    rw [show toP v Z n i - (toP v Z n i - i) = i by omega] at this
    rw [this]; exact h3
  · rw [downV_lo (by omega) (by omega)]
    exact hv i (by omega)
/-- A swap of levels keeps an order an order. -/
theorem swv_ord {v : Nat → Nat} {n k : Nat} (hk : k + 1 < n) (lt : ∀ i, i < n → v i < n) (inj : ∀ a b, a < n → b < n → v a = v b → a = b) : (∀ i, i < n → swv v k i < n) ∧ ∀ a b, a < n → b < n → swv v k a = swv v k b → a = b := by
  refine ⟨fun i hi => ?_, fun a b ha hb e => ?_⟩
  · unfold swv
    split
    · exact lt _ hk
    · split
      · exact lt _ (by omega)
      · exact lt _ hi
  · unfold swv at e
    split at e
    · split at e
      · omega
      · split at e
        · have := inj _ _ hk (by omega) e; omega
        · have := inj _ _ hk hb e; omega
    · split at e
      · split at e
        · have := inj _ _ (by omega) hk e; omega
        · split at e
          · omega
          · have := inj _ _ (by omega) hb e; omega
      · split at e
        · have := inj _ _ ha hk e; omega
        · split at e
          · have := inj _ _ ha (by omega) e; omega
          · exact inj _ _ ha hb e
theorem downV_ord {v : Nat → Nat} {n p : Nat} (hp : p < n) (lt : ∀ i, i < n → v i < n) (inj : ∀ a b, a < n → b < n → v a = v b → a = b) : ∀ {d}, d ≤ p → (∀ i, i < n → downV v p d i < n) ∧ ∀ a b, a < n → b < n → downV v p d a = downV v p d b → a = b
  | 0, _ => ⟨lt, inj⟩
  | d + 1, h => by
    have := downV_ord hp lt inj (d := d) (by omega)
    exact swv_ord (by omega) this.1 this.2
/-- The order on the way. -/
theorem toV_ord {v : Nat → Nat} {Z : Nat → Int} {n : Nat} (lt : ∀ i, i < n → v i < n) (inj : ∀ a b, a < n → b < n → v a = v b → a = b) (hZ : ∀ i, i < n → 0 ≤ Z i ∧ Z i < (n : Int)) (hd : ∀ i j, i < n → j < i → Z j ≠ Z i) : ∀ {j}, j ≤ n → (∀ i, i < n → toV v Z n j i < n) ∧ (∀ a b, a < n → b < n → toV v Z n j a = toV v Z n j b → a = b) ∧ ∀ i, i < j → ((toV v Z n j i : Nat) : Int) = Z i
  | 0, _ => ⟨lt, inj, fun _ h => absurd h (Nat.not_lt_zero _)⟩
  | j + 1, h => by
    obtain ⟨h1, h2, h3⟩ := toV_ord lt inj hZ hd (j := j) (by omega)
    obtain ⟨q1, q2, _⟩ := to_at h1 h2 (by omega) hZ hd h3
    have o := downV_ord q1 h1 h2 (d := toP (toV v Z n j) Z n j - j) (by omega)
    exact ⟨o.1, o.2, to_step h1 h2 (by omega) hZ hd h3⟩
end Go.Proofs.YteickckgljlacaaGreat.Sw
