/-
  Levels of tables as lists of numbers: plain facts, no program.
-/
import Derived.Test.YtmfocngdobcfcabDoorMap
import Derived.Test.YtmfocngdobcfcabDoorParts
import Derived.Test.YtmfocngdobcfcabDoorPfix
namespace Go.Proofs.YtmfocngdobcfcabDoor
open Go Go.RowKit

theorem pfix_int (F : Nat → Bool) (v : Int) (b : Bool) (w : World) (hC : Cols w) :
    Calls Tryd.prog 12 #[tab F, .int .i64 v, .bool b] w fun e w' => e = .returned (tab (fixI F v b)) ∧ Below w.heap.size w w' := by
  unfold fixI
  by_cases h : 0 ≤ v ∧ v < 8
  · rw [if_pos h]
    have hv : v = ((v.toNat : Nat) : Int) := by omega
    have := pfix_any F v.toNat (by omega) b w hC
    rw [← hv] at this
    exact this
  · rw [if_neg h]
    exact pfix_none F v b (by omega) w

def fixC (t : Nat) (v : Int) (b : Bool) : Nat := code (fixI t.testBit v b)
theorem fixC_lt (t : Nat) (v : Int) (b : Bool) : fixC t v b < top := code_lt _
/-- Whether the table hangs on v. -/
def hangs (v : Int) (t : Nat) : Bool := decide (fixC t v false ≠ fixC t v true)
def ins2 (v : Int) (acc : List Nat) (t : Nat) : List Nat := ins (ins acc (fixC t v false)) (fixC t v true)
/-- The level below. -/
def nextL (v : Int) (ts : List Nat) : List Nat := ts.foldl (ins2 v) []
def firstL (T : Nat → Nat → Bool) : Nat → List Nat
  | 0 => []
  | k + 1 => ins (firstL T k) (code (T k))
def lvl (T : Nat → Nat → Bool) (n : Nat) (V : Nat → Int) : Nat → List Nat
  | 0 => firstL T n
  | k + 1 => nextL (V k) (lvl T n V k)
def cntUpto (T : Nat → Nat → Bool) (n : Nat) (V : Nat → Int) : Nat → Nat
  | 0 => 0
  | k + 1 => cntUpto T n V k + (lvl T n V k).countP (hangs (V k))
def c0 : Nat := code fun _ => false
def c1 : Nat := code fun _ => true
def sizeN (T : Nat → Nat → Bool) (n : Nat) (V : Nat → Int) (m : Nat) : Nat := cntUpto T n V m + ((lvl T n V m).filter fun u => decide (u ≠ c0) && decide (u ≠ c1)).length

theorem mem_ins {ts : List Nat} {t u : Nat} : u ∈ ins ts t ↔ u ∈ ts ∨ u = t := by
  unfold ins
  split
  · rename_i h
    exact ⟨Or.inl, fun q => q.elim id fun e => e ▸ h⟩
  · simp
theorem nodup_ins {ts : List Nat} (h : ts.Nodup) (t : Nat) : (ins ts t).Nodup := by
  unfold ins
  split
  · exact h
  · rename_i hn
    rw [List.nodup_append]
    refine ⟨h, by simp, fun a ha b hb => ?_⟩
    simp at hb
    subst hb
    exact fun e => hn (e ▸ ha)
theorem ins_le (ts : List Nat) (t : Nat) : (ins ts t).length ≤ ts.length + 1 := by
  unfold ins
  split
  · omega
  · simp
theorem mem_fold (v : Int) : ∀ (ts acc : List Nat) (u : Nat), u ∈ ts.foldl (ins2 v) acc ↔ u ∈ acc ∨ ∃ t ∈ ts, u = fixC t v false ∨ u = fixC t v true
  | [], acc, u => by simp
  | t :: ts, acc, u => by
    rw [List.foldl_cons, mem_fold v ts, ins2, mem_ins, mem_ins]
    simp only [List.mem_cons, exists_eq_or_imp]
    constructor
    · rintro (((h | h) | h) | h)
      · exact Or.inl h
      · exact Or.inr (Or.inl (Or.inl h))
      · exact Or.inr (Or.inl (Or.inr h))
      · exact Or.inr (Or.inr h)
    · rintro (h | (h | h) | h)
      · exact Or.inl (Or.inl (Or.inl h))
      · exact Or.inl (Or.inl (Or.inr h))
      · exact Or.inl (Or.inr h)
      · exact Or.inr h
theorem nodup_fold (v : Int) : ∀ (ts acc : List Nat), acc.Nodup → (ts.foldl (ins2 v) acc).Nodup
  | [], _, h => h
  | _ :: ts, _, h => nodup_fold v ts _ (nodup_ins (nodup_ins h _) _)
theorem fold_le (v : Int) : ∀ (ts acc : List Nat), (ts.foldl (ins2 v) acc).length ≤ acc.length + 2 * ts.length
  | [], acc => by simp
  | t :: ts, acc => by
    have h1 := fold_le v ts (ins2 v acc t)
    have h2 := ins_le acc (fixC t v false)
    have h3 := ins_le (ins acc (fixC t v false)) (fixC t v true)
    simp only [List.foldl_cons, List.length_cons]
    unfold ins2 at h1 ⊢
    omega
theorem mem_nextL {v : Int} {ts : List Nat} {u : Nat} : u ∈ nextL v ts ↔ ∃ t ∈ ts, u = fixC t v false ∨ u = fixC t v true := by
  unfold nextL
  rw [mem_fold]
  simp
theorem nodup_nextL (v : Int) (ts : List Nat) : (nextL v ts).Nodup := nodup_fold v ts [] (by simp)
theorem nextL_le (v : Int) (ts : List Nat) : (nextL v ts).length ≤ 2 * ts.length := by
  have := fold_le v ts []
  simpa [nextL] using this
theorem nextL_perm {v : Int} {ts us : List Nat} (h : ts.Perm us) : (nextL v ts).Perm (nextL v us) := by
  rw [List.perm_ext_iff_of_nodup (nodup_nextL v ts) (nodup_nextL v us)]
  intro a
  rw [mem_nextL, mem_nextL]
  constructor
  · rintro ⟨t, ht, h1⟩; exact ⟨t, h.mem_iff.1 ht, h1⟩
  · rintro ⟨t, ht, h1⟩; exact ⟨t, h.mem_iff.2 ht, h1⟩
theorem firstL_le (T : Nat → Nat → Bool) : ∀ k, (firstL T k).length ≤ k
  | 0 => by simp [firstL]
  | k + 1 => by have := ins_le (firstL T k) (code (T k)); have := firstL_le T k; rw [firstL]; omega
theorem nodup_firstL (T : Nat → Nat → Bool) : ∀ k, (firstL T k).Nodup
  | 0 => by simp [firstL]
  | k + 1 => nodup_ins (nodup_firstL T k) _
theorem lvl_le (T : Nat → Nat → Bool) (n : Nat) (V : Nat → Int) : ∀ k, (lvl T n V k).length ≤ n * 2 ^ k
  | 0 => by simpa [lvl] using firstL_le T n
  | k + 1 => by
    have h1 := nextL_le (V k) (lvl T n V k)
    have h2 := lvl_le T n V k
    rw [lvl, Nat.pow_succ, ← Nat.mul_assoc]
    omega
theorem nodup_lvl (T : Nat → Nat → Bool) (n : Nat) (V : Nat → Int) : ∀ k, (lvl T n V k).Nodup
  | 0 => nodup_firstL T n
  | _ + 1 => nodup_nextL _ _
theorem cnt_le (T : Nat → Nat → Bool) (n : Nat) (V : Nat → Int) : ∀ k, cntUpto T n V k ≤ n * 2 ^ k
  | 0 => by simp [cntUpto]
  | k + 1 => by
    have h1 := cnt_le T n V k
    have h2 : (lvl T n V k).countP (hangs (V k)) ≤ (lvl T n V k).length := List.countP_le_length
    have h3 := lvl_le T n V k
    rw [cntUpto, Nat.pow_succ, ← Nat.mul_assoc]
    omega
theorem pow_bound (n k : Nat) (hn : n ≤ 1000) (hk : k ≤ 8) : n * 2 ^ k ≤ 256000 := by
  have h1 : 2 ^ k ≤ 2 ^ 8 := Nat.pow_le_pow_right (by decide) hk
  have h2 : n * 2 ^ k ≤ 1000 * 2 ^ 8 := Nat.mul_le_mul hn h1
  omega
theorem lvl_small (T : Nat → Nat → Bool) (n : Nat) (V : Nat → Int) (k : Nat) (hn : n ≤ 1000) (hk : k ≤ 8) : (lvl T n V k).length ≤ 256000 ∧ cntUpto T n V k ≤ 256000 :=
  ⟨Nat.le_trans (lvl_le T n V k) (pow_bound n k hn hk), Nat.le_trans (cnt_le T n V k) (pow_bound n k hn hk)⟩
theorem tab_fixI (t : Nat) (v : Int) (b : Bool) : tab (fixI t.testBit v b) = tabN (fixC t v b) := tab_code _
theorem same_hangs (t : Nat) (v : Int) : same (fixI t.testBit v false) (fixI t.testBit v true) = !hangs v t := by
  rw [same_code]
  unfold hangs fixC
  simp
end Go.Proofs.YtmfocngdobcfcabDoor
