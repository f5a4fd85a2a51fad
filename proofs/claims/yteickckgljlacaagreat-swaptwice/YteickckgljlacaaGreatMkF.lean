/-
  In a round of a loop over an iterator: a drawn statement, by an invariant that may speak of what has come up so far.
-/
import Derived.Test.YteickckgljlacaaGreatMkD
import Derived.OrdersIn
namespace Go.Proofs.YteickckgljlacaaGreat.Mk
open Go Go.RowKit

section
variable {F : Fence} {n : Nat} {P : Program} {ops : Array Oper} {Q : Exit → Act → World → Prop}
/-- What has come up is closed under what it waits for. -/
def ClosedI (ops : Array Oper) (listed : Array Bool) : Prop := ∀ j o, listed.getD j false = true → ops[j]? = some o → ∀ e ∈ o.after, Region.binds .any e = true → listed.getD e.on false = true
theorem wpAnyIn_listed (G : Array Bool → Act → World → Prop) (hw : waitsBack ops = true)
    (step : ∀ listed i o a w, ops[i]? = some o → listed.size = ops.size → listed.getD i false = false → (∀ e ∈ o.after, Region.binds .any e = true → listed.getD e.on false = true) → ClosedI ops listed → G listed a w → wpOpIn F n P ops Q i (fun a' w' => G (listed.setIfInBounds i true) a' w') a w)
    (done : ∀ listed a w, (∀ i, i < ops.size → listed.getD i false = true) → G listed a w → Q .normal a w) :
    ∀ (fuel : Nat) (listed : Array Bool) (a : Act) (w : World), listed.size = ops.size → (toCome ops.size listed).length ≤ fuel → ClosedI ops listed → G listed a w → wpAnyIn F n P .any ops Q fuel listed a w := by
  intro fuel
  induction fuel with
  | zero =>
    intro listed a w hn hc _ hG
    have hr : Region.ready .any ops listed = [] := by
      cases hr : Region.ready .any ops listed with
      | nil => rfl
      | cons i rs =>
        have hi : i ∈ Region.ready .any ops listed := by rw [hr]; exact List.mem_cons_self
        obtain ⟨h1, o, ho, _⟩ := mem_ready.1 hi
        have := toCome_set hn h1
        omega
    exact ⟨hr, done listed a w (ready_some hw hn hr) hG⟩
  | succ fuel ih =>
    intro listed a w hn hc hL hG
    refine ⟨fun hr => done listed a w (ready_some hw hn hr) hG, fun i hi => ?_⟩
    obtain ⟨h1, o, ho, h2⟩ := mem_ready.1 hi
    have hil : listed.getD i false = false := by
      have hlt : i < listed.size := by rw [hn]; exact (Array.getElem?_eq_some_iff.1 ho).1
      simp [hlt] at h1 ⊢
      exact h1
    refine wpOpIn_mono (fun a' w' g => ?_) (step listed i o a w ho hn hil h2 hL hG)
    refine ih _ a' w' (by simpa using hn) ?_ ?_ g
    · have := toCome_set hn h1
      omega
    · intro j o' hj ho' ed hed hb
      by_cases e : i = j
      · subst e
        obtain rfl : o = o' := Option.some.inj (ho.symm.trans ho')
        exact getD_set_true (h2 ed hed hb)
      · rw [getD_set_ne false e] at hj
        exact getD_set_true (hL j o' hj ho' ed hed hb)
theorem wpIn_region_listed {id : Nat} {a : Act} {w : World} (hm : P.follows .mixedOrders = true) (G : Array Bool → Act → World → Prop) (hw : waitsBack ops = true)
    (step : ∀ listed i o a w, ops[i]? = some o → listed.size = ops.size → listed.getD i false = false → (∀ e ∈ o.after, Region.binds .any e = true → listed.getD e.on false = true) → ClosedI ops listed → G listed a w → wpOpIn F n P ops Q i (fun a' w' => G (listed.setIfInBounds i true) a' w') a w)
    (done : ∀ listed a w, (∀ i, i < ops.size → listed.getD i false = true) → G listed a w → Q .normal a w)
    (start : G (Array.replicate ops.size false) a w.drew) : (Code.region id ops true).wpIn F n P Q a w := by
  refine wpIn_region_any hm ?_
  change wpAnyIn _ _ _ _ _ _ _ _ _ w.drew
  refine wpAnyIn_listed G hw step done ops.size _ a w.drew (by simp) ?_ (fun j o hj => ?_) start
  · unfold toCome
    have := List.length_filter_le (fun j => !(Array.replicate ops.size false).getD j true) (List.range ops.size)
    simpa using this
  · by_cases h : j < ops.size <;> simp [h] at hj
/-- An operation without a guard. -/
theorem wpOpIn_plain {i : Nat} {o : Oper} {a : Act} {w : World} {K : Act → World → Prop} (ho : ops[i]? = some o) (hg : o.guard = none) (h : o.wpIn F n P a w K Q) : wpOpIn F n P ops Q i K a w := by
  have hwant : Region.wanted o (yielded ops a.tmps) = true := by simp [Region.wanted, hg]
  unfold wpOpIn
  rw [ho]
  simp only [hwant, if_true]
  exact h
end
/-- What holds while a statement is under way: its first n operations leave values from slot b on; the world is told by a number. -/
structure SH (ws : Nat → World) (ph : Array Bool → Nat) (n b : Nat) (val : Nat → Value) (a0 : Act) (listed : Array Bool) (a : Act) (w : World) : Prop where
  size : a.tmps.size = a0.tmps.size
  defers : a.defers = a0.defers
  other : ∀ s, (s < b ∨ b + n ≤ s) → slot a s = slot a0 s
  vals : ∀ i, i < n → listed.getD i false = true → slot a (b + i) = val i
  world : w = ws (ph listed)
section
variable {ws : Nat → World} {ph : Array Bool → Nat} {n b : Nat} {val : Nat → Value} {a0 : Act} {listed : Array Bool} {a : Act} {w w' : World}
theorem SH.start (k : Nat) (hw : w = ws (ph (Array.replicate k false))) : SH ws ph n b val a0 (Array.replicate k false) a0 w := by
  refine ⟨rfl, rfl, fun _ _ => rfl, fun i _ hl => ?_, hw⟩
  by_cases h : i < k <;> simp [h] at hl
theorem SH.step (g : SH ws ph n b val a0 listed a w) {i : Nat} (hi : i < n) (hb : b + n ≤ a0.tmps.size) (k : w' = ws (ph (listed.setIfInBounds i true))) : SH ws ph n b val a0 (listed.setIfInBounds i true) (a.put (some (b + i)) (val i)) w' := by
  refine ⟨by simp [Act.put, g.size], by simp [Act.put, g.defers], fun s hs => ?_, fun j hj hl => ?_, k⟩
  · rw [slot_put_ne _ (show @Ne Nat (b + i) s by omega)]
    exact g.other s hs
  · by_cases e : i = j
    · subst e
      exact slot_put_eq _ (show @LT.lt Nat _ (b + i) a.tmps.size by rw [g.size]; omega)
    · rw [getD_set_ne false e] at hl
      rw [slot_put_ne _ (show @Ne Nat (b + i) (b + j) by omega)]
      exact g.vals j hj hl
theorem SH.store (g : SH ws ph n b val a0 listed a w) (k : w' = ws (ph (listed.setIfInBounds n true))) (d : Option Tmp) (hd : d = none) (v : Value) : SH ws ph n b val a0 (listed.setIfInBounds n true) (a.put d v) w' := by
  subst hd
  exact ⟨g.size, g.defers, g.other, fun j hj hl => g.vals j hj (by rwa [getD_set_ne false (by omega)] at hl), k⟩
end
/-- How far the statement that appends is. -/
def ph10 (li : Array Bool) : Nat := if li.getD 10 false = true then 3 else if li.getD 7 false = true then 2 else if li.getD 6 false = true then 1 else 0
/-- An append in a round. -/
theorem op_app_in {l m : Nat} {o : Oper} {a : Act} {w w' : World} {K : Act → World → Prop} {Q : Exit → Act → World → Prop} (s x : Operand) (hop : o.op = Op.call { callee := Callee.builtin Builtin.append, args := #[s, x], argTypes := #[44, 44] })
    (v u r : Value) (hs : a.eval s = v) (hx : a.eval x = u) (hrun : (Builtin.append_ #[44, 44] o.type #[v, u]).run Tryz.prog w = .ok r w')
    (hK : K (a.put o.dst r) w') : Oper.wpIn (Fence.wide.inRound l) m Tryz.prog o a w K Q := by
  unfold Oper.wpIn
  refine ⟨fun _ _ => trivial, ?_⟩
  rw [show (Fence.wide.inRound l).round = some l from rfl, Oper.semAt_some l _ _ (by rw [hop]; intro c h; cases h)]
  simp [execOp, hop, resolve, invoke, builtin, hs, hx, hrun, Result.andThen]
  exact hK
end Go.Proofs.YteickckgljlacaaGreat.Mk
