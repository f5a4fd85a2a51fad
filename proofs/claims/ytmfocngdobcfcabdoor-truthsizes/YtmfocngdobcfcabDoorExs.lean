/-
  A statement whose order Go leaves open, each of whose operations leaves a value with a property that what follows keeps: new memory among them.
-/
import Derived.Test.YtmfocngdobcfcabDoorValsq
namespace Go.Proofs.YtmfocngdobcfcabDoor
open Go Go.RowKit

/-- A slot, and what is said of its value. -/
abbrev Said := Tmp × (Value → World → Prop)
def efin : List Said → (Nat → Value) → Nat → Act → Act
  | [], _, _, a => a
  | k :: ks, f, i, a => efin ks f (i + 1) (a.put (some k.1) (f i))
def LeftE (ks : List Said) (o : Oper) (a : Act) (w : World) : Prop := ∀ e ∈ o.after, Region.binds .any e = true → ∀ k', ks[e.on]? = some k' → k'.2 (slot a k'.1) w

section
variable {P : Program} {ops : Array Oper} {Q : Exit → Act → World → Prop} {S : World → Prop} {R : World → World → Prop} {a0 : Act} {D : List Tmp} {ks : List Said}
def DoesE (P : Program) (Q : Exit → Act → World → Prop) (S : World → Prop) (R : World → World → Prop) (a0 : Act) (D : List Tmp) (ks : List Said) (o : Oper) (k : Said) : Prop :=
  ∀ a w, Steady S a0 D a w → LeftE ks o a w → ∀ K : Act → World → Prop, (∀ v w', S w' → R w w' → k.2 v w' → K (a.put (some k.1) v) w') → o.wp P a w K Q
/-- The operation at place i, unguarded, leaves such a value. -/
def EOk (P : Program) (ops : Array Oper) (Q : Exit → Act → World → Prop) (S : World → Prop) (R : World → World → Prop) (a0 : Act) (D : List Tmp) (ks : List Said) (i : Nat) (k : Said) : Prop :=
  ∃ o, ops[i]? = some o ∧ o.dst = some k.1 ∧ o.guard = none ∧ DoesE P Q S R a0 D ks o k

theorem eact_fin : ∀ (ks : List Said) (i : Nat) (f : Nat → Value) (a0 a : Act), (ks.map (·.1)).Nodup → a.tmps.size = a0.tmps.size → a.defers = a0.defers → (∀ s, s ∉ ks.map (·.1) → slot a s = slot a0 s) → (∀ j k, ks[j]? = some k → k.1 < a0.tmps.size ∧ slot a k.1 = f (i + j)) → a = efin ks f i a0
  | [], _, _, a0, a, _, h1, h2, h3, _ => act_ext h1 h2 fun s => h3 s (by simp)
  | k :: ks, i, f, a0, a, hn, h1, h2, h3, h4 => by
    rw [List.map_cons, List.nodup_cons] at hn
    have hd := h4 0 k rfl
    refine eact_fin ks (i + 1) f _ a hn.2 (by simpa [Act.put] using h1) h2 (fun s hs => ?_) (fun j k' hk' => ?_)
    · by_cases e : k.1 = s
      · subst e; rw [slot_put_eq _ hd.1]; exact hd.2
      · rw [slot_put_ne _ e]
        exact h3 s (by simp only [List.map_cons, List.mem_cons, not_or]; exact ⟨fun q => e q.symm, hs⟩)
    · have := h4 (j + 1) k' hk'
      refine ⟨by simpa [Act.put] using this.1, ?_⟩
      rw [this.2]
      congr 1
      omega

theorem wp_region_exs {id : Nat} {w0 : World} (S : World → Prop) (R : World → World → Prop) (ks : List Said) (D : List Tmp) (n : Nat) (hm : P.follows .mixedOrders = true) (hw : waitsBack ops = true) (hlen : ks.length = ops.size)
    (eD : ks.map (·.1) = D) (hD : D.Nodup) (hn : a0.tmps.size = n) (hlt : (D.all fun d => decide (d < n)) = true) (hS : S w0.drew)
    (hstay : ∀ (i : Nat) (k : Said), ks[i]? = some k → ∀ v w w', R w w' → k.2 v w → k.2 v w')
    (hok : ∀ (i : Nat) (k : Said), ks[i]? = some k → EOk P ops Q S R a0 D ks i k)
    (done : ∀ (f : Nat → Value) (w : World), S w → (∀ (i : Nat) (k : Said), ks[i]? = some k → k.2 (f i) w) → Q .normal (efin ks f 0 a0) w) :
    (Code.region id ops true).wp P Q a0 w0 := by
  subst eD hn
  have hlt' : ∀ (i : Nat) (k : Said), ks[i]? = some k → k.1 < a0.tmps.size := fun i k hk => by simpa using List.all_eq_true.1 hlt k.1 (List.mem_map.2 ⟨k, List.mem_of_getElem? hk, rfl⟩)
  have hmem : ∀ (i : Nat) (k : Said), ks[i]? = some k → k.1 ∈ ks.map (·.1) := fun i k hk => List.mem_map.2 ⟨k, List.mem_of_getElem? hk, rfl⟩
  have sameAt : ∀ (i j : Nat) (x y : Said), ks[i]? = some x → ks[j]? = some y → x.1 = y.1 → i = j := fun i j x y hi hj e => by
    refine nodup_place (fun k : Said => some k.1) ks ?_ i j x y x.1 hi hj rfl (congrArg some e.symm)
    have : ks.filterMap (fun k : Said => some k.1) = ks.map (·.1) := by rw [← List.filterMap_eq_map]; rfl
    rw [this]; exact hD
  refine wp_region_any hm (wpAny_posts' (fun a w => Steady S a0 (ks.map (·.1)) a w) (fun i a w => ∀ k : Said, ks[i]? = some k → k.2 (slot a k.1) w) hw ?_ ?_ ops.size _ a0 _ (by simp) ?_ ⟨rfl, rfl, fun _ _ => rfl, hS⟩ ?_ ?_)
  · intro i o a w ho hG hpre
    have hi : i < ks.length := by rw [hlen]; exact (Array.getElem?_eq_some_iff.1 ho).1
    obtain ⟨k, hk⟩ : ∃ k, ks[i]? = some k := ⟨_, List.getElem?_eq_getElem hi⟩
    obtain ⟨o', ho', hdst, hg, hdo⟩ := hok i k hk
    obtain rfl : o = o' := Option.some.inj (ho.symm.trans ho')
    have hds : k.1 < a.tmps.size := by rw [hG.size]; exact hlt' i k hk
    unfold wpOp
    simp only [ho, Region.wanted, hg, if_true]
    refine Or.inl (hdo a w hG (fun e he hb k' hk' => hpre e he hb k' hk') _ fun v w' hs hr hv => ?_)
    refine ⟨hG.put hs (hmem i k hk) v, fun k' hk' => ?_, fun j oj hji _ _ hpj k' hk' => ?_⟩
    · obtain rfl := Option.some.inj (hk.symm.trans hk')
      rw [slot_put_eq _ hds]
      exact hv
    · rw [slot_put_ne _ (fun e => hji (sameAt j i k' k hk' hk e.symm))]
      exact hstay j k' hk' _ _ _ hr (hpj k' hk')
  · intro a w hG hall
    have hpost : ∀ i (k : Said), ks[i]? = some k → k.2 (slot a k.1) w := fun i k hk => hall i (by rw [← hlen]; exact (List.getElem?_eq_some_iff.1 hk).1) k hk
    let f : Nat → Value := fun i => match ks[i]? with | some k => slot a k.1 | none => undef
    have hf : ∀ i (k : Said), ks[i]? = some k → f i = slot a k.1 := fun i k hk => by simp only [f, hk]
    have hfin : a = efin ks f 0 a0 := eact_fin ks 0 f a0 a hD hG.size hG.defers hG.other fun j k hk => ⟨hlt' j k hk, by rw [Nat.zero_add]; exact (hf j k hk).symm⟩
    have := done f w hG.here fun i k hk => by rw [hf i k hk]; exact hpost i k hk
    rw [← hfin] at this
    exact this
  · unfold toCome
    exact Nat.le_trans (List.length_filter_le _ _) (by simp)
  · intro j hj
    simp [Array.getElem?_replicate] at hj
    split at hj <;> simp_all
  · intro j o hj
    simp [Array.getElem?_replicate] at hj
    split at hj <;> simp_all

/-- A value told outright. -/
def is (v : Value) : Value → World → Prop := fun u _ => u = v
theorem doesE_val {o : Oper} {d : Tmp} {v : Value} (hr : ∀ w, R w w) (hd : o.dst = some d) (h : ∀ a w, Steady S a0 D a w → LeftE ks o a w → (execOp a.eval o).run P w = .ok (.value v) w) : DoesE P Q S R a0 D ks o (d, is v) := by
  intro a w hG hL K hK
  unfold Oper.wp
  rw [h a w hG hL, Oper.upon_value, hd]
  exact hK v w hG.here (hr w) rfl
end
end Go.Proofs.YtmfocngdobcfcabDoor
