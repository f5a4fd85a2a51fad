/-
  A statement whose order Go leaves open, each of whose operations leaves one value: whatever the order, guarded ones among them.
-/
import Derived.Test.YtdmfbfbebcneeaaRfReg
namespace Go.Proofs.Ytdmfbfbebcneeaa.Rf
open Go Go.RowKit

/-- What holds throughout. -/
structure Steady (S : World → Prop) (a0 : Act) (D : List Tmp) (a : Act) (w : World) : Prop where
  size : a.tmps.size = a0.tmps.size
  defers : a.defers = a0.defers
  other : ∀ s, s ∉ D → slot a s = slot a0 s
  here : S w
/-- The frame behind them all. -/
def vfin : List (Tmp × Value) → Act → Act
  | [], a => a
  | k :: ks, a => vfin ks (a.put (some k.1) k.2)

/-- What the operations ahead have left. -/
def Left (ks : List (Tmp × Value)) (o : Oper) (a : Act) : Prop := ∀ e ∈ o.after, Region.binds .any e = true → ∀ k', ks[e.on]? = some k' → slot a k'.1 = k'.2

section
variable {P : Program} {ops : Array Oper} {Q : Exit → Act → World → Prop} {S : World → Prop} {a0 : Act} {D : List Tmp} {ks : List (Tmp × Value)}

def Does (P : Program) (Q : Exit → Act → World → Prop) (S : World → Prop) (a0 : Act) (D : List Tmp) (ks : List (Tmp × Value)) (o : Oper) (k : Tmp × Value) : Prop :=
  ∀ a w, Steady S a0 D a w → Left ks o a → ∀ K : Act → World → Prop, (∀ w', S w' → K (a.put (some k.1) k.2) w') → o.wp P a w K Q

/-- The operation at place i leaves its value. -/
def VOk (P : Program) (ops : Array Oper) (Q : Exit → Act → World → Prop) (S : World → Prop) (a0 : Act) (D : List Tmp) (ks : List (Tmp × Value)) (i : Nat) (k : Tmp × Value) : Prop :=
  ∃ o, ops[i]? = some o ∧ o.dst = some k.1 ∧ ((o.guard = none ∧ Does P Q S a0 D ks o k) ∨
    ∃ j b dj g, o.guard = some (j, b) ∧ (∃ e ∈ o.after, Region.binds .any e = true ∧ e.on = j) ∧ ks[j]? = some (dj, .bool g) ∧ (g ≠ b → k.2 = undef) ∧ (g = b → Does P Q S a0 D ks o k))

theorem vok_plain {i : Nat} {k : Tmp × Value} (o : Oper) (ho : ops[i]? = some o) (hd : o.dst = some k.1) (hg : o.guard = none) (h : Does P Q S a0 D ks o k) : VOk P ops Q S a0 D ks i k := ⟨o, ho, hd, Or.inl ⟨hg, h⟩⟩
theorem vok_sure {i : Nat} {k : Tmp × Value} (o : Oper) (ho : ops[i]? = some o) (hd : o.dst = some k.1) (j : Nat) (b : Bool) (dj : Tmp) (hg : o.guard = some (j, b)) (he : ∃ e ∈ o.after, Region.binds .any e = true ∧ e.on = j) (hj : ks[j]? = some (dj, .bool b)) (h : Does P Q S a0 D ks o k) : VOk P ops Q S a0 D ks i k :=
  ⟨o, ho, hd, Or.inr ⟨j, b, dj, b, hg, he, hj, fun h => absurd rfl h, fun _ => h⟩⟩
theorem vok_maybe {i : Nat} {k : Tmp × Value} (o : Oper) (ho : ops[i]? = some o) (hd : o.dst = some k.1) (j : Nat) (b : Bool) (dj : Tmp) (g : Bool) (hg : o.guard = some (j, b)) (he : ∃ e ∈ o.after, Region.binds .any e = true ∧ e.on = j) (hj : ks[j]? = some (dj, .bool g)) (hu : g ≠ b → k.2 = undef) (h : g = b → Does P Q S a0 D ks o k) : VOk P ops Q S a0 D ks i k :=
  ⟨o, ho, hd, Or.inr ⟨j, b, dj, g, hg, he, hj, hu, h⟩⟩

theorem Steady.put {a : Act} {w w' : World} (g : Steady S a0 D a w) (hw : S w') {d : Tmp} (hd : d ∈ D) (v : Value) : Steady S a0 D (a.put (some d) v) w' :=
  ⟨by simpa [Act.put] using g.size, g.defers, fun s hs => by rw [slot_put_ne v (show d ≠ s from fun e => hs (e ▸ hd))]; exact g.other s hs, hw⟩

theorem vact_fin : ∀ (ks : List (Tmp × Value)) (a0 a : Act), (ks.map (·.1)).Nodup → a.tmps.size = a0.tmps.size → a.defers = a0.defers → (∀ s, s ∉ ks.map (·.1) → slot a s = slot a0 s) → (∀ k ∈ ks, k.1 < a0.tmps.size ∧ slot a k.1 = k.2) → a = vfin ks a0
  | [], a0, a, _, h1, h2, h3, _ => act_ext h1 h2 fun s => h3 s (by simp)
  | k :: ks, a0, a, hn, h1, h2, h3, h4 => by
    rw [List.map_cons, List.nodup_cons] at hn
    have hd := h4 k List.mem_cons_self
    refine vact_fin ks _ a hn.2 (by simpa [Act.put] using h1) h2 (fun s hs => ?_) (fun k' hk' => ?_)
    · by_cases e : k.1 = s
      · subst e; rw [slot_put_eq _ hd.1]; exact hd.2
      · rw [slot_put_ne _ e]
        exact h3 s (by simp only [List.map_cons, List.mem_cons, not_or]; exact ⟨fun q => e q.symm, hs⟩)
    · have := h4 k' (List.mem_cons_of_mem _ hk')
      exact ⟨by simpa [Act.put] using this.1, this.2⟩

theorem yielded_of {a : Act} {j : Nat} {oj : Oper} {dj : Tmp} {g : Bool} (ho : ops[j]? = some oj) (hd : oj.dst = some dj) (hlt : dj < a.tmps.size) (hs : slot a dj = .bool g) : yielded ops a.tmps j = some g := by
  have : a.tmps[dj]? = some (.bool g) := by
    rw [Array.getElem?_eq_getElem hlt]
    simp only [slot, Array.getD, hlt, dif_pos] at hs
    exact congrArg some hs
  simp only [yielded, ho, Option.bind_some, hd, this]

theorem wp_region_vals {id : Nat} {w0 : World} (S : World → Prop) (ks : List (Tmp × Value)) (D : List Tmp) (n : Nat) (hm : P.follows .mixedOrders = true) (hw : waitsBack ops = true) (hlen : ks.length = ops.size)
    (eD : ks.map (·.1) = D) (hD : D.Nodup) (hn : a0.tmps.size = n) (hlt : (D.all fun d => decide (d < n)) = true) (hS : S w0.drew)
    (hok : ∀ i k, ks[i]? = some k → VOk P ops Q S a0 D ks i k)
    (done : ∀ w, S w → Q .normal (vfin ks a0) w) :
    (Code.region id ops true).wp P Q a0 w0 := by
  subst eD hn
  have hlt' : ∀ (i : Nat) (k : Tmp × Value), ks[i]? = some k → k.1 < a0.tmps.size := fun i k hk => by simpa using List.all_eq_true.1 hlt k.1 (List.mem_map.2 ⟨k, List.mem_of_getElem? hk, rfl⟩)
  have hmem : ∀ (i : Nat) (k : Tmp × Value), ks[i]? = some k → k.1 ∈ ks.map (·.1) := fun i k hk => List.mem_map.2 ⟨k, List.mem_of_getElem? hk, rfl⟩
  have sameAt : ∀ (i j : Nat) (x y : Tmp × Value), ks[i]? = some x → ks[j]? = some y → x.1 = y.1 → i = j := fun i j x y hi hj e => by
    refine nodup_place (fun k : Tmp × Value => some k.1) ks ?_ i j x y x.1 hi hj rfl (congrArg some e.symm)
    have : ks.filterMap (fun k : Tmp × Value => some k.1) = ks.map (·.1) := by rw [← List.filterMap_eq_map]; rfl
    rw [this]; exact hD
  refine wp_region_any hm (wpAny_posts' (fun a w => Steady S a0 (ks.map (·.1)) a w) (fun i a _ => ∀ k : Tmp × Value, ks[i]? = some k → slot a k.1 = k.2) hw ?_ ?_ ops.size _ a0 _ (by simp) ?_ ⟨rfl, rfl, fun _ _ => rfl, hS⟩ ?_ ?_)
  · intro i o a w ho hG hpre
    have hi : i < ks.length := by rw [hlen]; exact (Array.getElem?_eq_some_iff.1 ho).1
    obtain ⟨k, hk⟩ : ∃ k, ks[i]? = some k := ⟨_, List.getElem?_eq_getElem hi⟩
    obtain ⟨o', ho', hdst, hrest⟩ := hok i k hk
    obtain rfl : o = o' := Option.some.inj (ho.symm.trans ho')
    have hds : k.1 < a.tmps.size := by rw [hG.size]; exact hlt' i k hk
    have fine : ∀ w', S w' → Steady S a0 (ks.map (·.1)) (a.put (some k.1) k.2) w' ∧ (∀ k' : Tmp × Value, ks[i]? = some k' → slot (a.put (some k.1) k.2) k'.1 = k'.2) ∧ ∀ j o', j ≠ i → ops[j]? = some o' → (∀ e ∈ o'.after, Region.binds .any e = true → e.on ≠ i) → (∀ k' : Tmp × Value, ks[j]? = some k' → slot a k'.1 = k'.2) → (∀ k' : Tmp × Value, ks[j]? = some k' → slot (a.put (some k.1) k.2) k'.1 = k'.2) := by
      intro w' hw'
      refine ⟨hG.put hw' (hmem i k hk) k.2, fun k' hk' => ?_, fun j oj hji _ _ hpj k' hk' => ?_⟩
      · obtain rfl := Option.some.inj (hk.symm.trans hk')
        exact slot_put_eq _ hds
      · rw [slot_put_ne _ (fun e => hji (sameAt j i k' k hk' hk e.symm))]
        exact hpj k' hk'
    have hleft : Left ks o a := fun e he hb k' hk' => hpre e he hb k' hk'
    unfold wpOp
    simp only [ho]
    rcases hrest with ⟨hg, hdo⟩ | ⟨j, b, dj, g, hg, ⟨e, he, hbe, rfl⟩, hkj, hu, hdo⟩
    · simp only [Region.wanted, hg, if_true]
      exact Or.inl (hdo a w hG hleft _ fine)
    · obtain ⟨oj, hoj, hdj, _⟩ := hok e.on _ hkj
      have hy : yielded ops a.tmps e.on = some g := yielded_of hoj hdj (by rw [hG.size]; exact hlt' _ _ hkj) (hleft e he hbe _ hkj)
      by_cases hgb : g = b
      · subst hgb
        simp only [Region.wanted, hg, hy, beq_self_eq_true, if_true]
        exact Or.inl (hdo rfl a w hG hleft _ fine)
      · have : (some g == some b) = false := by simpa using hgb
        simp only [Region.wanted, hg, hy, this]
        have := fine w hG.here
        rw [hu hgb] at this
        rw [hdst]
        exact this
  · intro a w hG hall
    have hfin : a = vfin ks a0 := by
      refine vact_fin ks a0 a hD hG.size hG.defers hG.other fun k hk => ?_
      obtain ⟨i, hi⟩ := List.mem_iff_getElem?.1 hk
      exact ⟨hlt' i k hi, hall i (by rw [← hlen]; exact (List.getElem?_eq_some_iff.1 hi).1) k hi⟩
    rw [hfin]
    exact done w hG.here
  · unfold toCome
    exact Nat.le_trans (List.length_filter_le _ _) (by simp)
  · intro j hj
    simp [Array.getElem?_replicate] at hj
    split at hj <;> simp_all
  · intro j o hj
    simp [Array.getElem?_replicate] at hj
    split at hj <;> simp_all

/-! ### What single operations yield -/
variable {o : Oper} {a : Act} {w : World} {K : Act → World → Prop}
theorem does_val {k : Tmp × Value} (hd : o.dst = some k.1) (h : ∀ a w, Steady S a0 D a w → Left ks o a → (execOp a.eval o).run P w = .ok (.value k.2) w) : Does P Q S a0 D ks o k := by
  intro a w hG hL K hK
  unfold Oper.wp
  rw [h a w hG hL, Oper.upon_value, hd]
  exact hK w hG.here
theorem does_call {k : Tmp × Value} {f : FuncId} (vs : Array Value) (hd : o.dst = some k.1) (h : ∀ a w, Steady S a0 D a w → Left ks o a → (execOp a.eval o).run P w = .ok (.enter f vs) w) (hc : ∀ w, S w → Calls P f vs w fun e w' => e = .returned k.2 ∧ S w') : Does P Q S a0 D ks o k := by
  intro a w hG hL K hK
  unfold Oper.wp
  rw [h a w hG hL, Oper.upon_enter, hd]
  refine (hc w hG.here).mono ?_
  rintro e w' ⟨rfl, hs⟩
  exact hK w' hs
theorem x_move {x : Operand} {v : Value} (hop : o.op = .move x) (hv : a.eval x = v) : (execOp a.eval o).run P w = .ok (.value v) w := by
  simp only [execOp, hop, hv]; rfl
theorem x_assign {x : Operand} {v : Value} (hop : o.op = .assign x) (hv : a.eval x = v) : (execOp a.eval o).run P w = .ok (.value v) w := by
  simp only [execOp, hop, hv]; rfl
theorem x_pick {c x y : Operand} {b : Bool} {v : Value} (hop : o.op = .pick c x y) (hc : a.eval c = .bool b) (hv : (if b then a.eval x else a.eval y) = v) : (execOp a.eval o).run P w = .ok (.value v) w := by
  subst hv
  simp only [execOp, hop, hc]
  cases b <;> rfl
theorem x_bin {op : BinOp} {t t' : TypeId} {x y : Operand} {vx vy v : Value} (hop : o.op = .binOp op t x y t') (hx : a.eval x = vx) (hy : a.eval y = vy) (hg : (eqGuard op t x y vx vy).run P w = .ok () w) (hb : (binOp op t vx vy).run P w = .ok v w) : (execOp a.eval o).run P w = .ok (.value v) w := by
  simp only [execOp, hop, hx, hy, Sem.run_bind, hg, hb, Result.andThen_ok]; rfl
theorem x_un {op : UnOp} {t : TypeId} {x : Operand} {vx v : Value} (hop : o.op = .unOp op t x) (hx : a.eval x = vx) (hb : (Op.unary op vx).run P w = .ok v w) : (execOp a.eval o).run P w = .ok (.value v) w := by
  simp only [execOp, hop, hx, Sem.run_bind, hb, Result.andThen_ok]; rfl
theorem x_convert {s t : TypeId} {x : Operand} {vx v : Value} (hop : o.op = .convert s t x) (hx : a.eval x = vx) (hb : (convert s t vx).run P w = .ok v w) : (execOp a.eval o).run P w = .ok (.value v) w := by
  simp only [execOp, hop, hx, Sem.run_bind, hb, Result.andThen_ok]; rfl
theorem x_load {t : TypeId} {x : Operand} {vx v : Value} (hop : o.op = .load t x) (hx : a.eval x = vx) (hb : (Instr.loadAt t vx).run P w = .ok v w) : (execOp a.eval o).run P w = .ok (.value v) w := by
  simp only [execOp, hop, hx, Sem.run_bind, hb, Result.andThen_ok]; rfl
theorem x_extract {x : Operand} {i : Nat} {vx v : Value} (hop : o.op = .extract x i) (hx : a.eval x = vx) (hb : (Instr.extract vx i).run P w = .ok v w) : (execOp a.eval o).run P w = .ok (.value v) w := by
  simp only [execOp, hop, hx, Sem.run_bind, hb, Result.andThen_ok]; rfl
theorem x_call {f : FuncId} {args : Array Operand} {tys : Array TypeId} {vs : Array Value} (hop : o.op = .call { callee := .value (.func f), args := args, argTypes := tys }) (hv : args.map a.eval = vs) (hf : ∀ w, (callFunc f vs).run P w = .ok (.enter f vs) w) : (execOp a.eval o).run P w = .ok (.enter f vs) w := by
  subst hv
  simp only [execOp, hop, resolve, Sem.run_bind]
  show (Result.andThen ((Deferred.ofValue (.func (.func f) #[] #[]) (args.map a.eval)).run P w) _) = _
  simp only [Deferred.ofValue, Sem.run_pure, Result.andThen_ok, invoke]
  simpa using hf w
end
end Go.Proofs.Ytdmfbfbebcneeaa.Rf
