/-
  A drawn statement each of whose operations leaves a value, the last two a new place and a store into it (x := T{..}), whatever the order.
-/
import Derived.Test.YteickckgljlacaaGreatBaseG
namespace Go.Proofs.YteickckgljlacaaGreat.Rf
open Go Go.RowKit

/-- What holds throughout. -/
structure Along (w0 : World) (a0 : Act) (D : List Tmp) (a : Act) (w : World) : Prop where
  size : a.tmps.size = a0.tmps.size
  defers : a.defers = a0.defers
  other : ∀ s, s ∉ D → slot a s = slot a0 s
  below : Below w0.heap.size w0 w
theorem Along.put {w0 w w' : World} {a0 a : Act} {D : List Tmp} (g : Along w0 a0 D a w) (k : Below w.heap.size w w') {d : Tmp} (hd : d ∈ D) (v : Value) : Along w0 a0 D (a.put (some d) v) w' :=
  ⟨by simpa [Act.put] using g.size, g.defers, fun s hs => by rw [slot_put_ne v (show d ≠ s from fun e => hs (e ▸ hd))]; exact g.other s hs, g.below.trans (k.mono g.below.size)⟩

set_option maxHeartbeats 800000 in
theorem wp_region_box {ops : Array Oper} {Q : Exit → Act → World → Prop} {id : Nat} {a0 : Act} {w0 : World} {C : Type} (T : TypeId) (is : World → Nat → C → Prop) (val : C → Value) (z : Obj) (zc : C)
    (kept : ∀ (w w' : World) (b : Nat) (c : C), is w b c → Below w.heap.size w w' → is w' b c) (isz : ∀ w : World, is (w.alloc z) w.heap.size zc)
    (ralloc : ∀ w : World, (Instr.alloc T true (.tuple #[])).run Tryz.prog w = .ok (.pointer (some ⟨w.heap.size, 0, none⟩)) (w.alloc z))
    (rstore : ∀ (w : World) (b : Nat) (c0 c : C), is w b c0 → ∃ w', (Instr.storeAt T (.pointer (some ⟨b, 0, none⟩)) (val c)).run Tryz.prog w = .ok () w' ∧ is w' b c ∧ Turned b w w')
    (c : C) (p s : Tmp) (ks : List (Tmp × Value)) (D : List Tmp) (n : Nat) (hm : Tryz.prog.follows .mixedOrders = true) (hw : waitsBack ops = true) (hlen : ks.length + 2 = ops.size)
    (eD : ks.map (·.1) = D) (hD : (p :: D).Nodup) (hn : a0.tmps.size = n) (hlt : ((p :: D).all fun d => decide (d < n)) = true)
    (hval : ∀ (i : Nat) (k : Tmp × Value), ks[i]? = some k → ∃ o : Oper, ops[i]? = some o ∧ o.guard = none ∧ o.dst = some k.1 ∧ ∀ (a : Act) (w : World), Along w0 a0 (p :: D) a w → (∀ e ∈ o.after, Region.binds .any e = true → ∀ k', ks[e.on]? = some k' → slot a k'.1 = k'.2) → ∀ K : Act → World → Prop, (∀ w', Below w.heap.size w w' → K (a.put (some k.1) k.2) w') → o.wp Tryz.prog a w K Q)
    (halloc : ∃ o : Oper, ops[ks.length]? = some o ∧ o.guard = none ∧ o.dst = some p ∧ o.op = .alloc T)
    (hstore : ∃ o : Oper, ops[ks.length + 1]? = some o ∧ o.guard = none ∧ o.dst = none ∧ o.op = .store T (.tmp p) (.tmp s) ∧ (∃ e ∈ o.after, Region.binds .any e = true ∧ ks[e.on]? = some (s, val c)) ∧ ∃ e ∈ o.after, Region.binds .any e = true ∧ e.on = ks.length)
    (done : ∀ (b : Nat) (w : World), Below w0.heap.size w0 w → w0.heap.size ≤ b → is w b c → Q .normal ((vfin ks a0).put (some p) (.pointer (some ⟨b, 0, none⟩))) w) :
    (Code.region id ops true).wp Tryz.prog Q a0 w0 := by
  subst eD hn
  have hlt' : ∀ d ∈ p :: ks.map (·.1), d < a0.tmps.size := fun d hd => by simpa using List.all_eq_true.1 hlt d hd
  have pD : p ∉ ks.map (·.1) := (List.nodup_cons.1 hD).1
  have nD : (ks.map (·.1)).Nodup := (List.nodup_cons.1 hD).2
  have memD : ∀ (i : Nat) (k : Tmp × Value), ks[i]? = some k → k.1 ∈ ks.map (·.1) := fun i k hk => List.mem_map.2 ⟨k, List.mem_of_getElem? hk, rfl⟩
  have sameAt : ∀ (i j : Nat) (x y : Tmp × Value), ks[i]? = some x → ks[j]? = some y → x.1 = y.1 → i = j := fun i j x y hi hj e =>
    nodup_place (fun k : Tmp × Value => some k.1) ks (by rw [show (fun k : Tmp × Value => some k.1) = (some ∘ (·.1)) from rfl, List.filterMap_eq_map]; exact nD) i j x y x.1 hi hj rfl (by rw [e])
  refine wp_region_any hm (wpAny_posts' (fun a w => Along w0 a0 (p :: ks.map (·.1)) a w)
    (fun i a w => (∀ k, ks[i]? = some k → slot a k.1 = k.2) ∧ (i = ks.length → ∃ b c', slot a p = .pointer (some ⟨b, 0, none⟩) ∧ w0.heap.size ≤ b ∧ is w b c') ∧ (i = ks.length + 1 → ∃ b, slot a p = .pointer (some ⟨b, 0, none⟩) ∧ w0.heap.size ≤ b ∧ is w b c)) hw ?_ ?_ ops.size _ a0 _ (by simp) ?_ ?_ ?_ ?_)
  · intro i o a w ho hG hpre
    have hi : i < ops.size := (Array.getElem?_eq_some_iff.1 ho).1
    have parts : i < ks.length ∨ i = ks.length ∨ i = ks.length + 1 := by omega
    rcases parts with hk | rfl | rfl
    · obtain ⟨k, hk⟩ : ∃ k, ks[i]? = some k := ⟨_, List.getElem?_eq_getElem hk⟩
      have hil : i < ks.length := (List.getElem?_eq_some_iff.1 hk).1
      obtain ⟨o', ho', hg, hdst, hwp⟩ := hval i k hk
      obtain rfl : o = o' := Option.some.inj (ho.symm.trans ho')
      refine wpOp_plain ho hg ?_
      have hdD : k.1 ∈ p :: ks.map (·.1) := List.mem_cons_of_mem _ (memD i k hk)
      have hds : k.1 < a.tmps.size := by rw [hG.size]; exact hlt' _ hdD
      have hkp : k.1 ≠ p := fun e => pD (e ▸ memD i k hk)
      refine hwp a w hG (fun e he hb k' hk' => (hpre e he hb).1 k' hk') _ fun w' kb => ⟨hG.put kb hdD k.2, ⟨?_, fun e => by omega, fun e => by omega⟩, ?_⟩
      · intro k' hk'
        obtain rfl := Option.some.inj (hk.symm.trans hk')
        exact slot_put_eq _ hds
      · intro j oj hji _ _ hj
        refine ⟨fun k' hk' => ?_, fun e => ?_, fun e => ?_⟩
        · have : k.1 ≠ k'.1 := fun e => hji (sameAt j i k' k hk' hk e.symm)
          exact (slot_put_ne _ this).trans (hj.1 k' hk')
        · obtain ⟨b, c', h1, h2, h3⟩ := hj.2.1 e
          exact ⟨b, c', (slot_put_ne _ hkp).trans h1, h2, kept _ _ _ _ h3 kb⟩
        · obtain ⟨b, h1, h2, h3⟩ := hj.2.2 e
          exact ⟨b, (slot_put_ne _ hkp).trans h1, h2, kept _ _ _ _ h3 kb⟩
    · obtain ⟨o', ho', hg, hdst, hop⟩ := halloc
      obtain rfl : o = o' := Option.some.inj (ho.symm.trans ho')
      refine wpOp_plain ho hg ?_
      have hdD : p ∈ p :: ks.map (·.1) := List.mem_cons_self
      have hds : p < a.tmps.size := by rw [hG.size]; exact hlt' _ hdD
      have hrun : (execOp a.eval o).run Tryz.prog w = .ok (.value (.pointer (some ⟨w.heap.size, 0, none⟩))) (w.alloc z) := by
        simp only [execOp, hop, Sem.run_bind, ralloc, Result.andThen_ok]
        rfl
      unfold Oper.wp
      rw [hrun, Oper.upon_value, hdst]
      have kb : Below w.heap.size w (w.alloc z) := (Below.refl _ w).alloc (Nat.le_refl _) z
      refine ⟨hG.put kb hdD _, ⟨fun k hk => ?_, fun _ => ⟨w.heap.size, zc, slot_put_eq _ hds, hG.below.size, isz w⟩, fun e => by omega⟩, ?_⟩
      · have := (List.getElem?_eq_some_iff.1 hk).1
        omega
      · intro j oj hji hoj hno hj
        refine ⟨fun k' hk' => ?_, fun e => absurd e hji, fun e => ?_⟩
        · have : p ≠ k'.1 := fun e => pD (e ▸ memD j k' hk')
          exact (slot_put_ne _ this).trans (hj.1 k' hk')
        · subst e
          obtain ⟨oj', hoj', _, _, _, _, ed, hed, hbd, hen⟩ := hstore
          obtain rfl : oj = oj' := Option.some.inj (hoj.symm.trans hoj')
          exact absurd hen (hno ed hed hbd)
    · obtain ⟨o', ho', hg, hdst, hop, ⟨e1, he1, hb1, hk1⟩, e2, he2, hb2, hk2⟩ := hstore
      obtain rfl : o = o' := Option.some.inj (ho.symm.trans ho')
      refine wpOp_plain ho hg ?_
      have hv : slot a s = val c := (hpre e1 he1 hb1).1 _ hk1
      obtain ⟨b, c', hp, hbase, hT⟩ := (hpre e2 he2 hb2).2.1 hk2
      obtain ⟨w', hr, hI, hTu⟩ := rstore w b c' c hT
      have hrun : (execOp a.eval o).run Tryz.prog w = .ok .skip w' := by
        simp only [execOp, hop, eval_tmp, hv, hp, Sem.run_bind, hr, Result.andThen_ok]
        rfl
      unfold Oper.wp
      rw [hrun, Oper.upon_skip, hdst]
      refine ⟨⟨hG.size, hG.defers, hG.other, hG.below.trans (hTu.below hG.below.size hbase)⟩, ⟨fun k hk => ?_, fun e => by omega, fun _ => ⟨b, hp, hbase, hI⟩⟩, ?_⟩
      · have := (List.getElem?_eq_some_iff.1 hk).1
        omega
      · intro j oj hji _ _ hj
        exact ⟨hj.1, fun _ => ⟨b, c, hp, hbase, hI⟩, fun e => absurd e hji⟩
  · intro a w hG hall
    obtain ⟨b, hp, hb, hI⟩ := (hall (ks.length + 1) (by omega)).2.2 rfl
    have h1 : a.put (some p) (slot a0 p) = vfin ks a0 := by
      refine vact_fin ks a0 _ nD (by simpa [Act.put] using hG.size) hG.defers (fun t ht => ?_) (fun k hk => ?_)
      · by_cases e : p = t
        · subst e
          exact slot_put_eq _ (by rw [hG.size]; exact hlt' _ List.mem_cons_self)
        · rw [slot_put_ne _ e]
          exact hG.other t (by simp only [List.mem_cons, not_or]; exact ⟨fun q => e q.symm, ht⟩)
      · obtain ⟨i, hi⟩ := List.mem_iff_getElem?.1 hk
        have hkp : p ≠ k.1 := fun e => pD (e ▸ memD i k hi)
        have := (List.getElem?_eq_some_iff.1 hi).1
        refine ⟨hlt' _ (List.mem_cons_of_mem _ (memD i k hi)), ?_⟩
        rw [slot_put_ne _ hkp]
        exact (hall i (by omega)).1 k hi
    have h2 : a = (vfin ks a0).put (some p) (.pointer (some ⟨b, 0, none⟩)) := by
      rw [← h1, ← hp]
      refine act_ext (by simp [Act.put]) rfl fun t => ?_
      by_cases e : p = t
      · subst e
        rw [slot_put_eq _ (by simp only [Act.put, Array.size_setIfInBounds]; rw [hG.size]; exact hlt' _ List.mem_cons_self)]
      · rw [slot_put_ne _ e, slot_put_ne _ e]
    rw [h2]
    exact done b w hG.below hb hI
  · unfold toCome
    exact Nat.le_trans (List.length_filter_le _ _) (by simp)
  · exact ⟨rfl, rfl, fun _ _ => rfl, ⟨rfl, rfl, rfl, Nat.le_refl _, fun _ _ => rfl⟩⟩
  · intro j hj
    simp [Array.getElem?_replicate] at hj
    split at hj <;> simp_all
  · intro j o hj
    simp [Array.getElem?_replicate] at hj
    split at hj <;> simp_all
end Go.Proofs.YteickckgljlacaaGreat.Rf
