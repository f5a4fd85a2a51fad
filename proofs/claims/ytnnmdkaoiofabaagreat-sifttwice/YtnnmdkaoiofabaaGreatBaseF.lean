/-
 A statement that makes several tables at once, in whatever order Go takes its operations: loads, calls that return, new places, stores.
 A statement whose order Go leaves open, each of whose operations leaves one value: whatever the order, guarded ones among them.
 A statement whose operations stand in one order, each of which leaves one value, guarded ones among them.
 Single operations on small numbers and truth values, as rules.
 Single operations that Parts of the reference makes.
 Parts of the reference, walked.
-/
import Derived.Test.YtnnmdkaoiofabaaGreatBaseE
namespace Go.Proofs.YtnnmdkaoiofabaaGreat.Rf
open Go Go.RowKit
theorem run_load24 {w : World} {b : Nat} {F : Nat → Bool} (h : IsTab w b F) : (Instr.loadAt 24 (.pointer (some ⟨b, 0, none⟩))).run Tryz.prog w = .ok (tab F) w := by
 obtain ⟨c0, c1, c2, c3⟩ : w.cell? ⟨b, 0, none⟩ = some (.int .u64 (word F 0 : Int)) ∧ w.cell? ⟨b, 1, none⟩ = some (.int .u64 (word F 1 : Int)) ∧ w.cell? ⟨b, 2, none⟩ = some (.int .u64 (word F 2 : Int)) ∧ w.cell? ⟨b, 3, none⟩ = some (.int .u64 (word F 3 : Int)) := ⟨h.cell (by decide), h.cell (by decide), h.cell (by decide), h.cell (by decide)⟩
 go_simp
 rfl
theorem run_alloc24 (w : World) : (Instr.alloc 24 true (.tuple #[])).run Tryz.prog w = .ok (.pointer (some ⟨w.heap.size, 0, none⟩)) (w.alloc (.cells #[.int .u64 0, .int .u64 0, .int .u64 0, .int .u64 0] 24)) := by
 go_simp
theorem run_store24 {w : World} {b : Nat} {F : Nat → Bool} (h : IsTab w b F) (G : Nat → Bool) : (Instr.storeAt 24 (.pointer (some ⟨b, 0, none⟩)) (tab G)).run Tryz.prog w = .ok () (laid w b G) := by
 obtain ⟨c0, c1, c2, c3⟩ : w.cell? ⟨b, 0, none⟩ = some (.int .u64 (word F 0 : Int)) ∧ w.cell? ⟨b, 1, none⟩ = some (.int .u64 (word F 1 : Int)) ∧ w.cell? ⟨b, 2, none⟩ = some (.int .u64 (word F 2 : Int)) ∧ w.cell? ⟨b, 3, none⟩ = some (.int .u64 (word F 3 : Int)) := ⟨h.cell (by decide), h.cell (by decide), h.cell (by decide), h.cell (by decide)⟩
 have y0 := h.free 0
 have y1 := h.free 1
 have y2 := h.free 2
 have y3 := h.free 3
 unfold tab
 go_simp
 rfl
section
variable {P : Program} {ops : Array Oper} {Q : Exit → Act → World → Prop}
theorem wpAny_posts' (G : Act → World → Prop) (Post : Nat → Act → World → Prop) (hw : waitsBack ops = true)
  (step : ∀ i o a w, ops[i]? = some o → G a w → (∀ e ∈ o.after, Region.binds .any e = true → Post e.on a w) → wpOp P ops Q i (fun a' w' => G a' w' ∧ Post i a' w' ∧ ∀ j o', j ≠ i → ops[j]? = some o' → (∀ e ∈ o'.after, Region.binds .any e = true → e.on ≠ i) → Post j a w → Post j a' w') a w)
  (done : ∀ a w, G a w → (∀ i, i < ops.size → Post i a w) → Q .normal a w) :
  ∀ (fuel : Nat) (listed : Array Bool) (a : Act) (w : World), listed.size = ops.size → (toCome ops.size listed).length ≤ fuel → G a w → (∀ j, listed.getD j false = true → Post j a w) → (∀ j o, listed.getD j false = true → ops[j]? = some o → ∀ e ∈ o.after, Region.binds .any e = true → listed.getD e.on false = true) → wpAny P .any ops Q fuel listed a w := by
 intro fuel
 induction fuel with
 | zero =>
  intro listed a w hn hc hG hP _
  have hr : Region.ready .any ops listed = [] := by
   cases hr : Region.ready .any ops listed with
   | nil => rfl
   | cons i rs =>
    have hi : i ∈ Region.ready .any ops listed := by rw [hr]; exact List.mem_cons_self
    obtain ⟨h1, o, ho, _⟩ := mem_ready.1 hi
    have := toCome_set hn h1
    omega
  exact ⟨hr, done a w hG fun i hi => hP i (ready_some hw hn hr i hi)⟩
 | succ fuel ih =>
  intro listed a w hn hc hG hP hL
  refine ⟨fun hr => done a w hG fun i hi => hP i (ready_some hw hn hr i hi), fun i hi => ?_⟩
  obtain ⟨h1, o, ho, h2⟩ := mem_ready.1 hi
  have hil : listed.getD i false = false := by
   have hlt : i < listed.size := by rw [hn]; exact (Array.getElem?_eq_some_iff.1 ho).1
   simp [hlt] at h1 ⊢
   exact h1
  refine wpOp_mono (fun a' w' ⟨g, p, k⟩ => ?_) (step i o a w ho hG fun e he hb => hP _ (h2 e he hb))
  refine ih _ a' w' (by simpa using hn) ?_ g ?_ ?_
  ·have := toCome_set hn h1
   omega
  ·intro j hj
   by_cases e : i = j
   ·subst e; exact p
   ·rw [getD_set_ne false e] at hj
    have hjo : ∃ o', ops[j]? = some o' := by
     have hlt : j < listed.size := by
      rcases Nat.lt_or_ge j listed.size with h | h
      ·exact h
      ·simp [Array.getElem?_eq_none h] at hj
     exact ⟨_, Array.getElem?_eq_getElem (by omega)⟩
    obtain ⟨o', ho'⟩ := hjo
    refine k j o' (fun h => e h.symm) ho' (fun ed hed hb heq => ?_) (hP j hj)
    have := hL j o' hj ho' ed hed hb
    rw [heq, hil] at this
    cases this
  ·intro j o' hj ho' ed hed hb
   by_cases e : i = j
   ·subst e
    obtain rfl : o = o' := Option.some.inj (ho.symm.trans ho')
    exact getD_set_true (h2 ed hed hb)
   ·rw [getD_set_ne false e] at hj
    exact getD_set_true (hL j o' hj ho' ed hed hb)
end
abbrev Kind := (Tmp × Value) ⊕ (Tmp ⊕ (Tmp × (Nat → Bool)))
abbrev Kind.val (d : Tmp) (v : Value) : Kind := Sum.inl (d, v)
abbrev Kind.new (d : Tmp) : Kind := Sum.inr (Sum.inl d)
abbrev Kind.put (p : Tmp) (F : Nat → Bool) : Kind := Sum.inr (Sum.inr (p, F))
theorem Kind.parts {motive : Kind → Prop} (val : ∀ d v, motive (Kind.val d v)) (new : ∀ d, motive (Kind.new d)) (put : ∀ p F, motive (Kind.put p F)) : ∀ k, motive k
 | Sum.inl (d, v) => val d v
 | Sum.inr (Sum.inl d) => new d
 | Sum.inr (Sum.inr (p, F)) => put p F
def ptr (b : Nat) : Value := .pointer (some ⟨b, 0, none⟩)
theorem ptr_inj {a b : Nat} (h : ptr a = ptr b) : a = b := by simpa [ptr] using h
def slot (a : Act) (s : Tmp) : Value := a.tmps.getD s undef
def Kind.post (base : Nat) : Kind → Act → World → Prop
 | Sum.inl (d, v), a, _ => slot a d = v
 | Sum.inr (Sum.inl d), a, w => ∃ b F, slot a d = ptr b ∧ base ≤ b ∧ IsTab w b F
 | Sum.inr (Sum.inr (p, F)), a, w => ∃ b, slot a p = ptr b ∧ base ≤ b ∧ IsTab w b F
def Kind.place : Kind → Tmp
 | Sum.inl (d, _) => d
 | Sum.inr (Sum.inl d) => d
 | Sum.inr (Sum.inr (p, _)) => p
def Kind.dst? : Kind → Option Tmp
 | Sum.inl (d, _) => some d
 | Sum.inr (Sum.inl d) => some d
 | Sum.inr (Sum.inr (_, _)) => none
def Kind.new? : Kind → Option Tmp
 | Sum.inr (Sum.inl d) => some d
 | _ => none
structure Thru (w0 : World) (a0 : Act) (D A : List Tmp) (a : Act) (w : World) : Prop where
 size : a.tmps.size = a0.tmps.size
 defers : a.defers = a0.defers
 other : ∀ s, s ∉ D → slot a s = slot a0 s
 below : Below w0.heap.size w0 w
 fresh : ∀ s, s ∈ A → ∀ b, slot a s = ptr b → b < w.heap.size
 apart : ∀ s, s ∈ A → ∀ t, t ∈ A → s ≠ t → ∀ b, w0.heap.size ≤ b → slot a s = ptr b → slot a t ≠ ptr b
theorem slot_put_eq {a : Act} {d : Tmp} (v : Value) (h : d < a.tmps.size) : slot (a.put (some d) v) d = v := by
 simp [slot, Act.put, h]
theorem slot_put_ne {a : Act} {d s : Tmp} (v : Value) (h : d ≠ s) : slot (a.put (some d) v) s = slot a s := by
 simp [slot, Act.put, Array.getElem?_setIfInBounds_ne h]
section
variable {w0 : World} {a0 : Act} {D A : List Tmp} {a : Act} {w w' : World}
theorem Thru.val (g : Thru w0 a0 D A a w) (k : Below w.heap.size w w') {d : Tmp} (hd : d ∈ D) (hA : d ∉ A) (v : Value) : Thru w0 a0 D A (a.put (some d) v) w' := by
 refine ⟨by simpa [Act.put] using g.size, g.defers, fun s hs => ?_, g.below.trans (k.mono g.below.size), fun s hs b hb => ?_, fun s hs t ht hst b hB hb => ?_⟩
 ·rw [slot_put_ne v (show d ≠ s from fun e => hs (e ▸ hd))]; exact g.other s hs
 ·rw [slot_put_ne v (show d ≠ s from fun e => hA (e ▸ hs))] at hb
  exact Nat.lt_of_lt_of_le (g.fresh s hs b hb) k.size
 ·rw [slot_put_ne v (show d ≠ s from fun e => hA (e ▸ hs))] at hb
  rw [slot_put_ne v (show d ≠ t from fun e => hA (e ▸ ht))]
  exact g.apart s hs t ht hst b hB hb
theorem Thru.new (g : Thru w0 a0 D A a w) {d : Tmp} (hd : d ∈ D) (hlt : d < a.tmps.size) (o : Obj) : Thru w0 a0 D A (a.put (some d) (ptr w.heap.size)) (w.alloc o) := by
 have hsz : (w.alloc o).heap.size = w.heap.size + 1 := by simp
 refine ⟨by simpa [Act.put] using g.size, g.defers, fun s hs => ?_, g.below.alloc g.below.size o, fun s hs b hb => ?_, fun s hs t ht hst b hB hb => ?_⟩
 ·rw [slot_put_ne _ (show d ≠ s from fun e => hs (e ▸ hd))]; exact g.other s hs
 ·by_cases e : d = s
  ·subst e
   rw [slot_put_eq _ hlt] at hb
   have := ptr_inj hb
   omega
  ·rw [slot_put_ne _ e] at hb
   have := g.fresh s hs b hb
   omega
 ·by_cases e : d = s
  ·subst e
   rw [slot_put_eq _ hlt] at hb
   have hb' := ptr_inj hb
   rw [slot_put_ne _ hst]
   intro hc
   have := g.fresh t ht b hc
   omega
  ·rw [slot_put_ne _ e] at hb
   by_cases e2 : d = t
   ·subst e2
    rw [slot_put_eq _ hlt]
    intro hc
    have := g.fresh s hs b hb
    have := ptr_inj hc
    omega
   ·rw [slot_put_ne _ e2]
    exact g.apart s hs t ht hst b hB hb
theorem Thru.put (g : Thru w0 a0 D A a w) {b : Nat} (hb : w0.heap.size ≤ b) (F : Nat → Bool) : Thru w0 a0 D A a (laid w b F) := by
 have t := laid_turned w b F
 refine ⟨g.size, g.defers, g.other, g.below.trans (t.below g.below.size hb), fun s hs c hc => Nat.lt_of_lt_of_le (g.fresh s hs c hc) t.size, g.apart⟩
end
theorem nodup_place {α β : Type} (f : α → Option β) : ∀ (l : List α), (l.filterMap f).Nodup → ∀ (i j : Nat) (x y : α) (b : β), l[i]? = some x → l[j]? = some y → f x = some b → f y = some b → i = j
 | [], _, i, _, _, _, _, h, _, _, _ => by simp at h
 | z :: l, hn, i, j, x, y, b, hi, hj, hx, hy => by
  have mem : ∀ (k : Nat) (u : α), l[k]? = some u → f u = some b → b ∈ l.filterMap f := fun k u hk hu => List.mem_filterMap.2 ⟨u, List.mem_of_getElem? hk, hu⟩
  cases hz : f z with
  | none =>
   rw [List.filterMap_cons_none hz] at hn
   cases i with
   | zero => simp at hi; subst hi; rw [hz] at hx; cases hx
   | succ i =>
    cases j with
    | zero => simp at hj; subst hj; rw [hz] at hy; cases hy
    | succ j => rw [nodup_place f l hn i j x y b (by simpa using hi) (by simpa using hj) hx hy]
  | some c =>
   rw [List.filterMap_cons_some hz, List.nodup_cons] at hn
   cases i with
   | zero =>
    simp at hi
    subst hi
    cases j with
    | zero => rfl
    | succ j =>
     rw [hz] at hx
     obtain rfl := Option.some.inj hx
     exact absurd (mem j y (by simpa using hj) hy) hn.1
   | succ i =>
    cases j with
    | zero =>
     simp at hj
     subst hj
     rw [hz] at hy
     obtain rfl := Option.some.inj hy
     exact absurd (mem i x (by simpa using hi) hx) hn.1
    | succ j => rw [nodup_place f l hn.2 i j x y b (by simpa using hi) (by simpa using hj) hx hy]
def Kind.put? : Kind → Option Tmp
 | Sum.inr (Sum.inr (p, _)) => some p
 | _ => none
def Kind.ok (ops : Array Oper) (Q : Exit → Act → World → Prop) (w0 : World) (a0 : Act) (D A : List Tmp) (ks : List Kind) (i : Nat) (k : Kind) : Prop :=
 ∃ o, ops[i]? = some o ∧ o.guard = none ∧ match k with
  | Sum.inl (d, v) => o.dst = some d ∧ ∀ a w, Thru w0 a0 D A a w → (∀ e ∈ o.after, Region.binds .any e = true → ∀ k', ks[e.on]? = some k' → k'.post w0.heap.size a w) → ∀ K : Act → World → Prop, (∀ w', Below w.heap.size w w' → K (a.put (some d) v) w') → o.wp Tryz.prog a w K Q
  | Sum.inr (Sum.inl d) => o.dst = some d ∧ o.op = .alloc 24
  | Sum.inr (Sum.inr (p, F)) => o.dst = none ∧ ∃ s, o.op = .store 24 (.tmp p) (.tmp s) ∧ (∃ e ∈ o.after, Region.binds .any e = true ∧ ks[e.on]? = some (.val s (tab F))) ∧ ∃ e ∈ o.after, Region.binds .any e = true ∧ ks[e.on]? = some (.new p)
def kval (bp : Tmp → Nat) : Kind → Value
 | Sum.inl (_, v) => v
 | Sum.inr (Sum.inl d) => ptr (bp d)
 | Sum.inr (Sum.inr (_, _)) => undef
def fin (bp : Tmp → Nat) : List Kind → Act → Act
 | [], a => a
 | k :: ks, a => fin bp ks (match k.dst? with | some d => a.put (some d) (kval bp k) | none => a)
theorem act_ext {a b : Act} (h1 : a.tmps.size = b.tmps.size) (h2 : a.defers = b.defers) (h3 : ∀ s, slot a s = slot b s) : a = b := by
 cases a with | mk at' ad => cases b with | mk bt bd =>
 simp only at h1 h2
 subst h2
 congr 1
 apply Array.ext h1
 intro i hi hj
 have := h3 i
 simpa [slot, hi, hj] using this
theorem act_fin (bp : Tmp → Nat) : ∀ (ks : List Kind) (a0 a : Act), (ks.filterMap Kind.dst?).Nodup → a.tmps.size = a0.tmps.size → a.defers = a0.defers → (∀ s, s ∉ ks.filterMap Kind.dst? → slot a s = slot a0 s) → (∀ k ∈ ks, ∀ d, k.dst? = some d → d < a0.tmps.size ∧ slot a d = kval bp k) → a = fin bp ks a0
 | [], a0, a, _, h1, h2, h3, _ => act_ext h1 h2 fun s => h3 s (by simp)
 | k :: ks, a0, a, hn, h1, h2, h3, h4 => by
  rw [fin]
  cases hk : k.dst? with
  | none =>
   rw [List.filterMap_cons_none hk] at hn h3
   exact act_fin bp ks a0 a hn h1 h2 h3 fun k' hk' => h4 k' (List.mem_cons_of_mem _ hk')
  | some d =>
   rw [List.filterMap_cons_some hk] at hn h3
   have hd := h4 k List.mem_cons_self d hk
   refine act_fin bp ks _ a (List.nodup_cons.1 hn).2 (by simpa [Act.put] using h1) h2 (fun s hs => ?_) (fun k' hk' d' hd' => ?_)
   ·by_cases e : d = s
    ·subst e; rw [slot_put_eq _ hd.1]; exact hd.2
    ·rw [slot_put_ne _ e]
     exact h3 s (by simp only [List.mem_cons, not_or]; exact ⟨fun q => e q.symm, hs⟩)
   ·have := h4 k' (List.mem_cons_of_mem _ hk') d' hd'
    exact ⟨by simpa [Act.put] using this.1, this.2⟩
theorem wpOp_plain {ops : Array Oper} {Q : Exit → Act → World → Prop} {i : Nat} {o : Oper} {K : Act → World → Prop} {a : Act} {w : World} (ho : ops[i]? = some o) (hg : o.guard = none) (h : o.wp Tryz.prog a w K Q) : wpOp Tryz.prog ops Q i K a w := by
 unfold wpOp
 simp only [ho, Region.wanted, hg]
 exact Or.inl h
theorem eval_tmp (a : Act) (s : Tmp) : a.eval (.tmp s) = slot a s := rfl
set_option maxHeartbeats 800000 in
theorem wp_region_tabs {ops : Array Oper} {Q : Exit → Act → World → Prop} {id : Nat} {a0 : Act} {w0 : World} (ks : List Kind) (hm : Tryz.prog.follows .mixedOrders = true) (hw : waitsBack ops = true) (hlen : ks.length = ops.size)
  (hD : (ks.filterMap Kind.dst?).Nodup) (hP : (ks.filterMap Kind.put?).Nodup) (hlt : ∀ d ∈ ks.filterMap Kind.dst?, d < a0.tmps.size)
  (hold : ∀ s ∈ ks.filterMap Kind.new?, ∀ b, slot a0 s = ptr b → b < w0.heap.size)
  (hok : ∀ i k, ks[i]? = some k → Kind.ok ops Q w0 a0 (ks.filterMap Kind.dst?) (ks.filterMap Kind.new?) ks i k)
  (done : ∀ (bp : Tmp → Nat) (w : World), Below w0.heap.size w0 w → (∀ s ∈ ks.filterMap Kind.new?, w0.heap.size ≤ bp s ∧ bp s < w.heap.size) → (∀ s ∈ ks.filterMap Kind.new?, ∀ t ∈ ks.filterMap Kind.new?, s ≠ t → bp s ≠ bp t) → (∀ p F, Kind.put p F ∈ ks → IsTab w (bp p) F) → Q .normal (fin bp ks a0) w) :
  (Code.region id ops true).wp Tryz.prog Q a0 w0 := by
 have newdst : ∀ s, s ∈ ks.filterMap Kind.new? → s ∈ ks.filterMap Kind.dst? := by
  intro s hs
  obtain ⟨k, hk, he⟩ := List.mem_filterMap.1 hs
  refine List.mem_filterMap.2 ⟨k, hk, ?_⟩
  cases k using Kind.parts <;> simp_all [Kind.new?, Kind.dst?]
 have sameAt : ∀ (i j : Nat) (x y : Kind) (d : Tmp), ks[i]? = some x → ks[j]? = some y → x.dst? = some d → y.dst? = some d → i = j := nodup_place Kind.dst? ks hD
 have valnew : ∀ (i : Nat) (d : Tmp) (v : Value), ks[i]? = some (.val d v) → d ∉ ks.filterMap Kind.new? := by
  intro i d v hi hc
  obtain ⟨k, hk, he⟩ := List.mem_filterMap.1 hc
  obtain ⟨j, hj⟩ := List.mem_iff_getElem?.1 hk
  cases k using Kind.parts with
  | val => simp [Kind.new?] at he
  | put => simp [Kind.new?] at he
  | new d' =>
   simp [Kind.new?] at he
   subst he
   have := sameAt i j _ _ d' hi hj rfl rfl
   subst this
   rw [hi] at hj
   cases hj
 have putnew : ∀ (i : Nat) (p : Tmp) (F : Nat → Bool), ks[i]? = some (.put p F) → p ∈ ks.filterMap Kind.new? := by
  intro i p F hi
  obtain ⟨o, _, _, _, s, _, _, e, _, _, he⟩ := hok i _ hi
  exact List.mem_filterMap.2 ⟨_, List.mem_of_getElem? he, rfl⟩
 refine wp_region_any hm (wpAny_posts' (fun a w => Thru w0 a0 (ks.filterMap Kind.dst?) (ks.filterMap Kind.new?) a w) (fun i a w => ∀ k, ks[i]? = some k → k.post w0.heap.size a w) hw ?_ ?_ ops.size _ a0 _ (by simp) ?_ ?_ ?_ ?_)
 ·intro i o a w ho hG hpre
  have hlt' : i < ks.length := by rw [hlen]; exact (Array.getElem?_eq_some_iff.1 ho).1
  obtain ⟨k, hk⟩ : ∃ k, ks[i]? = some k := ⟨_, List.getElem?_eq_getElem hlt'⟩
  have hkok := hok i k hk
  obtain ⟨o', ho', hg, hrest⟩ := hkok
  obtain rfl : o = o' := Option.some.inj (ho.symm.trans ho')
  refine wpOp_plain ho hg ?_
  cases k using Kind.parts with
  | val d v =>
   obtain ⟨hdst, hwp⟩ := hrest
   have hdD : d ∈ ks.filterMap Kind.dst? := List.mem_filterMap.2 ⟨_, List.mem_of_getElem? hk, rfl⟩
   have hdA := valnew i d v hk
   have hds : d < a.tmps.size := by rw [hG.size]; exact hlt d hdD
   refine hwp a w hG hpre _ fun w' kb => ⟨hG.val kb hdD hdA v, ?_, ?_⟩
   ·intro k' hk'
    obtain rfl := Option.some.inj (hk.symm.trans hk')
    exact slot_put_eq v hds
   ·intro j oj hji _ _ hpj k' hk'
    have hj := hpj k' hk'
    cases k' using Kind.parts with
    | val d' v' =>
     have : d ≠ d' := fun e => hji (sameAt j i _ _ d' hk' hk rfl (by rw [e]; rfl))
     exact (slot_put_ne v this).trans hj
    | new d' =>
     have : d ≠ d' := fun e => hji (sameAt j i _ _ d' hk' hk rfl (by rw [e]; rfl))
     obtain ⟨b, F, h1, h2, h3⟩ := hj
     exact ⟨b, F, (slot_put_ne v this).trans h1, h2, h3.kept kb⟩
    | put p F =>
     have : d ≠ p := fun e => hdA (e ▸ putnew j p F hk')
     obtain ⟨b, h1, h2, h3⟩ := hj
     exact ⟨b, (slot_put_ne v this).trans h1, h2, h3.kept kb⟩
  | new d =>
   obtain ⟨hdst, hop⟩ := hrest
   have hdD : d ∈ ks.filterMap Kind.dst? := List.mem_filterMap.2 ⟨_, List.mem_of_getElem? hk, rfl⟩
   have hds : d < a.tmps.size := by rw [hG.size]; exact hlt d hdD
   have hrun : (execOp a.eval o).run Tryz.prog w = .ok (.value (ptr w.heap.size)) (w.alloc (.cells #[.int .u64 0, .int .u64 0, .int .u64 0, .int .u64 0] 24)) := by
    simp only [execOp, hop, Sem.run_bind, run_alloc24, Result.andThen_ok]
    rfl
   unfold Oper.wp
   rw [hrun, Oper.upon_value, hdst]
   refine ⟨hG.new hdD hds _, ?_, ?_⟩
   ·intro k' hk'
    obtain rfl := Option.some.inj (hk.symm.trans hk')
    exact ⟨w.heap.size, _, slot_put_eq _ hds, hG.below.size, IsTab.zeroAt rfl⟩
   ·intro j oj hji hoj hno hpj k' hk'
    have hj := hpj k' hk'
    cases k' using Kind.parts with
    | val d' v' =>
     have : d ≠ d' := fun e => hji (sameAt j i _ _ d' hk' hk rfl (by rw [e]; rfl))
     exact (slot_put_ne _ this).trans hj
    | new d' =>
     have : d ≠ d' := fun e => hji (sameAt j i _ _ d' hk' hk rfl (by rw [e]; rfl))
     obtain ⟨b, F, h1, h2, h3⟩ := hj
     exact ⟨b, F, (slot_put_ne _ this).trans h1, h2, h3.alloc _⟩
    | put p F =>
     have : d ≠ p := by
      intro e
      subst e
      obtain ⟨oj', hoj', _, _, s, _, _, ed, hed, hbd, hen⟩ := hok j _ hk'
      obtain rfl : oj = oj' := Option.some.inj (hoj.symm.trans hoj')
      exact hno ed hed hbd (sameAt ed.on i _ _ d hen hk rfl rfl)
     obtain ⟨b, h1, h2, h3⟩ := hj
     exact ⟨b, (slot_put_ne _ this).trans h1, h2, h3.alloc _⟩
  | put p F =>
   obtain ⟨hdst, s, hop, ⟨e1, he1, hb1, hk1⟩, e2, he2, hb2, hk2⟩ := hrest
   have hv : slot a s = tab F := hpre e1 he1 hb1 _ hk1
   obtain ⟨b, F', hp, hbase, hT⟩ := hpre e2 he2 hb2 _ hk2
   have hrun : (execOp a.eval o).run Tryz.prog w = .ok .skip (laid w b F) := by
    simp only [execOp, hop, eval_tmp, hv, hp, ptr, Sem.run_bind, run_store24 hT F, Result.andThen_ok]
    rfl
   unfold Oper.wp
   rw [hrun, Oper.upon_skip, hdst]
   refine ⟨hG.put hbase F, ?_, ?_⟩
   ·intro k' hk'
    obtain rfl := Option.some.inj (hk.symm.trans hk')
    exact ⟨b, hp, hbase, laid_tab hT F⟩
   ·intro j oj hji _ _ hpj k' hk'
    have hj := hpj k' hk'
    cases k' using Kind.parts with
    | val d' v' => exact hj
    | new d' =>
     obtain ⟨c, F2, h1, h2, h3⟩ := hj
     by_cases e : d' = p
     ·subst e
      obtain rfl : b = c := ptr_inj (hp.symm.trans h1)
      exact ⟨b, F, hp, hbase, laid_tab hT F⟩
     ·have hne : c ≠ b := fun q => hG.apart d' (List.mem_filterMap.2 ⟨_, List.mem_of_getElem? hk', rfl⟩) p (putnew i p F hk) e c h2 h1 (q ▸ hp)
      exact ⟨c, F2, h1, h2, (laid_turned w b F).tab h3 hne⟩
    | put p' F2 =>
     obtain ⟨c, h1, h2, h3⟩ := hj
     have e : p' ≠ p := fun q => hji (nodup_place Kind.put? ks hP j i _ _ p hk' hk (by rw [← q]; rfl) rfl)
     have hne : c ≠ b := fun q => hG.apart p' (putnew j p' F2 hk') p (putnew i p F hk) e c h2 h1 (q ▸ hp)
     exact ⟨c, h1, h2, (laid_turned w b F).tab h3 hne⟩
 ·intro a w hG hall
  have hpost : ∀ (i : Nat) (k : Kind), ks[i]? = some k → k.post w0.heap.size a w := fun i k hk => hall i (by rw [← hlen]; exact (List.getElem?_eq_some_iff.1 hk).1) k hk
  let bp : Tmp → Nat := fun s => match slot a s with | .pointer (some ad) => ad.block | _ => 0
  have hbp : ∀ s b, slot a s = ptr b → bp s = b := fun s b h => by simp only [bp, h, ptr]
  have hfin : a = fin bp ks a0 := by
   refine act_fin bp ks a0 a hD hG.size hG.defers hG.other fun k hk d hd => ⟨hlt d (List.mem_filterMap.2 ⟨k, hk, hd⟩), ?_⟩
   obtain ⟨i, hi⟩ := List.mem_iff_getElem?.1 hk
   have hp := hpost i k hi
   cases k using Kind.parts with
   | val d' v => simp [Kind.dst?] at hd; subst hd; exact hp
   | new d' =>
    simp [Kind.dst?] at hd
    subst hd
    obtain ⟨b, F, h1, _, _⟩ := hp
    rw [kval, hbp _ _ h1]
    exact h1
   | put p F => simp [Kind.dst?] at hd
  have hnew : ∀ s ∈ ks.filterMap Kind.new?, ∃ b F, slot a s = ptr b ∧ w0.heap.size ≤ b ∧ IsTab w b F := by
   intro s hs
   obtain ⟨k, hk, he⟩ := List.mem_filterMap.1 hs
   obtain ⟨i, hi⟩ := List.mem_iff_getElem?.1 hk
   have hp := hpost i k hi
   cases k using Kind.parts with
   | val => simp [Kind.new?] at he
   | put => simp [Kind.new?] at he
   | new d' => simp [Kind.new?] at he; subst he; exact hp
  have := done bp w hG.below (fun s hs => by
   obtain ⟨b, F, h1, h2, h3⟩ := hnew s hs
   rw [hbp _ _ h1]
   exact ⟨h2, h3.lt⟩) (fun s hs t ht hst => by
   obtain ⟨b, F, h1, h2, h3⟩ := hnew s hs
   obtain ⟨c, F2, g1, g2, g3⟩ := hnew t ht
   rw [hbp _ _ h1, hbp _ _ g1]
   intro e
   subst e
   exact hG.apart s hs t ht hst b h2 h1 g1) (fun p F hk => by
   obtain ⟨i, hi⟩ := List.mem_iff_getElem?.1 hk
   obtain ⟨b, h1, h2, h3⟩ := hpost i _ hi
   rw [hbp _ _ h1]
   exact h3)
  rw [← hfin] at this
  exact this
 ·unfold toCome
  exact Nat.le_trans (List.length_filter_le _ _) (by simp)
 ·refine ⟨rfl, rfl, fun _ _ => rfl, ⟨rfl, rfl, rfl, Nat.le_refl _, fun _ _ => rfl⟩, hold, fun s hs t ht _ b hb h1 => ?_⟩
  have := hold s hs b h1
  omega
 ·intro j hj
  simp [Array.getElem?_replicate] at hj
  split at hj <;> simp_all
 ·intro j o hj
  simp [Array.getElem?_replicate] at hj
  split at hj <;> simp_all
theorem wp_load {o : Oper} {a : Act} {w : World} {K : Act → World → Prop} {Q : Exit → Act → World → Prop} {d s : Tmp} {b : Nat} {F : Nat → Bool} (hop : o.op = .load 24 (.tmp s)) (hd : o.dst = some d) (hs : slot a s = ptr b) (hT : IsTab w b F) (h : ∀ w', Below w.heap.size w w' → K (a.put (some d) (tab F)) w') : o.wp Tryz.prog a w K Q := by
 have hrun : (execOp a.eval o).run Tryz.prog w = .ok (.value (tab F)) w := by
  simp only [execOp, hop, eval_tmp, hs, ptr, Sem.run_bind, run_load24 hT, Result.andThen_ok]
  rfl
 unfold Oper.wp
 rw [hrun, Oper.upon_value, hd]
 exact h w (Below.refl _ _)
theorem wp_move {o : Oper} {a : Act} {w : World} {K : Act → World → Prop} {Q : Exit → Act → World → Prop} {d s : Tmp} {v : Value} (hop : o.op = .move (.tmp s)) (hd : o.dst = some d) (hs : slot a s = v) (h : ∀ w', Below w.heap.size w w' → K (a.put (some d) v) w') : o.wp Tryz.prog a w K Q := by
 have hrun : (execOp a.eval o).run Tryz.prog w = .ok (.value v) w := by
  simp only [execOp, hop, eval_tmp, hs]
  rfl
 unfold Oper.wp
 rw [hrun, Oper.upon_value, hd]
 exact h w (Below.refl _ _)
theorem wp_call {o : Oper} {a : Act} {w : World} {K : Act → World → Prop} {Q : Exit → Act → World → Prop} {d : Tmp} {f : FuncId} {vs : Array Value} {v : Value} (hd : o.dst = some d) (hrun : (execOp a.eval o).run Tryz.prog w = .ok (.enter f vs) w) (hc : Calls Tryz.prog f vs w fun e w' => e = .returned v ∧ Below w.heap.size w w') (h : ∀ w', Below w.heap.size w w' → K (a.put (some d) v) w') : o.wp Tryz.prog a w K Q := by
 unfold Oper.wp
 rw [hrun, Oper.upon_enter, hd]
 refine hc.mono ?_
 rintro e w' ⟨rfl, b⟩
 exact h w' b
theorem wp_region_tabs' {ops : Array Oper} {Q : Exit → Act → World → Prop} {id : Nat} {a0 : Act} {w0 : World} (ks : List Kind) (D A L : List Tmp) (n : Nat) (hm : Tryz.prog.follows .mixedOrders = true) (hw : waitsBack ops = true) (hlen : ks.length = ops.size)
  (eD : ks.filterMap Kind.dst? = D) (eA : ks.filterMap Kind.new? = A) (eL : ks.filterMap Kind.put? = L) (hD : D.Nodup) (hP : L.Nodup) (hn : a0.tmps.size = n) (hlt : (D.all fun d => decide (d < n)) = true)
  (hold : ∀ s ∈ A, ∀ b, slot a0 s = ptr b → b < w0.heap.size)
  (hok : ∀ i k, ks[i]? = some k → Kind.ok ops Q w0 a0 D A ks i k)
  (done : ∀ (bp : Tmp → Nat) (w : World), Below w0.heap.size w0 w → (∀ s ∈ A, w0.heap.size ≤ bp s ∧ bp s < w.heap.size) → (∀ s ∈ A, ∀ t ∈ A, s ≠ t → bp s ≠ bp t) → (∀ p F, Kind.put p F ∈ ks → IsTab w (bp p) F) → Q .normal (fin bp ks a0) w) :
  (Code.region id ops true).wp Tryz.prog Q a0 w0 := by
 subst eD eA eL hn
 exact wp_region_tabs ks hm hw hlen hD hP (fun d hd => by simpa using List.all_eq_true.1 hlt d hd) hold hok done
theorem run_call {o : Oper} {a : Act} {w : World} {f : FuncId} {args : Array Operand} {tys : Array TypeId} (hop : o.op = .call { callee := .value (.func f), args := args, argTypes := tys }) (vs : Array Value) (hf : ∀ vs, (callFunc f vs).run Tryz.prog w = .ok (.enter f vs) w) (hv : args.map a.eval = vs) : (execOp a.eval o).run Tryz.prog w = .ok (.enter f vs) w := by
 subst hv
 simp only [execOp, hop, resolve, Sem.run_bind]
 show (Result.andThen ((Deferred.ofValue (.func (.func f) #[] #[]) (args.map a.eval)).run Tryz.prog w) _) = _
 simp only [Deferred.ofValue, Sem.run_pure, Result.andThen_ok, invoke]
 simpa using hf (args.map a.eval)
end Go.Proofs.YtnnmdkaoiofabaaGreat.Rf
namespace Go.Proofs.YtnnmdkaoiofabaaGreat.Rf
open Go Go.RowKit
structure Steady (S : World → Prop) (a0 : Act) (D : List Tmp) (a : Act) (w : World) : Prop where
 size : a.tmps.size = a0.tmps.size
 defers : a.defers = a0.defers
 other : ∀ s, s ∉ D → slot a s = slot a0 s
 here : S w
def vfin : List (Tmp × Value) → Act → Act
 | [], a => a
 | k :: ks, a => vfin ks (a.put (some k.1) k.2)
def Left (ks : List (Tmp × Value)) (o : Oper) (a : Act) : Prop := ∀ e ∈ o.after, Region.binds .any e = true → ∀ k', ks[e.on]? = some k' → slot a k'.1 = k'.2
section
variable {P : Program} {ops : Array Oper} {Q : Exit → Act → World → Prop} {S : World → Prop} {a0 : Act} {D : List Tmp} {ks : List (Tmp × Value)}
def Does (P : Program) (Q : Exit → Act → World → Prop) (S : World → Prop) (a0 : Act) (D : List Tmp) (ks : List (Tmp × Value)) (o : Oper) (k : Tmp × Value) : Prop :=
 ∀ a w, Steady S a0 D a w → Left ks o a → ∀ K : Act → World → Prop, (∀ w', S w' → K (a.put (some k.1) k.2) w') → o.wp P a w K Q
def VOk (P : Program) (ops : Array Oper) (Q : Exit → Act → World → Prop) (S : World → Prop) (a0 : Act) (D : List Tmp) (ks : List (Tmp × Value)) (i : Nat) (k : Tmp × Value) : Prop :=
 ∃ o, ops[i]? = some o ∧ o.dst = some k.1 ∧ ((o.guard = none ∧ Does P Q S a0 D ks o k) ∨
  ∃ j b dj g, o.guard = some (j, b) ∧ (∃ e ∈ o.after, Region.binds .any e = true ∧ e.on = j) ∧ ks[j]? = some (dj, .bool g) ∧ (g ≠ b → k.2 = undef) ∧ (g = b → Does P Q S a0 D ks o k))
theorem vok_plain {i : Nat} {k : Tmp × Value} (o : Oper) (ho : ops[i]? = some o) (hd : o.dst = some k.1) (hg : o.guard = none) (h : Does P Q S a0 D ks o k) : VOk P ops Q S a0 D ks i k := ⟨o, ho, hd, Or.inl ⟨hg, h⟩⟩
theorem vok_sure {i : Nat} {k : Tmp × Value} (o : Oper) (ho : ops[i]? = some o) (hd : o.dst = some k.1) (j : Nat) (b : Bool) (dj : Tmp) (hg : o.guard = some (j, b)) (he : ∃ e ∈ o.after, Region.binds .any e = true ∧ e.on = j) (hj : ks[j]? = some (dj, .bool b)) (h : Does P Q S a0 D ks o k) : VOk P ops Q S a0 D ks i k :=
 ⟨o, ho, hd, Or.inr ⟨j, b, dj, b, hg, he, hj, fun h => absurd rfl h, fun _ => h⟩⟩
theorem vok_maybe {i : Nat} {k : Tmp × Value} (o : Oper) (ho : ops[i]? = some o) (hd : o.dst = some k.1) (j : Nat) (b : Bool) (dj : Tmp) (g : Bool) (hg : o.guard = some (j, b)) (he : ∃ e ∈ o.after, Region.binds .any e = true ∧ e.on = j) (hj : ks[j]? = some (dj, .bool g)) (hu : g ≠ b → k.2 = undef) (h : g = b → Does P Q S a0 D ks o k) : VOk P ops Q S a0 D ks i k :=
 ⟨o, ho, hd, Or.inr ⟨j, b, dj, g, hg, he, hj, hu, h⟩⟩
theorem Steady.put {a : Act} {w w' : World} (g : Steady S a0 D a w) (hw : S w') {d : Tmp} (hd : d ∈ D) (v : Value) : Steady S a0 D (a.put (some d) v) w' :=
 ⟨by simpa [Act.put] using g.size, g.defers, fun s hs => by rw [slot_put_ne v (show d ≠ s from fun e => hs (e ▸ hd))]; exact g.other s hs, hw⟩
theorem vact_fin : ∀ (ks : List (Tmp × Value)) (a0 a : Act), (ks.map (·.1)).Nodup → a.tmps.size = a0.tmps.size → a.defers = a0.defers → (∀ s, s ∉ ks.map (·.1) → slot a s = slot a0 s) → (∀ k ∈ ks, k.1 < a0.tmps.size ∧ slot a k.1 = k.2) → a = vfin ks a0
 | [], a0, a, _, h1, h2, h3, _ => act_ext h1 h2 fun s => h3 s (by simp)
 | k :: ks, a0, a, hn, h1, h2, h3, h4 => by
  rw [List.map_cons, List.nodup_cons] at hn
  have hd := h4 k List.mem_cons_self
  refine vact_fin ks _ a hn.2 (by simpa [Act.put] using h1) h2 (fun s hs => ?_) (fun k' hk' => ?_)
  ·by_cases e : k.1 = s
   ·subst e; rw [slot_put_eq _ hd.1]; exact hd.2
   ·rw [slot_put_ne _ e]
    exact h3 s (by simp only [List.map_cons, List.mem_cons, not_or]; exact ⟨fun q => e q.symm, hs⟩)
  ·have := h4 k' (List.mem_cons_of_mem _ hk')
   exact ⟨by simpa [Act.put] using this.1, this.2⟩
theorem yielded_of {a : Act} {j : Nat} {oj : Oper} {dj : Tmp} {g : Bool} (ho : ops[j]? = some oj) (hd : oj.dst = some dj) (hlt : dj < a.tmps.size) (hs : slot a dj = .bool g) : yielded ops a.tmps j = some g := by
 have : a.tmps[dj]? = some (.bool g) := by
  rw [Array.getElem?_eq_getElem hlt]
  simp only [slot, Array.getD, hlt, dif_pos] at hs
  exact congrArg some hs
 simp only [yielded, ho, Option.bind_some, hd, this]
theorem wp_region_vals {id : Nat} {w0 : World} (S : World → Prop) (ks : List (Tmp × Value)) (D : List Tmp) (n : Nat) (hm : P.follows .mixedOrders = true) (hw : waitsBack ops = true) (hlen : ks.length = ops.size)
  (eD : ks.map (·.1) = D) (hD : D.Nodup) (hn : a0.tmps.size = n) (hlt : (D.all fun d => decide (d < n)) = true) (hS : S w0.drew)
  (hok : ∀ i k, ks[i]? = some k → VOk P ops Q S a0 D ks i k)
  (done : ∀ w, S w → Q .normal (vfin ks a0) w) :
  (Code.region id ops true).wp P Q a0 w0 := by
 subst eD hn
 have hlt' : ∀ (i : Nat) (k : Tmp × Value), ks[i]? = some k → k.1 < a0.tmps.size := fun i k hk => by simpa using List.all_eq_true.1 hlt k.1 (List.mem_map.2 ⟨k, List.mem_of_getElem? hk, rfl⟩)
 have hmem : ∀ (i : Nat) (k : Tmp × Value), ks[i]? = some k → k.1 ∈ ks.map (·.1) := fun i k hk => List.mem_map.2 ⟨k, List.mem_of_getElem? hk, rfl⟩
 have sameAt : ∀ (i j : Nat) (x y : Tmp × Value), ks[i]? = some x → ks[j]? = some y → x.1 = y.1 → i = j := fun i j x y hi hj e => by
  refine nodup_place (fun k : Tmp × Value => some k.1) ks ?_ i j x y x.1 hi hj rfl (congrArg some e.symm)
  have : ks.filterMap (fun k : Tmp × Value => some k.1) = ks.map (·.1) := by rw [← List.filterMap_eq_map]; rfl
  rw [this]; exact hD
 refine wp_region_any hm (wpAny_posts' (fun a w => Steady S a0 (ks.map (·.1)) a w) (fun i a _ => ∀ k : Tmp × Value, ks[i]? = some k → slot a k.1 = k.2) hw ?_ ?_ ops.size _ a0 _ (by simp) ?_ ⟨rfl, rfl, fun _ _ => rfl, hS⟩ ?_ ?_)
 ·intro i o a w ho hG hpre
  have hi : i < ks.length := by rw [hlen]; exact (Array.getElem?_eq_some_iff.1 ho).1
  obtain ⟨k, hk⟩ : ∃ k, ks[i]? = some k := ⟨_, List.getElem?_eq_getElem hi⟩
  obtain ⟨o', ho', hdst, hrest⟩ := hok i k hk
  obtain rfl : o = o' := Option.some.inj (ho.symm.trans ho')
  have hds : k.1 < a.tmps.size := by rw [hG.size]; exact hlt' i k hk
  have fine : ∀ w', S w' → Steady S a0 (ks.map (·.1)) (a.put (some k.1) k.2) w' ∧ (∀ k' : Tmp × Value, ks[i]? = some k' → slot (a.put (some k.1) k.2) k'.1 = k'.2) ∧ ∀ j o', j ≠ i → ops[j]? = some o' → (∀ e ∈ o'.after, Region.binds .any e = true → e.on ≠ i) → (∀ k' : Tmp × Value, ks[j]? = some k' → slot a k'.1 = k'.2) → (∀ k' : Tmp × Value, ks[j]? = some k' → slot (a.put (some k.1) k.2) k'.1 = k'.2) := by
   intro w' hw'
   refine ⟨hG.put hw' (hmem i k hk) k.2, fun k' hk' => ?_, fun j oj hji _ _ hpj k' hk' => ?_⟩
   ·obtain rfl := Option.some.inj (hk.symm.trans hk')
    exact slot_put_eq _ hds
   ·rw [slot_put_ne _ (fun e => hji (sameAt j i k' k hk' hk e.symm))]
    exact hpj k' hk'
  have hleft : Left ks o a := fun e he hb k' hk' => hpre e he hb k' hk'
  unfold wpOp
  simp only [ho]
  rcases hrest with ⟨hg, hdo⟩ | ⟨j, b, dj, g, hg, ⟨e, he, hbe, rfl⟩, hkj, hu, hdo⟩
  ·simp only [Region.wanted, hg, if_true]
   exact Or.inl (hdo a w hG hleft _ fine)
  ·obtain ⟨oj, hoj, hdj, _⟩ := hok e.on _ hkj
   have hy : yielded ops a.tmps e.on = some g := yielded_of hoj hdj (by rw [hG.size]; exact hlt' _ _ hkj) (hleft e he hbe _ hkj)
   by_cases hgb : g = b
   ·subst hgb
    simp only [Region.wanted, hg, hy, beq_self_eq_true, if_true]
    exact Or.inl (hdo rfl a w hG hleft _ fine)
   ·have : (some g == some b) = false := by simpa using hgb
    simp only [Region.wanted, hg, hy, this]
    have := fine w hG.here
    rw [hu hgb] at this
    rw [hdst]
    exact this
 ·intro a w hG hall
  have hfin : a = vfin ks a0 := by
   refine vact_fin ks a0 a hD hG.size hG.defers hG.other fun k hk => ?_
   obtain ⟨i, hi⟩ := List.mem_iff_getElem?.1 hk
   exact ⟨hlt' i k hi, hall i (by rw [← hlen]; exact (List.getElem?_eq_some_iff.1 hi).1) k hi⟩
  rw [hfin]
  exact done w hG.here
 ·unfold toCome
  exact Nat.le_trans (List.length_filter_le _ _) (by simp)
 ·intro j hj
  simp [Array.getElem?_replicate] at hj
  split at hj <;> simp_all
 ·intro j o hj
  simp [Array.getElem?_replicate] at hj
  split at hj <;> simp_all
variable {o : Oper} {a : Act} {w : World} {K : Act → World → Prop}
theorem does_val {k : Tmp × Value} (hd : o.dst = some k.1) (h : ∀ a w, Steady S a0 D a w → Left ks o a → (execOp a.eval o).run P w = .ok (.value k.2) w) : Does P Q S a0 D ks o k := by
 intro a w hG hL K hK
 unfold Oper.wp
 rw [h a w hG hL, Oper.upon_value, hd]
 exact hK w hG.here
theorem does_call {k : Tmp × Value} {f : FuncId} (vs : Array Value) (hd : o.dst = some k.1) (h : ∀ a w, Steady S a0 D a w → Left ks o a → (execOp a.eval o).run P w = .ok (.enter f vs) w) (hc : ∀ w, S w → Calls P f vs w fun e w' => e = .returned k.2 ∧ S w') : Does P Q S a0 D ks o k := by
 intro a w hG hL K hK
 unfold Oper.wp
 rw [h a w hG hL, Oper.upon_enter, hd]
 refine (hc w hG.here).mono ?_
 rintro e w' ⟨rfl, hs⟩
 exact hK w' hs
theorem x_move {x : Operand} {v : Value} (hop : o.op = .move x) (hv : a.eval x = v) : (execOp a.eval o).run P w = .ok (.value v) w := by
 simp only [execOp, hop, hv]; rfl
theorem x_assign {x : Operand} {v : Value} (hop : o.op = .assign x) (hv : a.eval x = v) : (execOp a.eval o).run P w = .ok (.value v) w := by
 simp only [execOp, hop, hv]; rfl
theorem x_pick {c x y : Operand} {b : Bool} {v : Value} (hop : o.op = .pick c x y) (hc : a.eval c = .bool b) (hv : (if b then a.eval x else a.eval y) = v) : (execOp a.eval o).run P w = .ok (.value v) w := by
 subst hv
 simp only [execOp, hop, hc]
 cases b <;> rfl
theorem x_bin {op : BinOp} {t t' : TypeId} {x y : Operand} {vx vy v : Value} (hop : o.op = .binOp op t x y t') (hx : a.eval x = vx) (hy : a.eval y = vy) (hg : (eqGuard op t x y vx vy).run P w = .ok () w) (hb : (binOp op t vx vy).run P w = .ok v w) : (execOp a.eval o).run P w = .ok (.value v) w := by
 simp only [execOp, hop, hx, hy, Sem.run_bind, hg, hb, Result.andThen_ok]; rfl
theorem x_load {t : TypeId} {x : Operand} {vx v : Value} (hop : o.op = .load t x) (hx : a.eval x = vx) (hb : (Instr.loadAt t vx).run P w = .ok v w) : (execOp a.eval o).run P w = .ok (.value v) w := by
 simp only [execOp, hop, hx, Sem.run_bind, hb, Result.andThen_ok]; rfl
theorem x_call {f : FuncId} {args : Array Operand} {tys : Array TypeId} {vs : Array Value} (hop : o.op = .call { callee := .value (.func f), args := args, argTypes := tys }) (hv : args.map a.eval = vs) (hf : ∀ w, (callFunc f vs).run P w = .ok (.enter f vs) w) : (execOp a.eval o).run P w = .ok (.enter f vs) w := by
 subst hv
 simp only [execOp, hop, resolve, Sem.run_bind]
 show (Result.andThen ((Deferred.ofValue (.func (.func f) #[] #[]) (args.map a.eval)).run P w) _) = _
 simp only [Deferred.ofValue, Sem.run_pure, Result.andThen_ok, invoke]
 simpa using hf w
end
end Go.Proofs.YtnnmdkaoiofabaaGreat.Rf
namespace Go.Proofs.YtnnmdkaoiofabaaGreat.Rf
open Go Go.RowKit
def waitsBackQ (ops : Array Oper) : Bool := (List.range ops.size).all fun i => ((ops[i]?).map (·.after.all fun e => !Region.binds .any e || decide (e.on < i))).getD true
section
variable {P : Program} {ops : Array Oper} {Q : Exit → Act → World → Prop} {S : World → Prop} {a0 : Act} {D : List Tmp} {ks : List (Tmp × Value)}
theorem waits_of (hw : waitsBackQ ops = true) {i : Nat} {o : Oper} (ho : ops[i]? = some o) : ∀ e ∈ o.after, Region.binds .any e = true → e.on < i := by
 intro e he hb
 have hi : i < ops.size := (Array.getElem?_eq_some_iff.1 ho).1
 have h1 := List.all_eq_true.1 hw i (List.mem_range.2 hi)
 rw [ho] at h1
 simp only [Option.map_some, Option.getD_some, Array.all_eq_true_iff_forall_mem] at h1
 have h2 := h1 e he
 rw [hb] at h2
 simpa using h2
theorem vals_from (hw : waitsBackQ ops = true) (hlen : ks.length = ops.size) (hD : (ks.map (·.1)).Nodup) (hlt' : ∀ (i : Nat) (k : Tmp × Value), ks[i]? = some k → k.1 < a0.tmps.size)
  (hok : ∀ i k, ks[i]? = some k → VOk P ops Q S a0 (ks.map (·.1)) ks i k)
  (done : ∀ w, S w → Q .normal (vfin ks a0) w) :
  ∀ (g m : Nat) (a : Act) (w : World), m + g = ops.size → Steady S a0 (ks.map (·.1)) a w → (∀ j, j < m → ∀ k : Tmp × Value, ks[j]? = some k → slot a k.1 = k.2) → wpOps P ops Q (List.range' m g) a w := by
 have hmem : ∀ (i : Nat) (k : Tmp × Value), ks[i]? = some k → k.1 ∈ ks.map (·.1) := fun i k hk => List.mem_map.2 ⟨k, List.mem_of_getElem? hk, rfl⟩
 have sameAt : ∀ (i j : Nat) (x y : Tmp × Value), ks[i]? = some x → ks[j]? = some y → x.1 = y.1 → i = j := fun i j x y hi hj e => by
  refine nodup_place (fun k : Tmp × Value => some k.1) ks ?_ i j x y x.1 hi hj rfl (congrArg some e.symm)
  have : ks.filterMap (fun k : Tmp × Value => some k.1) = ks.map (·.1) := by rw [← List.filterMap_eq_map]; rfl
  rw [this]; exact hD
 intro g
 induction g with
 | zero =>
  intro m a w hm hG hP
  have hfin : a = vfin ks a0 := by
   refine vact_fin ks a0 a hD hG.size hG.defers hG.other fun k hk => ?_
   obtain ⟨i, hi⟩ := List.mem_iff_getElem?.1 hk
   have hi' : i < m := by
    have := (List.getElem?_eq_some_iff.1 hi).1
    omega
   exact ⟨hlt' i k hi, hP i hi' k hi⟩
  show Q .normal a w
  rw [hfin]
  exact done w hG.here
 | succ g ih =>
  intro i a w hm hG hP
  have hi : i < ks.length := by omega
  obtain ⟨k, hk⟩ : ∃ k, ks[i]? = some k := ⟨_, List.getElem?_eq_getElem hi⟩
  obtain ⟨o, ho, hdst, hrest⟩ := hok i k hk
  have hds : k.1 < a.tmps.size := by rw [hG.size]; exact hlt' i k hk
  have hleft : Left ks o a := fun e he hb k' hk' => hP e.on (waits_of hw ho e he hb) k' hk'
  have fine : ∀ w', S w' → wpOps P ops Q (List.range' (i + 1) g) (a.put (some k.1) k.2) w' := by
   intro w' hw'
   refine ih (i + 1) _ w' (by omega) (hG.put hw' (hmem i k hk) k.2) fun j hj k' hk' => ?_
   by_cases e : j = i
   ·subst e
    obtain rfl := Option.some.inj (hk.symm.trans hk')
    exact slot_put_eq _ hds
   ·rw [slot_put_ne _ (fun q => e (sameAt j i k' k hk' hk q.symm))]
    exact hP j (by omega) k' hk'
  rw [List.range'_succ, wpOps_cons]
  unfold wpOp
  simp only [ho]
  rcases hrest with ⟨hg, hdo⟩ | ⟨j, b, dj, gb, hg, ⟨e, he, hbe, rfl⟩, hkj, hu, hdo⟩
  ·simp only [Region.wanted, hg, if_true]
   exact Or.inl (hdo a w hG hleft _ fine)
  ·obtain ⟨oj, hoj, hdj, _⟩ := hok e.on _ hkj
   have hy : yielded ops a.tmps e.on = some gb := yielded_of hoj hdj (by rw [hG.size]; exact hlt' _ _ hkj) (hleft e he hbe _ hkj)
   by_cases hgb : gb = b
   ·subst hgb
    simp only [Region.wanted, hg, hy, beq_self_eq_true, if_true]
    exact Or.inl (hdo rfl a w hG hleft _ fine)
   ·have : (some gb == some b) = false := by simpa using hgb
    simp only [Region.wanted, hg, hy, this]
    have := fine w hG.here
    rw [hu hgb] at this
    rw [hdst]
    exact this
theorem wp_region_valsq {id : Nat} {w0 : World} (S : World → Prop) (ks : List (Tmp × Value)) (D : List Tmp) (n : Nat) (hw : waitsBackQ ops = true) (hlen : ks.length = ops.size)
  (eD : ks.map (·.1) = D) (hD : D.Nodup) (hn : a0.tmps.size = n) (hlt : (D.all fun d => decide (d < n)) = true) (hS : S w0)
  (hok : ∀ i k, ks[i]? = some k → VOk P ops Q S a0 D ks i k)
  (done : ∀ w, S w → Q .normal (vfin ks a0) w) :
  (Code.region id ops false).wp P Q a0 w0 := by
 subst eD hn
 refine wp_region ?_
 rw [List.range_eq_range']
 exact vals_from hw hlen hD (fun i k hk => by simpa using List.all_eq_true.1 hlt k.1 (List.mem_map.2 ⟨k, List.mem_of_getElem? hk, rfl⟩)) hok done ops.size 0 a0 w0 (by omega) ⟨rfl, rfl, fun _ _ => rfl, hS⟩ (fun j hj => absurd hj (Nat.not_lt_zero j))
def gval (e b : Bool) (v : Value) : Value := if e = b then v else undef
theorem gval_pos {e b : Bool} {v : Value} (h : e = b) : gval e b v = v := if_pos h
theorem gval_neg {e b : Bool} {v : Value} (h : e ≠ b) : gval e b v = undef := if_neg h
theorem does_if {e b : Bool} (hc : e = b) {o : Oper} {d : Tmp} {v : Value} (h : Does P Q S a0 D ks o (d, v)) : Does P Q S a0 D ks o (d, gval e b v) := by
 rw [gval_pos hc]
 exact h
end
end Go.Proofs.YtnnmdkaoiofabaaGreat.Rf
namespace Go.Proofs.YtnnmdkaoiofabaaGreat.Rf
open Go Go.RowKit
theorem wp_val {o : Oper} {a : Act} {w : World} {K : Act → World → Prop} {Q : Exit → Act → World → Prop} {d : Tmp} {v : Value} (hd : o.dst = some d) (hrun : (execOp a.eval o).run Tryz.prog w = .ok (.value v) w) (h : K (a.put (some d) v) w) : o.wp Tryz.prog a w K Q := by
 unfold Oper.wp
 rw [hrun, Oper.upon_value, hd]
 exact h
theorem x_index {o : Oper} {a : Act} {w : World} {t : TypeId} {x ix : Operand} {vx vi v : Value} (hop : o.op = .indexAddr t x ix) (hx : a.eval x = vx) (hi : a.eval ix = vi) (hb : (Instr.indexAt t vx vi).run Tryz.prog w = .ok v w) : (execOp a.eval o).run Tryz.prog w = .ok (.value v) w := by
 simp only [execOp, hop, hx, hi, Sem.run_bind, hb, Result.andThen_ok]; rfl
end Go.Proofs.YtnnmdkaoiofabaaGreat.Rf
