/-
  A store's words laid into its cleared table anew, one behind the other: what holds, without a memory and in it.
-/
import Derived.Test.YtlmbofbdncgaiaaGreatMkC
namespace Go.Proofs.YtlmbofbdncgaiaaGreat.Mk
open Go Go.RowKit

/-- A map cleared. -/
theorem map_clear {w : World} {b : Nat} {P : Int → Option Int} (h : IsMap w b P) :
    ∃ w', (∀ ty, (Builtin.clear_ #[84] ty #[.map (some b)]).run Tryz.prog w = .ok (.tuple #[]) w') ∧ IsMap w' b (fun _ => none) ∧ Turned b w w' := by
  obtain ⟨es, clock, l, hb, k⟩ := h
  refine ⟨{ w with heap := w.heap.setIfInBounds b (.map #[] clock) }, fun ty => ?_, ⟨#[], clock, [], heap_now hb, rfl, by simp, fun _ => rfl⟩, heap_turn⟩
  simp only [Builtin.clear_, List.getElem?_toArray, List.getElem?_cons_zero, Sem.run_bind, run_underlying Tryz.underlying84, Result.andThen_ok, MapKept.run_getObj_map hb, MapKept.run_setObj_map _ hb, Sem.run_pure]

theorem len_sub : ∀ {a b : List Nat}, a.Nodup → (∀ x ∈ a, x ∈ b) → a.length ≤ b.length
  | [], _, _, _ => Nat.zero_le _
  | x :: a, b, hn, h => by
    have hx : x ∈ b := h x (by simp)
    have hxa : x ∉ a := (List.nodup_cons.1 hn).1
    have := len_sub (a := a) (b := b.erase x) (List.nodup_cons.1 hn).2 fun y hy => (List.mem_erase_of_ne (show y ≠ x from fun e => hxa (e ▸ hy))).2 (h y (by simp [hy]))
    rw [List.length_erase_of_mem hx] at this
    have : 0 < b.length := List.length_pos_of_mem hx
    simp only [List.length_cons]
    omega
/-- How many words there are among those of pre. -/
def cntP (W : Nat) (wd : Nat → Int) (pre : List Nat) : Nat := ((List.range W).filter fun i => decide (i ∈ pre ∧ ¬ wd i = 0)).length
theorem filter_one : ∀ (l : List Nat) (p : Nat → Bool) (x : Nat), l.Nodup → x ∈ l → p x = false → (l.filter fun i => p i || decide (i = x)).length = (l.filter p).length + 1
  | [], _, _, _, h, _ => absurd h List.not_mem_nil
  | a :: l, p, x, hn, hx, hp => by
    have hl := (List.nodup_cons.1 hn).2
    have ha := (List.nodup_cons.1 hn).1
    by_cases e : a = x
    · subst e
      rw [List.filter_cons_of_pos (by simp), List.filter_cons_of_neg (by simp [hp]), List.length_cons]
      congr 2
      refine List.filter_congr fun i hi => ?_
      have : i ≠ a := fun q => ha (q ▸ hi)
      simp [this]
    · have hx' : x ∈ l := (List.mem_cons.1 hx).resolve_left fun q => e q.symm
      have ih := filter_one l p x hl hx' hp
      by_cases c : p a = true
      · rw [List.filter_cons_of_pos (by simp [c]), List.filter_cons_of_pos c, List.length_cons, List.length_cons, ih]
      · rw [List.filter_cons_of_neg (by simp [c, e]), List.filter_cons_of_neg c, ih]
theorem cntP_new {W : Nat} {wd : Nat → Int} {pre : List Nat} {i : Nat} (hi : i < W) (hz : ¬ wd i = 0) (hn : i ∉ pre) : cntP W wd (pre ++ [i]) = cntP W wd pre + 1 := by
  unfold cntP
  rw [← filter_one (List.range W) (fun j => decide (j ∈ pre ∧ ¬ wd j = 0)) i List.nodup_range (List.mem_range.2 hi) (by simp [hn])]
  congr 1
  refine List.filter_congr fun j _ => ?_
  by_cases e : j = i
  · subst e; simp [hz]
  · simp [e]
theorem cntP_old {W : Nat} {wd : Nat → Int} {pre : List Nat} {i : Nat} (h : i ∈ pre ∨ wd i = 0) : cntP W wd (pre ++ [i]) = cntP W wd pre := by
  unfold cntP
  congr 1
  refine List.filter_congr fun j _ => ?_
  by_cases e : j = i
  · subst e
    rcases h with h | h
    · simp [h]
    · simp [h]
  · simp [e]
theorem cntP_le (W : Nat) (wd : Nat → Int) (pre : List Nat) : cntP W wd pre ≤ W := by
  unfold cntP
  have := List.length_filter_le (fun i => decide (i ∈ pre ∧ ¬ wd i = 0)) (List.range W)
  rwa [List.length_range] at this

/-- What the words are. -/
structure Wds (W : Nat) (wd : Nat → Int) : Prop where
  fit : ∀ i, i < W → 0 ≤ wd i ∧ wd i ≤ 18446744073709551615
  one : ∀ i j, i < W → j < W → ¬ wd i = 0 → wd i = wd j → i = j

/-- What holds when those of pre have been laid. -/
structure RpP (W room lines : Nat) (wd : Nat → Int) (pre : List Nat) (c : Nat → Int) (fr : List Nat) (nm : Int → Option Int) : Prop where
  fit : Ch.U64 c
  zero : ∀ j, j < lines → c (2 * room + 4 * j + 1) = 0
  good : Tb.Good (2 * room) c
  tab : ∀ s, s < 2 * room → ¬ c s = 0 → ∃ i, i ∈ pre ∧ i < W ∧ c s = wd i ∧ nm (s : Int) = some ((i + 2 : Nat) : Int)
  all : ∀ i, i ∈ pre → i < W → ¬ wd i = 0 → ∃ s, s < 2 * room ∧ c s = wd i
  cnt : Tb.cnt c (2 * room) = cntP W wd pre
  fr : fr = (pre.filter fun i => decide (wd i = 0)).map (· + 2)
section
variable {W room lines : Nat} {wd : Nat → Int} {pre : List Nat} {c : Nat → Int} {fr : List Nat} {nm : Int → Option Int}
theorem RpP.start (c : Nat → Int) (fit : Ch.U64 c) (z : ∀ j, j < lines → c (2 * room + 4 * j + 1) = 0) (t : ∀ s, s < 2 * room → c s = 0) (r1 : 1 ≤ room) : RpP W room lines wd [] c [] (fun _ => none) := by
  have pl : ∀ (k : Int) j, Tb.place (2 * room) k j < 2 * room := fun k j => Tb.place_lt k j (by omega)
  refine ⟨fit, z, fun k j hk hj e i hi => ?_, fun s hs h => absurd (t s hs) h, fun i hi => absurd hi List.not_mem_nil, ?_, rfl⟩
  · rw [t _ (pl k j)] at e
    exact absurd e.symm hk
  · rw [Tb.cnt_congr _ t]
    have : cntP W wd [] = 0 := by simp [cntP]
    rw [this]
    exact Tb.cnt_zero _
theorem RpP.free (p : RpP W room lines wd pre c fr nm) {i : Nat} (hz : wd i = 0) : RpP W room lines wd (pre ++ [i]) c (fr ++ [i + 2]) nm := by
  refine ⟨p.fit, p.zero, p.good, fun s hs h => ?_, fun j hj hjW hz' => ?_, ?_, ?_⟩
  · obtain ⟨j, hj, r⟩ := p.tab s hs h
    exact ⟨j, List.mem_append.2 (.inl hj), r⟩
  · rcases List.mem_append.1 hj with hj | hj
    · exact p.all j hj hjW hz'
    · simp at hj
      exact absurd (hj ▸ hz) hz'
  · rw [p.cnt, cntP_old (.inr hz)]
  · rw [p.fr, List.filter_append, List.map_append]
    simp [hz]
theorem RpP.laid (p : RpP W room lines wd pre c fr nm) (wds : Wds W wd) {i s : Nat} (hi : i < W) (hz : ¬ wd i = 0) (hs : s < 2 * room) (h0 : (c s = 0 ∧ ∀ t, t < 2 * room → ¬ c t = wd i) ∨ c s = wd i) {c' : Nat → Int} (hc : ∀ j, j < 2 * room → c' j = upd c s (wd i) j) (hh : ∀ j, 2 * room ≤ j → c' j = c j) (good : Tb.Good (2 * room) c') : RpP W room lines wd (pre ++ [i]) c' fr (at1 nm (s : Int) (some ((i + 2 : Nat) : Int))) := by
  have css : c' s = wd i := by rw [hc s hs, Tb.upd_same]
  have cs : ∀ j, j < 2 * room → j ≠ s → c' j = c j := fun j hj e => by rw [hc j hj, Tb.upd_other _ _ e]
  refine ⟨fun j => ?_, fun j hj => ?_, good, fun j hj e => ?_, fun j hj hjW hz' => ?_, ?_, ?_⟩
  · by_cases q : j < 2 * room
    · by_cases e : j = s
      · rw [e, css]; exact wds.fit i hi
      · rw [cs j q e]; exact p.fit j
    · rw [hh j (by omega)]; exact p.fit j
  · rw [hh _ (by omega)]; exact p.zero j hj
  · by_cases ej : j = s
    · subst ej
      exact ⟨i, by simp, hi, css, by unfold at1; rw [if_pos rfl]⟩
    · rw [cs j hj ej] at e
      obtain ⟨y, hy, hyW, e1, e2⟩ := p.tab j hj e
      exact ⟨y, List.mem_append.2 (.inl hy), hyW, by rw [cs j hj ej]; exact e1, by unfold at1; rw [if_neg (by omega), e2]⟩
  · rcases List.mem_append.1 hj with hj | hj
    · obtain ⟨t, ht, e⟩ := p.all j hj hjW hz'
      by_cases ts : t = s
      · refine ⟨s, hs, ?_⟩
        rw [css]
        rcases h0 with ⟨h0, _⟩ | h0
        · rw [ts, h0] at e; exact absurd e.symm hz'
        · rw [← e, ts, h0]
      · exact ⟨t, ht, by rw [cs t ht ts]; exact e⟩
    · simp at hj
      subst hj
      exact ⟨s, hs, css⟩
  · rcases h0 with ⟨h0, no⟩ | h0
    · have hn : i ∉ pre := fun q => by
        obtain ⟨t, ht, e⟩ := p.all i q hi hz
        exact no t ht e
      rw [Tb.cnt_congr _ hc, Tb.cnt_upd _ hs h0 hz, p.cnt, cntP_new hi hz hn]
    · have hm : i ∈ pre := by
        obtain ⟨y, hy, hyW, e1, _⟩ := p.tab s hs (by rw [h0]; exact hz)
        have := wds.one i y hi hyW hz (by rw [← h0, e1])
        exact this ▸ hy
      rw [cntP_old (.inl hm), ← p.cnt]
      refine Tb.cnt_congr _ fun j hj => ?_
      by_cases e : j = s
      · rw [e, css, h0]
      · exact cs j hj e
  · rw [p.fr, List.filter_append, List.map_append]
    simp [hz]
end
theorem downL_mem {n x : Nat} : x ∈ downL n n ↔ x < n := by
  unfold downL
  rw [List.mem_map]
  constructor
  · rintro ⟨i, hi, rfl⟩
    have := List.mem_range.1 hi
    omega
  · intro h
    exact ⟨n - 1 - x, List.mem_range.2 (by omega), by omega⟩
theorem downL_fall (n : Nat) : (downL n n).Pairwise (· > ·) := by
  unfold downL
  rw [List.pairwise_map]
  refine List.Pairwise.imp_of_mem ?_ List.pairwise_lt_range
  intro a b ha hb h
  have := List.mem_range.1 ha
  have := List.mem_range.1 hb
  omega
/-- All laid: what a store must hold. -/
theorem RpP.full {M : Mdl} {I : Ins} {fr : List Nat} {nm : Int → Option Int} {c : Nat → Int} (o : M.Ok) (inv : ∀ i, i < M.n → I.l (M.v i) = i) (r1 : 1 ≤ M.room) (r2 : M.room ≤ 32768) (l1 : 1 ≤ I.lines) (l2 : I.lines ≤ 1024) (wide : I.W ≤ M.room) (top : ∀ x ∈ M.hs, x < 2 + I.W) (wd : ∀ i, i < I.W → I.wd i = M.wz (i + 2)) (hc : I.c = c) (hfr : I.fr = fr) (hnm : I.nm = nm) (p : RpP I.W M.room I.lines I.wd (downL I.W I.W) c fr nm) : Pu M I := by
  subst hc hfr hnm
  have bd : ∀ x ∈ M.hs, 0 < ndZ (M.nd x) := fun x hx => nodeZ_pos (Mdl.isNode_lt o (o.lo _ hx).1) (Mdl.isNode_lt o (o.hi _ hx).1) (o.ne _ hx)
  have at2 : ∀ i, i < I.W → (¬ I.wd i = 0 ↔ i + 2 ∈ M.hs) := fun i hi => by
    rw [wd i hi]
    by_cases m : i + 2 ∈ M.hs
    · rw [Mdl.wz_in m]
      exact ⟨fun _ => m, fun _ => by have := bd _ m; omega⟩
    · rw [Mdl.wz_no m]
      exact ⟨fun h => absurd rfl h, fun h => absurd h m⟩
  have frs : ∀ x, x ∈ I.fr ↔ 2 ≤ x ∧ x < 2 + I.W ∧ x ∉ M.hs := fun x => by
    rw [p.fr, List.mem_map]
    constructor
    · rintro ⟨i, hi, rfl⟩
      rw [List.mem_filter, downL_mem] at hi
      obtain ⟨h1, h2⟩ := hi
      have h2 : I.wd i = 0 := by simpa using h2
      exact ⟨by omega, by omega, fun q => (at2 i h1).2 q h2⟩
    · rintro ⟨h1, h2, h3⟩
      obtain ⟨i, rfl⟩ : ∃ i, x = i + 2 := ⟨x - 2, by omega⟩
      refine ⟨i, List.mem_filter.2 ⟨downL_mem.2 (by omega), ?_⟩, rfl⟩
      have : I.wd i = 0 := Classical.byContradiction fun q => h3 ((at2 i (by omega)).1 q)
      simpa using this
  have hlen : cntP I.W I.wd (downL I.W I.W) = M.hs.length := by
    unfold cntP
    have e : M.hs.length = (M.hs.map fun x => x - 2).length := by rw [List.length_map]
    rw [e]
    refine Nat.le_antisymm (len_sub (List.nodup_range.filter _) fun i hi => ?_) (len_sub ?_ fun i hi => ?_)
    · rw [List.mem_filter] at hi
      have h1 := List.mem_range.1 hi.1
      have h2 : i ∈ downL I.W I.W ∧ ¬ I.wd i = 0 := by simpa using hi.2
      exact List.mem_map.2 ⟨i + 2, (at2 i h1).1 h2.2, by omega⟩
    · show List.Pairwise _ _
      rw [List.pairwise_map]
      refine List.Pairwise.imp_of_mem ?_ o.sorted
      intro a b ha hb h
      have := (o.range a ha).1
      have := (o.range b hb).1
      omega
    · obtain ⟨x, hx, rfl⟩ := List.mem_map.1 hi
      have h1 := (o.range x hx).1
      have h2 := top x hx
      rw [List.mem_filter]
      refine ⟨List.mem_range.2 (by omega), ?_⟩
      have h3 : ¬ I.wd (x - 2) = 0 := (at2 (x - 2) (by omega)).2 (by rw [show x - 2 + 2 = x by omega]; exact hx)
      simp [h3, downL_mem]
      omega
  refine ⟨o, inv, r1, r2, l1, l2, wide, top, wd, ?_, frs, ?_, p.fit, p.good, fun s hs h => ?_, fun x hx => ?_, by rw [p.cnt, hlen], fun key k0 k1 hk => ?_⟩
  · rw [p.fr, List.pairwise_map]
    exact ((downL_fall I.W).filter _).imp fun h => by omega
  · rw [← hlen, p.fr, List.length_map]
    unfold cntP
    have h1 : ((downL I.W I.W).filter fun i => decide (I.wd i = 0)).length = ((List.range I.W).filter fun i => decide (I.wd i = 0)).length :=
      Nat.le_antisymm (len_sub (((downL_fall I.W).imp fun h => by omega : (downL I.W I.W).Nodup).filter _) fun i hi => by
        rw [List.mem_filter] at hi ⊢
        exact ⟨List.mem_range.2 (downL_mem.1 hi.1), hi.2⟩) (len_sub (List.nodup_range.filter _) fun i hi => by
        rw [List.mem_filter] at hi ⊢
        exact ⟨downL_mem.2 (List.mem_range.1 hi.1), hi.2⟩)
    rw [h1]
    have h2 : ∀ l : List Nat, (∀ i ∈ l, i ∈ downL I.W I.W) → (l.filter fun i => decide (i ∈ downL I.W I.W ∧ ¬ I.wd i = 0)).length + (l.filter fun i => decide (I.wd i = 0)).length = l.length := fun l => by
      induction l with
      | nil => intro _; rfl
      | cons a l ih =>
        intro hl
        have := ih fun i hi => hl i (List.mem_cons_of_mem _ hi)
        have ha := hl a (by simp)
        by_cases z : I.wd a = 0
        · rw [List.filter_cons_of_neg (by simp [z]), List.filter_cons_of_pos (by simp [z]), List.length_cons, List.length_cons]
          omega
        · rw [List.filter_cons_of_pos (by simp [z, ha]), List.filter_cons_of_neg (by simp [z]), List.length_cons, List.length_cons]
          omega
    rw [h2 _ fun i hi => downL_mem.2 (List.mem_range.1 hi), List.length_range]
  · obtain ⟨i, hi, hiW, e1, e2⟩ := p.tab s hs h
    have m := (at2 i hiW).1 (by rw [← e1]; exact h)
    exact ⟨i + 2, m, by rw [e1, wd i hiW, Mdl.wz_in m], e2⟩
  · have h1 := (o.range x hx).1
    have h2 := top x hx
    obtain ⟨i, rfl⟩ : ∃ i, x = i + 2 := ⟨x - 2, by omega⟩
    obtain ⟨s, hs, e⟩ := p.all i (downL_mem.2 (by omega)) (by omega) ((at2 i (by omega)).2 hx)
    exact ⟨s, hs, by rw [e, wd i (by omega), Mdl.wz_in hx]⟩
  · exfalso
    obtain ⟨h0, _, h2, _⟩ := hk
    have e := p.zero (home key I.lines) (home_lt key l1)
    rw [show Ch.line (2 * M.room) I.lines key = 2 * M.room + 4 * home key I.lines from rfl] at h0 h2
    rw [e] at h2
    exact h0 (h2.symm.trans (by simp [Ch.hi]))
end Go.Proofs.YtlmbofbdncgaiaaGreat.Mk
