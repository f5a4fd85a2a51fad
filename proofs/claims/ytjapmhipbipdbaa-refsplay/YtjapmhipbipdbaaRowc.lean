/-
  Rows of counts: one put in, one changed, one taken out; in memory and as lists.
-/
import Derived.Test.YtjapmhipbipdbaaAlike
import Derived.Maps.AppendAt
import Derived.Laws.OwnMore
import Derived.Laws.CopyRow
namespace Go.Proofs.Ytjapmhipbipdbaa
open Go Go.RowKit

/-! ## Lists -/
theorem IsAll.split {P : Int → Option Int} {xs ys : List (Int × Int)} {h v : Int} (H : IsAll P (xs ++ (h, v) :: ys)) : (∀ p ∈ xs, p.1 < h) ∧ (∀ p ∈ ys, h < p.1) := by
  have h1 := H.up
  rw [List.map_append, List.map_cons, List.pairwise_append] at h1
  refine ⟨fun p hp => h1.2.2 p.1 (List.mem_map_of_mem hp) h (by simp), fun p hp => ?_⟩
  have h2 := h1.2.1
  rw [List.pairwise_cons] at h2
  exact h2.1 p.1 (List.mem_map_of_mem hp)
theorem IsAll.rem {P : Int → Option Int} {xs ys : List (Int × Int)} {h v : Int} (H : IsAll P (xs ++ (h, v) :: ys)) : IsAll (at1 P h none) (xs ++ ys) := by
  have hs := H.split
  refine ⟨?_, fun k u => ?_⟩
  · have h1 := H.up
    rw [List.map_append, List.map_cons, List.pairwise_append] at h1
    rw [List.map_append, List.pairwise_append]
    exact ⟨h1.1, (List.pairwise_cons.1 h1.2.1).2, fun a ha b hb => h1.2.2 a ha b (List.mem_cons_of_mem _ hb)⟩
  · have hm := H.mem k u
    unfold at1
    by_cases e : k = h
    · subst e
      rw [if_pos rfl]
      constructor
      · intro hm
        rcases List.mem_append.1 hm with h1 | h1
        · have := hs.1 _ h1; simp at this
        · have := hs.2 _ h1; simp at this
      · intro h1; cases h1
    · rw [if_neg e, ← hm]
      simp [e]
theorem IsAll.ins {P : Int → Option Int} {xs ys : List (Int × Int)} {h : Int} (H : IsAll P (xs ++ ys)) (hl : ∀ p ∈ xs, p.1 < h) (hr : ∀ p ∈ ys, h < p.1) (v : Int) : IsAll (at1 P h (some v)) (xs ++ (h, v) :: ys) := by
  refine ⟨?_, fun k u => ?_⟩
  · have h1 := H.up
    rw [List.map_append, List.pairwise_append] at h1
    rw [List.map_append, List.map_cons, List.pairwise_append, List.pairwise_cons]
    refine ⟨h1.1, ⟨fun a ha => ?_, h1.2.1⟩, fun a ha b hb => ?_⟩
    · obtain ⟨p, hp, rfl⟩ := List.mem_map.1 ha
      exact hr p hp
    · obtain ⟨p, hp, rfl⟩ := List.mem_map.1 ha
      rcases List.mem_cons.1 hb with e | e
      · rw [e]; exact hl p hp
      · exact h1.2.2 _ ha b e
  · have hm := H.mem k u
    unfold at1
    by_cases e : k = h
    · subst e
      rw [if_pos rfl]
      constructor
      · intro hm
        rcases List.mem_append.1 hm with h1 | h1
        · have := hl _ h1; simp at this
        · rcases List.mem_cons.1 h1 with h2 | h2
          · rw [Prod.mk.injEq] at h2; rw [h2.2]
          · have := hr _ h2; simp at this
      · intro h1
        have := Option.some.inj h1
        subst this
        simp
    · rw [if_neg e, ← hm]
      simp [e]
theorem at1_at1 {α : Type} (P : Int → α) (k : Int) (u v : α) : at1 (at1 P k u) k v = at1 P k v := funext fun i => by unfold at1; split <;> rfl
theorem IsAll.chg {P : Int → Option Int} {xs ys : List (Int × Int)} {h v : Int} (H : IsAll P (xs ++ (h, v) :: ys)) (v' : Int) : IsAll (at1 P h (some v')) (xs ++ (h, v') :: ys) := by
  have := H.rem.ins H.split.1 H.split.2 v'
  rwa [at1_at1] at this
/-- Where a handle stands in a rising row, or would stand. -/
def Spot (cs : List (Int × Int)) (h : Int) (a : Nat) (b : Bool) : Prop :=
  (b = true ∧ ∃ xs ys v, cs = xs ++ (h, v) :: ys ∧ xs.length = a) ∨ (b = false ∧ ∃ xs ys, cs = xs ++ ys ∧ xs.length = a ∧ (∀ p ∈ xs, p.1 < h) ∧ (∀ p ∈ ys, h < p.1))
theorem spot_yes {cs : List (Int × Int)} {h v : Int} {a : Nat} (e : cs[a]? = some (h, v)) : Spot cs h a true := by
  obtain ⟨hlt, he⟩ := List.getElem?_eq_some_iff.1 e
  refine .inl ⟨rfl, cs.take a, cs.drop (a + 1), v, ?_, by simp; omega⟩
  rw [← he, List.getElem_cons_drop, List.take_append_drop]
theorem spot_no {P : Int → Option Int} {cs : List (Int × Int)} {h : Int} {a : Nat} (H : IsAll P cs) (ha : a ≤ cs.length) (hl : ∀ i p, i < a → cs[i]? = some p → p.1 < h) (hr : ∀ p, cs[a]? = some p → h < p.1) : Spot cs h a false := by
  refine .inr ⟨rfl, cs.take a, cs.drop a, (List.take_append_drop a cs).symm, by simp; omega, fun p hp => ?_, fun p hp => ?_⟩
  · obtain ⟨i, hi, e⟩ := List.mem_iff_getElem.1 hp
    have hi' : i < a := by simp at hi; omega
    refine hl i p hi' ?_
    rw [← e, List.getElem_take, List.getElem?_eq_getElem]
  · obtain ⟨i, hi, e⟩ := List.mem_iff_getElem.1 hp
    rw [List.getElem_drop] at e
    have hi' : a + i < cs.length := by simp at hi; omega
    have h1 := hr (cs[a]'(by omega)) (List.getElem?_eq_getElem _)
    by_cases e0 : i = 0
    · subst e0
      rw [← e]
      exact h1
    · have h2 := List.pairwise_iff_getElem.1 H.up a (a + i) (by simp; omega) (by simp; omega) (by omega)
      simp only [List.getElem_map] at h2
      rw [e] at h2
      omega
theorem Spot.le {cs : List (Int × Int)} {h : Int} {a : Nat} {b : Bool} (H : Spot cs h a b) : a ≤ cs.length ∧ (b = true → a < cs.length) := by
  rcases H with ⟨rfl, xs, ys, v, rfl, rfl⟩ | ⟨rfl, xs, ys, rfl, rfl, _⟩
  · simp
  · simp
theorem Spot.tells {P : Int → Option Int} {cs : List (Int × Int)} {h : Int} {a : Nat} {b : Bool} (H : Spot cs h a b) (k : IsAll P cs) : (b = true ∧ ∃ v, P h = some v) ∨ (b = false ∧ P h = none) := by
  rcases H with ⟨rfl, xs, ys, v, rfl, rfl⟩ | ⟨rfl, xs, ys, rfl, rfl, h1, h2⟩
  · exact .inl ⟨rfl, v, (k.mem h v).1 (by simp)⟩
  · refine .inr ⟨rfl, ?_⟩
    cases e : P h with
    | none => rfl
    | some v =>
      rcases List.mem_append.1 ((k.mem h v).2 e) with h3 | h3
      · have := h1 _ h3; simp at this
      · have := h2 _ h3; simp at this

/-! ## Memory -/
section
variable {w w' : World} {cap g : Nat} {ad : Option Addr} {cs xs ys : List (Int × Int)}
theorem OwnC.raw (h : OwnC w (some ⟨g, 0, none⟩) cap cs) : ∃ cur, w.heap[g]? = some (.cells cur 33 (0, 0)) ∧ cs.length ≤ cap ∧ cap ≤ maxLen ∧ cur.size = cap * 2 ∧ cur.toList.take (cs.length * 2) = cs.flatMap cV := by
  rcases h.2 with ⟨h', _⟩ | ⟨g', cap', cur, h', hb, hg, hnc, hcm, hcs, htake⟩
  · simp at h'
  · simp only [Value.slice.injEq, Option.some.injEq, Addr.mk.injEq, and_true, true_and] at h'
    obtain ⟨rfl, rfl⟩ := h'
    exact ⟨cur, hg, hnc, hcm, hcs, htake⟩
theorem OwnC.of_raw {cur : Array Value} (h : w.heap[g]? = some (.cells cur 33 (0, 0))) (h1 : cs.length ≤ cap) (h2 : cap ≤ maxLen) (h3 : cur.size = cap * 2) (h4 : cur.toList.take (cs.length * 2) = cs.flatMap cV) : OwnC w (some ⟨g, 0, none⟩) cap cs :=
  ⟨by rw [flat_len], .inr ⟨g, cap, cur, rfl, Nat.zero_le _, h, h1, h2, h3, h4⟩⟩
theorem OwnC.frozen (h : OwnC w (some ⟨g, 0, none⟩) cap cs) (j : Nat) : w.frozen? ⟨g, j, none⟩ = false := World.ownsRow.frozenAt h j
theorem went_of_stored {j : Nat} {u : Value} (h : w.grownBy (w.setCell ⟨g, j, none⟩ u) (some g)) : Went (At (some ⟨g, 0, none⟩)) w (w.setCell ⟨g, j, none⟩ u) :=
  ⟨h.os, h.tape, h.output, h.size, fun k hk hA => h.block k hk fun e => hA ⟨_, rfl, by injection e with e; exact e.symm⟩⟩
/-- The number of one is turned. -/
theorem OwnC.setN {k v v' : Int} {a : Nat} (h : OwnC w (some ⟨g, 0, none⟩) cap (xs ++ (k, v) :: ys)) (ha : xs.length = a) : OwnC (w.setCell ⟨g, a * 2 + 1, none⟩ (.int .i64 v')) (some ⟨g, 0, none⟩) cap (xs ++ (k, v') :: ys) ∧ Went (At (some ⟨g, 0, none⟩)) w (w.setCell ⟨g, a * 2 + 1, none⟩ (.int .i64 v')) := by
  have := World.ownsRow.stored h (a * 2 + 1) (.int .i64 v')
  refine ⟨?_, went_of_stored this.2⟩
  have h1 := this.1
  unfold OwnC
  have e : ((xs ++ (k, v) :: ys).flatMap cV).set (a * 2 + 1) (.int .i64 v') = (xs ++ (k, v') :: ys).flatMap cV := by
    subst ha
    rw [List.flatMap_append, List.flatMap_append, List.flatMap_cons, List.flatMap_cons, List.set_append_right _ _ (by rw [flat_len]; omega), flat_len, show xs.length * 2 + 1 - xs.length * 2 = 1 by omega]
    rfl
  rw [e] at h1
  have el : (xs ++ (k, v') :: ys).length = (xs ++ (k, v) :: ys).length := by simp
  rw [el]
  exact h1
/-- One is set. -/
theorem OwnC.setP {x : Int × Int} {k v : Int} {a : Nat} (h : OwnC w (some ⟨g, 0, none⟩) cap (xs ++ x :: ys)) (ha : xs.length = a) : OwnC ((w.setCell ⟨g, a * 2, none⟩ (.int .u32 k)).setCell ⟨g, a * 2 + 1, none⟩ (.int .i64 v)) (some ⟨g, 0, none⟩) cap (xs ++ (k, v) :: ys) ∧ Went (At (some ⟨g, 0, none⟩)) w ((w.setCell ⟨g, a * 2, none⟩ (.int .u32 k)).setCell ⟨g, a * 2 + 1, none⟩ (.int .i64 v)) := by
  have h1 := World.ownsRow.stored h (a * 2) (.int .u32 k)
  have h2 := World.ownsRow.stored h1.1 (a * 2 + 1) (.int .i64 v)
  refine ⟨?_, (went_of_stored h1.2).trans (went_of_stored h2.2)⟩
  have h3 := h2.1
  have e : (((xs ++ x :: ys).flatMap cV).set (a * 2) (.int .u32 k)).set (a * 2 + 1) (.int .i64 v) = (xs ++ (k, v) :: ys).flatMap cV := by
    subst ha
    rw [List.flatMap_append, List.flatMap_append, List.flatMap_cons, List.flatMap_cons, List.set_append_right _ _ (by rw [flat_len]; omega), flat_len, List.set_append_right _ _ (by rw [flat_len]; omega), flat_len, show xs.length * 2 + 1 - xs.length * 2 = 1 by omega, Nat.sub_self]
    rfl
  rw [e] at h3
  unfold OwnC
  have el : (xs ++ (k, v) :: ys).length = (xs ++ x :: ys).length := by simp
  rw [el]
  exact h3
/-- The tail is moved one place up. -/
theorem copy_c {q : Int × Int} (h : OwnC w (some ⟨g, 0, none⟩) cap (xs ++ ys ++ [q])) {D : Addr} {a n1 n2 c1 c2 : Nat} (ha : xs.length = a) (hD : 0 < ys.length → D = ⟨g, (a + 1) * 2, none⟩) (h1 : n1 = ys.length) (h2 : n2 = ys.length + 1) :
    ∃ w' x, (∀ ty, (Builtin.copy_ #[26, 26] ty #[.slice (some D) n1 c1, .slice (some ⟨g, a * 2, none⟩) n2 c2]).run Try.prog w = .ok (goInt n1) w') ∧ OwnC w' (some ⟨g, 0, none⟩) cap (xs ++ x :: ys) ∧ Went (At (some ⟨g, 0, none⟩)) w w' := by
  obtain ⟨i, hi, hz, hsz, hby⟩ := info33
  obtain ⟨cur, hg, hnc, hcm, hsize, htake⟩ := h.raw
  subst ha h1 h2
  have hl : ∀ (a : Addr) (w : World), (loadCells a 0).run Try.prog w = .ok #[] w := fun a w => rfl
  have hst0 : ∀ (a : Addr) (w : World), (storeCells a []).run Try.prog w = .ok () w := fun a w => rfl
  by_cases hy : ys = []
  · subst hy
    refine ⟨w, q, fun ty => ?_, by simpa using h, Went.refl _ _⟩
    simp [Builtin.copy_, run_underlying Try.underlying26, Builtin.lenOf, Builtin.firstCells, sizeOf, typeInfo, hi, hl, hst0]
  · have hpos : 0 < ys.length := List.length_pos_iff.2 hy
    have hDD := hD hpos
    subst hDD
    have hlen : (xs ++ ys ++ [q]).length = xs.length + ys.length + 1 := by simp; omega
    rw [hlen] at hnc htake
    have hvl := flat_len ys
    have hload := run_loadCells_list (P := Try.prog) w ⟨g, xs.length * 2, none⟩ (ys.flatMap cV) (fun j v hj => by
      have hjl := (List.getElem?_eq_some_iff.1 hj).1
      rw [Addr.add_lit]
      have hc := World.ownsRow.cellAt h (xs.length * 2 + j) (by rw [hlen]; omega)
      rw [hc, List.flatMap_append, List.flatMap_append, List.append_assoc, List.getElem?_append_right (by rw [flat_len]; omega), flat_len, show xs.length * 2 + j - xs.length * 2 = j by omega, List.getElem?_append_left (by omega)]
      exact hj)
    have hstore := run_storeCells_at Try.prog g ((xs.length + 1) * 2) 33 (ys.flatMap cV) 0 cur w hg (by rw [hvl]; omega) (fun u hu => by
      obtain ⟨p, hp, hu⟩ := List.mem_flatMap.1 hu
      simp only [cV, List.mem_cons, List.not_mem_nil, or_false] at hu
      rcases hu with rfl | rfl <;> rfl)
    rw [hvl] at hload
    have htk : cur.toList.take ((xs.length + 1) * 2) = xs.flatMap cV ++ ((ys ++ [q]).flatMap cV).take 2 := by
      have := congrArg (List.take ((xs.length + 1) * 2)) htake
      rw [List.take_take, show min ((xs.length + 1) * 2) ((xs.length + ys.length + 1) * 2) = (xs.length + 1) * 2 by omega, List.append_assoc, List.flatMap_append, List.take_append, flat_len, show (xs.length + 1) * 2 - xs.length * 2 = 2 by omega, List.take_of_length_le (l := xs.flatMap cV) (by rw [flat_len]; omega)] at this
      exact this
    obtain ⟨x, ys', hx⟩ : ∃ x ys', ys ++ [q] = x :: ys' := by
      cases ys with
      | nil => exact ⟨q, [], rfl⟩
      | cons y ys => exact ⟨y, ys ++ [q], rfl⟩
    rw [hx] at htk
    have h2 : ((x :: ys').flatMap cV).take 2 = cV x := rfl
    rw [h2] at htk
    refine ⟨w.setRow g (cur.toList.take ((xs.length + 1) * 2) ++ ys.flatMap cV ++ cur.toList.drop ((xs.length + 1) * 2 + (ys.flatMap cV).length)).toArray, x, fun ty => ?_, OwnC.of_raw (setRow_heap w g cur _ 33 (0, 0) hg) (by simp; omega) hcm ?_ ?_, ⟨rfl, rfl, rfl, by simp [World.setRow], fun k hk hA => setRow_other w g k _ fun e => hA ⟨_, rfl, e.symm⟩⟩⟩
    · have hmin : min (ys.length + 1) ys.length = ys.length := by omega
      simp only [Nat.add_zero] at hstore
      simp [Builtin.copy_, run_underlying Try.underlying26, Builtin.lenOf, Builtin.firstCells, sizeOf, typeInfo, hi, hsz, hmin, hload, hstore]
    · have hct : cur.toList.length = cap * 2 := by rw [Array.length_toList]; exact hsize
      show (_ ++ _ ++ _ : List Value).length = _
      simp only [List.length_append, List.length_take, List.length_drop, hvl, hct]
      omega
    · have e1 : (xs ++ x :: ys).length * 2 = (xs.flatMap cV ++ cV x ++ ys.flatMap cV).length := by simp only [List.length_append, List.length_cons, flat_len, show (cV x).length = 2 from rfl]; omega
      rw [e1, htk]
      rw [List.take_append_of_le_length (by simp), List.take_length]
      simp
/-- One is left out: the two appends. -/
theorem ownC_of {base : Nat} {v : Value} {n : Nat} {l : List (Int × Int)} (h : w.ownsRow base 33 2 v n (l.flatMap cV)) (hn : n = l.length) : ∃ ad cap, v = .slice ad n cap ∧ OwnC w ad cap l ∧ ∀ k, At ad k → base ≤ k := by
  subst hn
  obtain ⟨h1, h2⟩ := h
  rcases h2 with ⟨rfl, h3⟩ | ⟨g, cap, cur, rfl, hb, hg, r⟩
  · refine ⟨none, 0, by rw [h3], ⟨h1, .inl ⟨by rw [h3], h3⟩⟩, fun k hk => ?_⟩
    obtain ⟨a, ha, _⟩ := hk
    cases ha
  · refine ⟨some ⟨g, 0, none⟩, cap, rfl, ⟨h1, .inr ⟨g, cap, cur, rfl, Nat.zero_le _, hg, r⟩⟩, fun k hk => ?_⟩
    obtain ⟨a, ha, rfl⟩ := hk
    cases ha
    exact hb
theorem ones {l : List (Int × Int)} : ∀ u ∈ l.flatMap cV, u.oneCell' = true := fun u hu => by
  obtain ⟨p, hp, hu⟩ := List.mem_flatMap.1 hu
  simp only [cV, List.mem_cons, List.not_mem_nil, or_false] at hu
  rcases hu with rfl | rfl <;> rfl
theorem del_c {p : Int × Int} (h : OwnC w (some ⟨g, 0, none⟩) cap (xs ++ p :: ys)) {A : Addr} {a n1 n2 c : Nat} (ha : xs.length = a) (hA : 0 < ys.length → A = ⟨g, (a + 1) * 2, none⟩) (h1 : n1 = ys.length) (h2 : n2 = xs.length + ys.length) (hn : xs.length + ys.length ≤ 1000000) :
    ∃ ad1 cap1 w1 ad2 cap2 w2, (Builtin.append_ #[26, 26] 26 #[.slice none 0 0, .slice (some ⟨g, 0, none⟩) a cap]).run Try.prog w = .ok (.slice ad1 a cap1) w1 ∧
      (Builtin.append_ #[26, 26] 26 #[.slice ad1 a cap1, .slice (some A) n1 c]).run Try.prog w1 = .ok (.slice ad2 n2 cap2) w2 ∧
      OwnC w2 ad2 cap2 (xs ++ ys) ∧ (∀ k, At ad2 k → w.heap.size ≤ k) ∧ Below w.heap.size w w2 := by
  obtain ⟨i, hi, hz, hsz, hby⟩ := info33
  subst ha h1 h2
  have hlen : (xs ++ p :: ys).length = xs.length + ys.length + 1 := by simp; omega
  obtain ⟨v1, w1, r1, o1, g1, _, _⟩ := run_append_own_at (P := Try.prog) w w.heap.size 26 26 33 i _ 2 16 Try.underlying26 hi hz hsz hby (by kernel_rfl) (by decide) (.slice none 0 0) 0 [] (World.ownsRow_nil w w.heap.size 33 2) ⟨g, 0, none⟩ xs.length cap (xs.flatMap cV) (flat_len xs) (fun j u hj => by
    have hjl := (List.getElem?_eq_some_iff.1 hj).1
    rw [flat_len] at hjl
    rw [Addr.add_lit]
    rw [World.ownsRow.cellAt h (0 + j) (by rw [hlen]; omega), List.flatMap_append, Nat.zero_add, List.getElem?_append_left (by rw [flat_len]; omega)]
    exact hj) ones (by simp only [maxLen]; omega) (by omega) (Nat.le_refl _)
  rw [List.nil_append] at o1
  have b1 : Below w.heap.size w w1 := ⟨g1.os, g1.tape, g1.output, g1.size, fun k hk => g1.block k hk (by simp [Value.ownBlock])⟩
  rw [Nat.zero_add] at o1
  have o1' := o1
  obtain ⟨ad1, cap1, rfl, oc1, n1⟩ := ownC_of o1' rfl
  have hgk : w1.heap[g]? = w.heap[g]? := b1.block g (h.block g ⟨_, rfl, rfl⟩)
  have hk1 : OwnC w1 (some ⟨g, 0, none⟩) cap (xs ++ p :: ys) := h.kept fun b hb => by obtain ⟨a, ha, rfl⟩ := hb; cases ha; exact hgk
  obtain ⟨v2, w2, r2, o2, g2, _, _⟩ := run_append_own_at (P := Try.prog) w1 w.heap.size 26 26 33 i _ 2 16 Try.underlying26 hi hz hsz hby (by kernel_rfl) (by decide) (.slice ad1 xs.length cap1) xs.length (xs.flatMap cV) o1 A ys.length c (ys.flatMap cV) (flat_len ys) (fun j u hj => by
    have hjl := (List.getElem?_eq_some_iff.1 hj).1
    rw [flat_len] at hjl
    rw [hA (by omega), Addr.add_lit]
    rw [World.ownsRow.cellAt hk1 ((xs.length + 1) * 2 + j) (by rw [hlen]; omega), List.flatMap_append, List.flatMap_cons, List.getElem?_append_right (by rw [flat_len]; omega), flat_len, show (xs.length + 1) * 2 + j - xs.length * 2 = j + 2 by omega]
    exact hj) ones (by simp only [maxLen]; omega) (by omega) b1.size
  rw [← List.flatMap_append] at o2
  obtain ⟨ad2, cap2, rfl, oc2, n2⟩ := ownC_of o2 (by simp)
  refine ⟨ad1, cap1, w1, ad2, cap2, w2, r1, r2, oc2, n2, ⟨g2.os.trans b1.os, g2.tape.trans b1.tape, g2.output.trans b1.output, Nat.le_trans b1.size g2.size, fun k hk => ?_⟩⟩
  rw [g2.block k (Nat.lt_of_lt_of_le hk b1.size) fun e => ?_, b1.block k hk]
  have := n1 k (at_of_own e)
  omega
end
end Go.Proofs.Ytjapmhipbipdbaa
