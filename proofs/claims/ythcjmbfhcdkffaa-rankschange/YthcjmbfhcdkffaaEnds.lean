/-
  A pair is laid at the row's end, or taken from it: the row and the map.
-/
import Derived.Test.YthcjmbfhcdkffaaQ
import Derived.Deep.RegionLaw
namespace Go.Proofs.Ythcjmbfhcdkffaa
open Go Go.RowKit

/-- The queue's blocks behind a call: those of before, or new ones; all others are as they were. -/
structure Went (S S' : Nat → Prop) (w w' : World) : Prop where
  moved : Moved S w w'
  new : ∀ k, S' k → S k ∨ w.heap.size ≤ k
theorem Went.trans {S T U : Nat → Prop} {a b c : World} (h : Went S T a b) (k : Went T U b c) : Went S U a c :=
  ⟨h.moved.then_ k.moved h.new, fun i hi => by
    rcases k.new i hi with t | t
    · exact h.new i t
    · exact .inr (Nat.le_trans h.moved.size t)⟩
theorem Went.same {S : Nat → Prop} {w w' : World} (h : Moved S w w') : Went S S w w' := ⟨h, fun _ hk => .inl hk⟩

/-- An append whose run is known, as one step of a statement that draws its order. -/
theorem step_append {ops : Array Oper} {o : Oper} {a : Act} {w w' : World} {K : Act → World → Prop} {Q : Exit → Act → World → Prop} {E : Prop}
    (hg : o.guard = none) (s x : Operand) (hop : o.op = Op.call { callee := Callee.builtin Builtin.append, args := #[s, x], argTypes := #[26, 26] })
    (v u r : Value) (hs : a.eval s = v) (hx : a.eval x = u) (hrun : (Builtin.append_ #[26, 26] o.type #[v, u]).run Try.prog w = .ok r w')
    (hK : K (a.put o.dst r) w') :
    if Region.wanted o (yielded ops a.tmps) = true then Oper.wp Try.prog o a w K Q else E := by
  have hw : Region.wanted o (yielded ops a.tmps) = true := by simp [Region.wanted, hg]
  rw [if_pos hw]
  unfold Oper.wp
  simp [execOp, hop, resolve, invoke, builtin, hs, hx, hrun, Result.andThen]
  exact hK
/-- The same in a statement of one order. -/
theorem list_append {ops : Array Oper} {rest : List Oper} {o : Oper} {a : Act} {w w' : World} {Q : Exit → Act → World → Prop} (hg : o.guard = none) (s x : Operand)
    (hop : o.op = Op.call { callee := Callee.builtin Builtin.append, args := #[s, x], argTypes := #[26, 26] })
    (v u r : Value) (hs : a.eval s = v) (hx : a.eval x = u) (hrun : (Builtin.append_ #[26, 26] o.type #[v, u]).run Try.prog w = .ok r w')
    (hK : wpList Try.prog ops Q rest (a.put o.dst r) w') : wpList Try.prog ops Q (o :: rest) a w := by
  refine wpList_plain hg fun K hK' => ?_
  unfold Oper.wp
  simp [execOp, hop, resolve, invoke, builtin, hs, hx, hrun, Result.andThen]
  exact hK' _ _ hK

theorem append_pair {w : World} {ad : Option Addr} {n cap : Nat} {I : Nat → Int × Int} (h : OwnP w ad n cap I) {B : Nat} (hB : Blk ad fun b => B ≤ b) (hBw : B ≤ w.heap.size) (hn : n ≤ 1000000)
    (blk : Nat) (x : Int × Int) (hx : w.heap[blk]? = some (.cells #[.int .i64 x.1, .int .i64 x.2] 30 (0, 0))) (ty : TypeId) :
    ∃ g cap' w', (Builtin.append_ #[26, 26] ty #[.slice ad n cap, .slice (some ⟨blk, 0, none⟩) 1 1]).run Try.prog w = .ok (.slice (some ⟨g, 0, none⟩) (n + 1) cap') w' ∧ PairsAt w' g (n + 1) cap' (setP I n x) ∧ B ≤ g ∧ (ad = some ⟨g, 0, none⟩ ∨ g = w.heap.size) ∧ Moved (fun k => ad = some ⟨k, 0, none⟩) w w' := by
  obtain ⟨i, hi, hz, hsz, hby⟩ := info_parts info30
  have hnews : ∀ j u, [Value.int .i64 x.1, .int .i64 x.2][j]? = some u → w.cell? ((⟨blk, 0, none⟩ : Addr).add j) = some u := by
    intro j u hu
    match j, hu with
    | 0, hu => simp at hu; subst hu; simp [Addr.add, World.cell?, hx]
    | 1, hu => simp at hu; subst hu; simp [Addr.add, World.cell?, hx]
    | j + 2, hu => simp at hu
  obtain ⟨v', w', hrun, r1, r2, r3, r4⟩ := run_append_own_at (P := Try.prog) w B 26 ty 30 i _ 2 16 Try.underlying26 hi hz hsz hby (by kernel_rfl) (by decide) (.slice ad n cap) n (pairsL n I) (h.owns hB) ⟨blk, 0, none⟩ 1 1 [.int .i64 x.1, .int .i64 x.2] rfl hnews
    (by intro u hu; simp at hu; rcases hu with rfl | rfl <;> rfl) (by simp only [maxLen]; omega) (by omega) hBw
  have e1 : pairsL n I ++ [.int .i64 x.1, .int .i64 x.2] = pairsL (n + 1) (setP I n x) := by
    rw [pairsL_succ, setP_same, pairsL_congr fun i hi => (setP_other I x (show i ≠ n by omega)).symm]
  rw [e1] at r1
  obtain ⟨ad', cap', rfl, ho, hb⟩ := OwnP.of_owns r1
  obtain ⟨g, rfl, hp⟩ := ho.form (by omega)
  have hob : (Value.slice ad n cap).ownBlock = ad.map (·.block) := by cases ad <;> rfl
  have hform : ∀ a, ad = some a → a = ⟨a.block, 0, none⟩ := by
    intro a ha
    rcases h with ⟨h, _⟩ | ⟨g', h, _⟩
    · rw [h] at ha; cases ha
    · rw [h] at ha; cases ha; rfl
  refine ⟨g, cap', w', hrun, hp, hb _ rfl, ?_, ⟨r2.os, r2.tape, r2.output, r2.size, fun k hk hS => r2.block k hk fun e => hS ?_⟩⟩
  · rcases r4 with r4 | r4
    · left
      rw [hob] at r4
      cases ad with
      | none => simp [Value.ownBlock] at r4
      | some a =>
        simp [Value.ownBlock] at r4
        rw [hform a rfl, r4]
    · right
      simpa [Value.ownBlock] using r4
  · rw [hob] at e
    cases ad with
    | none => simp at e
    | some a =>
      simp at e
      rw [hform a rfl, e]

theorem eql_some (m : Nat) (w : World) : (binOp BinOp.eql 47 (.map (some m)) (.map none)).run Try.prog w = .ok (.bool false) w := by kernel_rfl
theorem eql_none (w : World) : (binOp BinOp.eql 47 (.map none) (.map none)).run Try.prog w = .ok (.bool true) w := by kernel_rfl
theorem assert_item (v : Value) (w : World) : (Instr.typeAssert (.iface 30 v) 20 30 false).run Try.prog w = .ok v w := by kernel_rfl

theorem places_push {n : Nat} {I : Nat → Int × Int} {P : Int → Option Int} (hP : Places n I P) (x : Int × Int) (hx : ∀ i, i < n → (I i).1 ≠ x.1) : Places (n + 1) (setP I n x) (at1 P x.1 (some (n : Int))) := by
  intro k j
  unfold at1
  by_cases e : k = x.1
  · subst e
    rw [if_pos rfl, Option.some.injEq]
    constructor
    · rintro rfl
      exact ⟨n, by omega, by rw [setP_same], rfl⟩
    · rintro ⟨i, hi, hk, rfl⟩
      by_cases e2 : i = n
      · rw [e2]
      · rw [setP_other I x e2] at hk
        exact absurd hk (hx i (by omega))
  · rw [if_neg e, hP k j]
    constructor
    · rintro ⟨i, hi, hk, rfl⟩
      exact ⟨i, by omega, by rw [setP_other I x (show i ≠ n by omega)]; exact hk, rfl⟩
    · rintro ⟨i, hi, hk, rfl⟩
      by_cases e2 : i = n
      · subst e2; rw [setP_same] at hk; exact absurd hk.symm e
      · rw [setP_other I x e2] at hk
        exact ⟨i, by omega, hk, rfl⟩
theorem ids_push {n : Nat} {I : Nat → Int × Int} (h : Ids n I) (x : Int × Int) (hx : ∀ i, i < n → (I i).1 ≠ x.1) : Ids (n + 1) (setP I n x) := by
  intro i j hi hj e
  by_cases ei : i = n
  · by_cases ej : j = n
    · omega
    · rw [ei, setP_same, setP_other I x ej] at e
      exact absurd e.symm (hx j (by omega))
  · by_cases ej : j = n
    · rw [ej, setP_same, setP_other I x ei] at e
      exact absurd e (hx i (by omega))
    · rw [setP_other I x ei, setP_other I x ej] at e
      exact h i j (by omega) (by omega) e

section
variable {w : World} {Q n cap : Nat} {ad : Option Addr} {mp : Option Nat} {I : Nat → Int × Int}

/-- What the two writes of a push leave. -/
theorem push_facts {m : Nat} (h : IsQ w Q ad n cap (some m) I) (x : Int × Int) (hx : ∀ i, i < n → (I i).1 ≠ x.1) (hn : n ≤ 1000000) (S : Nat) (hS : w.heap.size = S) : ∃ (w2 w3 : World) (g cap' : Nat),
    (Instr.mapUpdate 47 (.map (some m)) (.int .i64 x.1) (.int .i64 (n : Int))).run Try.prog (w.alloc (.cells #[.int .i64 x.1, .int .i64 x.2] 30)).drew = .ok () w2 ∧
    w2.cell? ⟨Q, 0, none⟩ = some (.slice ad n cap) ∧ w2.cell? ⟨S, 0, none⟩ = some (.int .i64 x.1) ∧ w2.cell? ⟨S, 1, none⟩ = some (.int .i64 x.2) ∧ w2.heap.size = S + 1 ∧
    (Builtin.append_ #[26, 26] 26 #[.slice ad n cap, .slice (some ⟨S + 1, 0, none⟩) 1 1]).run Try.prog (w2.alloc (.cells #[.int .i64 x.1, .int .i64 x.2] 30)).drew = .ok (.slice (some ⟨g, 0, none⟩) (n + 1) cap') w3 ∧
    w3.cell? ⟨Q, 0, none⟩ = some (.slice ad n cap) ∧ w3.frozen? ⟨Q, 0, none⟩ = false ∧
    IsQ (w3.setCell ⟨Q, 0, none⟩ (.slice (some ⟨g, 0, none⟩) (n + 1) cap')) Q (some ⟨g, 0, none⟩) (n + 1) cap' (some m) (setP I n x) ∧
    Went (Foot Q ad (some m)) (Foot Q (some ⟨g, 0, none⟩) (some m)) w (w3.setCell ⟨Q, 0, none⟩ (.slice (some ⟨g, 0, none⟩) (n + 1) cap')) := by
  have hQ := h.lt
  obtain ⟨P, hM, hP, hQm⟩ := h.some_ m rfl
  have h1 := h.new (.cells #[.int .i64 x.1, .int .i64 x.2] 30)
  have hM1 : IsMap (w.alloc (.cells #[.int .i64 x.1, .int .i64 x.2] 30)).drew m P := hM.same (Below.heap_alloc _ _ _ hM.lt)
  obtain ⟨w2, hr2, hM2, t2⟩ := map_put hM1 x.1 (n : Int)
  have hmL : m < w.heap.size := hM.lt
  have hd2 : w2.heap[Q]? = _ := (t2.block Q (by omega)).trans h1.head
  have hn2 : w2.heap[w.heap.size]? = some (.cells #[.int .i64 x.1, .int .i64 x.2] 30 (0, 0)) := (t2.block _ (by omega)).trans (MapKept.heap_alloc w _).1
  have hs2 : w2.heap.size = w.heap.size + 1 := by rw [t2.size]; simp
  have hadm : ∀ a, ad = some a → a.block ≠ m := fun a ha e => by
    rcases h.row with ⟨hh, _⟩ | ⟨g, hh, cur, hb, _⟩
    · rw [hh] at ha; cases ha
    · rw [hh] at ha
      cases ha
      obtain ⟨es, clock, l, hb', _⟩ := hM
      rw [← e, hb] at hb'
      cases hb'
  have ho2 : OwnP w2 ad n cap I := h1.row.kept fun a ha => t2.block _ (hadm a ha)
  obtain ⟨g, cap', w3, hr3, hp3, hg3, hg3', mv3⟩ := append_pair (w := (w2.alloc (.cells #[.int .i64 x.1, .int .i64 x.2] 30)).drew) (B := Q + 1) (ho2.kept fun a ha => Below.heap_alloc _ _ _ (ho2.lt a ha)) h.apart (by simp [hs2]; omega) hn (w.heap.size + 1) x (by have := (MapKept.heap_alloc w2 (.cells #[.int .i64 x.1, .int .i64 x.2] 30)).1; rw [hs2] at this; exact this) 26
  have hadQ : ¬ ad = some ⟨Q, 0, none⟩ := fun e => by have : Q < Q := h.apart _ e; omega
  have hd3 : w3.heap[Q]? = some (.cells #[.slice ad n cap, .map (some m)] 51 (0, 0)) := (mv3.block Q (by simp [hs2]; omega) hadQ).trans ((Below.heap_alloc w2 (.cells #[.int .i64 x.1, .int .i64 x.2] 30) Q (by omega)).trans hd2)
  have hM3 : IsMap w3 m (at1 P x.1 (some (n : Int))) := hM2.same ((mv3.block m (by simp [hs2]; omega) fun e => hadm _ e rfl).trans (Below.heap_alloc w2 (.cells #[.int .i64 x.1, .int .i64 x.2] 30) m (by omega)))
  have hgm : g ≠ m := fun e => by
    obtain ⟨es, clock, l, hb', _⟩ := hM3
    obtain ⟨cur, hb, _⟩ := hp3
    rw [e, hb'] at hb
    cases hb
  have hgw : ad = some ⟨g, 0, none⟩ ∨ g = w.heap.size + 2 := by
    rcases hg3' with e | e
    · exact .inl e
    · right
      rw [e]
      simp [hs2]
  subst hS
  refine ⟨w2, w3, g, cap', hr2, by simp [World.cell?, hd2], by simp [World.cell?, hn2], by simp [World.cell?, hn2], hs2, hr3, by simp [World.cell?, hd3], by simp [World.frozen?, hd3], ⟨?_, .inr ⟨g, rfl, ?_⟩, ?_, ids_push h.ids x hx, (fun e => by cases e), fun m' hm' => ?_⟩, ?_, ?_⟩
  · simp [World.setCell, Array.getElem?_modify, hd3]
  · exact hp3.of_block (Below.heap_setCell _ _ _ _ (show g ≠ Q by omega))
  · intro a ha
    cases ha
    exact hg3
  · cases hm'
    exact ⟨_, hM3.same (Below.heap_setCell _ _ _ _ (show m ≠ Q by omega)), places_push hP x hx, hQm⟩
  · refine ((((Moved.new w _).drew).trans (Moved.of_turned t2 (.inr (.inr rfl)))).trans ((Moved.new w2 (.cells #[.int .i64 x.1, .int .i64 x.2] 30)).drew)).trans ((mv3.mono fun k hk => .inr (.inl ⟨_, hk, rfl⟩)).trans (Moved.set _ (.inl rfl) _ _))
  · rintro k (rfl | ⟨a, ha, rfl⟩ | hk)
    · exact .inl (.inl rfl)
    · cases ha
      rcases hgw with e | e
      · exact .inl (.inr (.inl ⟨_, e, rfl⟩))
      · right
        show w.heap.size ≤ g
        omega
    · exact .inl (.inr (.inr hk))

set_option maxHeartbeats 1600000 in
theorem rpush_some {m : Nat} (h : IsQ w Q ad n cap (some m) I) (x : Int × Int) (hx : ∀ i, i < n → (I i).1 ≠ x.1) (hn : n ≤ 1000000) :
    Calls Try.prog 46 #[.pointer (some ⟨Q, 0, none⟩), .iface 30 (.agg #[.int .i64 x.1, .int .i64 x.2])] w fun e w' => e = .returned (.tuple #[]) ∧ ∃ ad' cap' mp', IsQ w' Q ad' (n + 1) cap' mp' (setP I n x) ∧ Went (Foot Q ad (some m)) (Foot Q ad' mp') w w' := by
  have c0 := h.cell0
  have c1 := h.cell1
  have hQ := h.lt
  have hes := eql_some
  have hta := assert_item
  obtain ⟨w2, w3, g, cap', hr2, d0, e0, e1, hs2, hr3, d3, f3, hfin, hwent⟩ := push_facts h x hx hn w.heap.size rfl
  go_enter Try.func46, Try.ntmps46
  go_wp2
  go_region
  go_wp2
  go_region_law (refine step_append rfl (.tmp 31) (.tmp 33) rfl _ _ _ (by simp [Act.eval]) (by simp [Act.eval]) hr3 ?_)
  all_goals
    go_wp2
    go_end0
    exact ⟨rfl, _, _, _, hfin, hwent⟩

set_option maxHeartbeats 1600000 in
theorem rpush_none (h : IsQ w Q ad n cap none I) (x : Int × Int) :
    Calls Try.prog 46 #[.pointer (some ⟨Q, 0, none⟩), .iface 30 (.agg #[.int .i64 x.1, .int .i64 x.2])] w fun e w' => e = .returned (.tuple #[]) ∧ ∃ ad' cap' mp', IsQ w' Q ad' (n + 1) cap' mp' (setP I n x) ∧ Went (Foot Q ad none) (Foot Q ad' mp') w w' := by
  obtain rfl : n = 0 := h.none_ rfl
  have c0 := h.cell0
  have c1 := h.cell1
  have f1 := h.frozen 1
  have hQ := h.lt
  have hen := eql_none
  have hta := assert_item
  have hmm := @run_makeMap Try.prog
  have hadn : ∀ a, ad = some a → a.block ≠ Q := fun a ha e => by have : Q < a.block := h.apart a ha; omega
  have hsz0 : (w.setCell ⟨Q, 1, none⟩ (.map (some w.heap.size))).heap.size = w.heap.size := by simp
  have hal : ∀ b, b < w.heap.size → ((w.setCell ⟨Q, 1, none⟩ (.map (some w.heap.size))).alloc (.map #[] 0)).heap[b]? = (w.setCell ⟨Q, 1, none⟩ (.map (some w.heap.size))).heap[b]? := fun b hb => Below.heap_alloc _ _ _ (by rw [hsz0]; exact hb)
  have hfr := IsMap.fresh (w.setCell ⟨Q, 1, none⟩ (.map (some w.heap.size)))
  rw [hsz0] at hfr
  have h' : IsQ ((w.setCell ⟨Q, 1, none⟩ (.map (some w.heap.size))).alloc (.map #[] 0)) Q ad 0 cap (some w.heap.size) I :=
    ⟨by rw [hal Q hQ]; simp [World.setCell, Array.getElem?_modify, h.head], h.row.kept fun a ha => (hal _ (h.row.lt a ha)).trans (Below.heap_setCell _ _ _ _ (hadn a ha)), h.apart, h.ids, (fun e => by cases e), fun m hm => by
      cases hm
      exact ⟨fun _ => none, hfr, fun k j => by simp, hQ⟩⟩
  have hsz : ((w.setCell ⟨Q, 1, none⟩ (.map (some w.heap.size))).alloc (.map #[] 0)).heap.size = w.heap.size + 1 := by simp
  obtain ⟨w2, w3, g, cap', hr2, d0, e0, e1, hs2, hr3, d3, f3, hfin, hwent⟩ := push_facts h' x (by omega) (by omega) (w.heap.size + 1) hsz
  clear hsz hsz0 hal
  rw [show ((0 : Nat) : Int) = 0 from rfl] at hr2
  have hQ2 : Q < w.heap.size + 1 + 1 := by omega
  have hw0 : Went (Foot Q ad none) (Foot Q ad (some w.heap.size)) w ((w.setCell ⟨Q, 1, none⟩ (.map (some w.heap.size))).alloc (.map #[] 0)) :=
    ⟨(Moved.set w (.inl rfl) _ _).trans (Moved.new _ _), by
      rintro k (rfl | ⟨a, ha, rfl⟩ | hk)
      · exact .inl (.inl rfl)
      · exact .inl (.inr (.inl ⟨a, ha, rfl⟩))
      · cases hk; exact .inr (Nat.le_refl _)⟩
  go_enter Try.func46, Try.ntmps46
  go_wp2
  go_region
  go_wp2
  go_region_law (refine step_append rfl (.tmp 31) (.tmp 33) rfl _ _ _ (by simp [Act.eval]) (by simp [Act.eval]) hr3 ?_)
  all_goals
    go_wp2
    go_end0
    exact ⟨rfl, _, _, _, hfin, hw0.trans hwent⟩

theorem places_pop {n : Nat} {I : Nat → Int × Int} {P : Int → Option Int} (hP : Places (n + 1) I P) (hI : Ids (n + 1) I) : Places n I (at1 P (I n).1 none) := by
  intro k j
  unfold at1
  by_cases e : k = (I n).1
  · rw [if_pos e]
    constructor
    · intro h; cases h
    · rintro ⟨i, hi, hk, rfl⟩
      have := hI i n (by omega) (by omega) (hk.trans e)
      omega
  · rw [if_neg e, hP k j]
    constructor
    · rintro ⟨i, hi, hk, rfl⟩
      by_cases e2 : i = n
      · subst e2; exact absurd hk.symm e
      · exact ⟨i, by omega, hk, rfl⟩
    · rintro ⟨i, hi, hk, rfl⟩
      exact ⟨i, by omega, hk, rfl⟩

set_option maxHeartbeats 1600000 in
theorem rpop_any (h : IsQ w Q ad (n + 1) cap mp I) (hn : n ≤ 1000000) :
    Calls Try.prog 45 #[.pointer (some ⟨Q, 0, none⟩)] w fun e w' => e = .returned (.iface 30 (.agg #[.int .i64 (I n).1, .int .i64 (I n).2])) ∧ IsQ w' Q ad n cap mp I ∧ Moved (Foot Q ad mp) w w' := by
  have c0 := h.cell0
  have c1 := h.cell1
  obtain ⟨g, rfl, hp⟩ := h.row.form (by omega)
  have hQg : Q < g := h.apart _ rfl
  obtain ⟨m, rfl⟩ : ∃ m, mp = some m := by
    cases mp with
    | none => have := h.none_ rfl; omega
    | some m => exact ⟨m, rfl⟩
  obtain ⟨P, hM, hP, hQm⟩ := h.some_ m rfl
  have p0 := hp.cell0 (i := n) (by omega)
  have p1 := hp.cell1 (i := n) (by omega)
  have f0 := h.frozen 0
  have hg := hp.lt
  have hQ := h.lt
  have hm := hM.lt
  have hcl := hp.cap_le
  obtain ⟨x, hx⟩ : ∃ x, I n = x := ⟨_, rfl⟩
  rw [hx] at p0 p1 ⊢
  have hsz0 : (w.setCell ⟨Q, 0, none⟩ (.slice (some ⟨g, 0, none⟩) n cap)).heap.size = w.heap.size := by simp
  have hal : ∀ b, b < w.heap.size → ((w.setCell ⟨Q, 0, none⟩ (.slice (some ⟨g, 0, none⟩) n cap)).alloc (.cells #[.int .i64 x.1, .int .i64 x.2] 30)).drew.heap[b]? = (w.setCell ⟨Q, 0, none⟩ (.slice (some ⟨g, 0, none⟩) n cap)).heap[b]? := fun b hb => Below.heap_alloc _ _ _ (by rw [hsz0]; exact hb)
  obtain ⟨w2, hr2, hM2, t2⟩ := map_del (w := ((w.setCell ⟨Q, 0, none⟩ (.slice (some ⟨g, 0, none⟩) n cap)).alloc (.cells #[.int .i64 x.1, .int .i64 x.2] 30)).drew) (hM.same ((hal m hm).trans (Below.heap_setCell _ _ _ _ (show m ≠ Q by omega)))) x.1
  have hmg : m ≠ g := fun e => by
    obtain ⟨es, clock, l, hb', _⟩ := hM
    obtain ⟨cur, hb, _⟩ := hp
    rw [← e, hb'] at hb
    cases hb
  have hd2 : w2.heap[Q]? = some (.cells #[.slice (some ⟨g, 0, none⟩) n cap, .map (some m)] 51 (0, 0)) := (t2.block Q (by omega)).trans ((hal Q hQ).trans (by simp [World.setCell, Array.getElem?_modify, h.head]))
  have hnw : w2.heap[w.heap.size]? = some (.cells #[.int .i64 x.1, .int .i64 x.2] 30 (0, 0)) := (t2.block _ (by omega)).trans (by
    have := (MapKept.heap_alloc (w.setCell ⟨Q, 0, none⟩ (.slice (some ⟨g, 0, none⟩) n cap)) (.cells #[.int .i64 x.1, .int .i64 x.2] 30)).1
    rw [hsz0] at this
    exact this)
  have e0 : w2.cell? ⟨w.heap.size, 0, none⟩ = some (.int .i64 x.1) := by simp [World.cell?, hnw]
  have e1 : w2.cell? ⟨w.heap.size, 1, none⟩ = some (.int .i64 x.2) := by simp [World.cell?, hnw]
  have hfin : IsQ w2 Q (some ⟨g, 0, none⟩) n cap (some m) I :=
    ⟨hd2, .inr ⟨g, rfl, (hp.of_block ((t2.block g (fun e => hmg e.symm)).trans ((hal g hg).trans (Below.heap_setCell _ _ _ _ (show g ≠ Q by omega))))).less (by omega)⟩, h.apart, fun i j hi hj => h.ids i j (by omega) (by omega), (fun e => by cases e), fun m' hm' => by
      cases hm'
      refine ⟨_, hM2, ?_, hQm⟩
      have := places_pop hP h.ids
      rw [hx] at this
      exact this⟩
  have hmv : Moved (Foot Q (some ⟨g, 0, none⟩) (some m)) w w2 := (((Moved.set w (.inl rfl) 0 (.slice (some ⟨g, 0, none⟩) n cap)).trans (Moved.new _ (.cells #[.int .i64 x.1, .int .i64 x.2] 30))).drew).trans (Moved.of_turned t2 (.inr (.inr rfl)))
  clear hal hsz0
  go_enter Try.func45, Try.ntmps45
  go_wp2
  go_region
  go_wp2
  go_ret
  exact ⟨rfl, hfin, hmv⟩
end
end Go.Proofs.Ythcjmbfhcdkffaa
