/-
  The queue and the statement's list side by side.
-/
import Derived.Test.YthcjmbfhcdkffaaPlayP
namespace Go.Proofs.Ythcjmbfhcdkffaa
open Go Go.RowKit

/-- The queue and the list hold the same. -/
structure Both (W w : World) (Q : Nat) (ad : Option Addr) (n cap : Nat) (I : Nat → Int × Int) (S : Nat → Prop) (K : Int → Option Int) : Prop where
  has : Has w Q S K n
  own : OwnP w ad n cap I
  apart : Blk ad fun b => ¬ S b
  late : Blk ad fun b => W.heap.size ≤ b
  ids : Ids n I
  tells : Tells n I K
  low : ∀ k, S k → W.heap.size ≤ k
  below : Below W.heap.size W w

section
variable {W w w' w5 : World} {Q n cap : Nat} {ad : Option Addr} {I : Nat → Int × Int} {S S5 : Nat → Prop} {K : Int → Option Int}
theorem Both.kept (h : Both W w Q ad n cap I S K) (k : Below w.heap.size w w') : Both W w' Q ad n cap I S K :=
  ⟨h.has.below k, h.own.kept fun a ha => k.block _ (h.own.lt a ha), h.apart, h.late, h.ids, h.tells, h.low, below_far h.below k⟩
theorem alike_below (h : w'.Alike w) (t : w'.tape = w.tape) : Below w.heap.size w w' := ⟨h.2.1, t, h.2.2, by rw [h.1]; omega, fun k _ => by rw [h.1]⟩

theorem drawn {B : Nat} (h : Below B w w') (m : Nat) : Below B w (w'.drewN m) := ⟨h.os, h.tape, h.output, h.size, h.block⟩

/-- One more is pushed, and appended to the list. -/
theorem Both.push_runs (h : Both W w Q ad n cap I S K) (hn : n ≤ 100000) {id key : Int} (hno : ∀ i, i < n → (I i).1 ≠ id) (q5 : Has w5 Q S5 (at1 K id (some key)) (n + 1)) (g5 : Went S S5 w w5) :
    ∃ g cap' w6, (Builtin.append_ #[26, 26] 26 #[.slice ad n cap, .slice (some ⟨w5.heap.size, 0, none⟩) 1 1]).run Try.prog (w5.alloc (.cells #[.int .i64 id, .int .i64 key] 30)) = .ok (.slice (some ⟨g, 0, none⟩) (n + 1) cap') w6 ∧
      Both W w6 Q (some ⟨g, 0, none⟩) (n + 1) cap' (setP I n (id, key)) S5 (at1 K id (some key)) ∧ ∀ b, b < w.heap.size → ¬ S b → (Blk ad fun c => c ≠ b) → w6.heap[b]? = w.heap[b]? ∧ ¬ S5 b := by
  have hk5 : ∀ a, ad = some a → w5.heap[a.block]? = w.heap[a.block]? ∧ ¬ S5 a.block := fun a ha => g5.keeps (h.own.lt a ha) (h.apart a ha)
  have ho5 : OwnP (w5.alloc (.cells #[.int .i64 id, .int .i64 key] 30)) ad n cap I := h.own.kept fun a ha => (Below.heap_alloc _ _ _ (Nat.lt_of_lt_of_le (h.own.lt a ha) g5.moved.size)).trans (hk5 a ha).1
  have hWs : W.heap.size ≤ w5.heap.size := Nat.le_trans h.below.size g5.moved.size
  obtain ⟨g, cap', w6, r1, r2, r3, r4, r5⟩ := append_pair ho5 (B := W.heap.size) h.late (Nat.le_trans hWs (by simp)) (by omega) w5.heap.size (id, key) (MapKept.heap_alloc w5 _).1 26
  have hB5 := Went.below' h.below g5 h.low
  refine ⟨g, cap', w6, r1, ⟨?_, .inr ⟨g, rfl, r2⟩, ?_, ?_, ids_push h.ids _ hno, tells_push h.tells (h.tells.none_of hno) (Same.refl _ _), g5.low h.below.size h.low, ?_⟩, fun b hb hS hab => ?_⟩
  · refine (q5.new _).kept fun b hb => r5.block b (by have := q5.lt b hb; simp; omega) fun e => ?_
    exact (hk5 _ e).2 hb
  · intro a ha
    cases ha
    rcases r4 with e | e
    · exact (hk5 _ e).2
    · intro hs
      have := q5.lt g hs
      have e' : g = w5.heap.size + 1 := by simpa using e
      omega
  · intro a ha
    cases ha
    exact r3
  · exact Moved.below' (hB5.alloc hB5.size _) r5 fun b hb => h.late _ hb
  · have k5 := g5.keeps hb hS
    refine ⟨?_, k5.2⟩
    rw [r5.block b (by have := g5.moved.size; simp; omega) (fun e => hab _ e rfl), Below.heap_alloc _ _ _ (Nat.lt_of_lt_of_le hb g5.moved.size)]
    exact k5.1

/-- One is taken out, and out of the list. -/
theorem Both.del_runs {u : World} (h : Both W w Q ad (n + 1) cap I S K) (hn : n ≤ 100000) {b : Nat} (hb : b < n + 1) (q5 : Has w5 Q S (at1 K (I b).1 none) n) (m5 : Moved S w w5) (k5 : Below w5.heap.size w5 u) :
    ∃ g, ad = some ⟨g, 0, none⟩ ∧ PairsAt u g (n + 1) cap I ∧ n + 1 ≤ cap ∧ ∃ ad1 cap1 w1 ad2 cap2 w2, (Builtin.append_ #[26, 26] 26 #[.slice none 0 0, .slice (some ⟨g, 0, none⟩) b cap]).run Try.prog u = .ok (.slice ad1 b cap1) w1 ∧
      (Builtin.append_ #[26, 26] 26 #[.slice ad1 b cap1, .slice (if cap = b + 1 then some ⟨g, 0, none⟩ else some ⟨g, (b + 1) * 2, none⟩) (n - b) (cap - (b + 1))]).run Try.prog w1 = .ok (.slice ad2 n cap2) w2 ∧
      Both W w2 Q ad2 n cap2 (del I b) S (at1 K (I b).1 none) ∧ ∀ b, b < w.heap.size → ¬ S b → w2.heap[b]? = w.heap[b]? := by
  obtain ⟨g, rfl, hp⟩ := h.own.form (by omega)
  have hp5 : PairsAt w5 g (n + 1) cap I := hp.of_block (m5.block g hp.lt (h.apart _ rfl))
  have hpu : PairsAt u g (n + 1) cap I := hp5.of_block (k5.block g hp5.lt)
  obtain ⟨ad1, cap1, w1, ad2, cap2, w2, r1, r2, r3, r4, r5⟩ := Ythcjmbfhcdkffaa.del_runs hpu hb hn
  have hBu := below_far (Moved.below' h.below m5 h.low) k5
  refine ⟨g, rfl, hpu, hpu.cap_le.1, ad1, cap1, w1, ad2, cap2, w2, r1, r2, ⟨(q5.below k5).below r5, r3, ?_, ?_, del_ids h.ids b, tells_drop h.tells h.ids hb (del_same hb), h.low, below_far hBu r5⟩, fun c hc hS => ?_⟩
  · intro a ha hs
    have h1 := r4 a ha
    have h2 := (q5.below k5).lt _ hs
    simp only at h1
    omega
  · intro a ha
    have h1 := r4 a ha
    simp only at h1
    exact Nat.le_trans hBu.size h1
  · have hc5 : c < w5.heap.size := Nat.lt_of_lt_of_le hc m5.size
    rw [r5.block c (Nat.lt_of_lt_of_le hc5 k5.size), k5.block c hc5, m5.block c hc hS]

/-- The same, the length under one name. -/
theorem Both.del_runs' {u : World} {k : Nat} (h : Both W w Q ad k cap I S K) (hn : k ≤ 100000) {b : Nat} (hb : b < k) (q5 : Has w5 Q S (at1 K (I b).1 none) (k - 1)) (m5 : Moved S w w5) (k5 : Below w5.heap.size w5 u) :
    ∃ g, ad = some ⟨g, 0, none⟩ ∧ PairsAt u g k cap I ∧ k ≤ cap ∧ ∃ ad1 cap1 w1 ad2 cap2 w2, (Builtin.append_ #[26, 26] 26 #[.slice none 0 0, .slice (some ⟨g, 0, none⟩) b cap]).run Try.prog u = .ok (.slice ad1 b cap1) w1 ∧
      (Builtin.append_ #[26, 26] 26 #[.slice ad1 b cap1, .slice (if cap = b + 1 then some ⟨g, 0, none⟩ else some ⟨g, (b + 1) * 2, none⟩) (k - (b + 1)) (cap - (b + 1))]).run Try.prog w1 = .ok (.slice ad2 (k - 1) cap2) w2 ∧
      Both W w2 Q ad2 (k - 1) cap2 (del I b) S (at1 K (I b).1 none) ∧ ∀ b, b < w.heap.size → ¬ S b → w2.heap[b]? = w.heap[b]? := by
  obtain ⟨n, rfl⟩ : ∃ n, k = n + 1 := ⟨k - 1, by omega⟩
  rw [show n + 1 - (b + 1) = n - b by omega, show n + 1 - 1 = n from rfl]
  exact h.del_runs (by omega) hb q5 m5 k5
theorem Has.shorter {k : Nat} {id v : Int} (h : Has w Q S K k) (hn : k ≤ 100000) (e : K id = some v) : Calls Try.prog 13 #[.pointer (some ⟨Q, 0, none⟩), .int .i64 id] w fun e w' => e = .returned (.bool true) ∧ Has w' Q S (at1 K id none) (k - 1) ∧ Moved S w w' := by
  obtain ⟨n, rfl⟩ : ∃ n, k = n + 1 := ⟨k - 1, by have := h.pos e; omega⟩
  exact drop_yes h (by omega) e
theorem Has.popped {k : Nat} (h : Has w Q S K k) (hk : 0 < k) (hn : k ≤ 100000) : Calls Try.prog 11 #[.pointer (some ⟨Q, 0, none⟩)] w fun e w' => ∃ x : Int × Int, e = .returned (.tuple #[itemV x, .bool true]) ∧ (K x.1 = some x.2 ∧ ∀ id key, K id = some key → bet (id, key) x = false) ∧ Has w' Q S (at1 K x.1 none) (k - 1) ∧ Moved S w w' := by
  obtain ⟨n, rfl⟩ : ∃ n, k = n + 1 := ⟨k - 1, by omega⟩
  exact pop_some h (by omega)

theorem Has.top {k : Nat} (h : Has w Q S K k) : Calls Try.prog 14 #[.pointer (some ⟨Q, 0, none⟩)] w fun e w' => ∃ (x : Int × Int) (ok : Bool), e = .returned (.tuple #[itemV x, .bool ok]) ∧ Below w.heap.size w w' ∧ ((k = 0 ∧ ok = false) ∨ (0 < k ∧ ok = true ∧ (K x.1 = some x.2 ∧ ∀ id key, K id = some key → bet (id, key) x = false))) := by
  cases k with
  | zero => exact (top_none h).mono fun e w' ⟨h1, h2⟩ => ⟨_, _, h1, h2, .inl ⟨rfl, rfl⟩⟩
  | succ n => exact (top_some h).mono fun e w' ⟨x, h1, h2, h3⟩ => ⟨x, _, h1, h3, .inr ⟨by omega, rfl, h2⟩⟩
theorem Has.key {k : Nat} (h : Has w Q S K k) (id : Int) : Calls Try.prog 16 #[.pointer (some ⟨Q, 0, none⟩), .int .i64 id] w fun e w' => ∃ (v : Int) (is : Bool), e = .returned (.tuple #[.int .i64 v, .bool is]) ∧ Below w.heap.size w w' ∧ ((is = true ∧ K id = some v) ∨ (is = false ∧ K id = none)) := by
  cases e : K id with
  | none => exact (key_no h e).mono fun e w' ⟨h1, h2⟩ => ⟨_, _, h1, h2, .inr ⟨rfl, rfl⟩⟩
  | some v => exact (key_yes h e).mono fun e w' ⟨h1, h2⟩ => ⟨_, _, h1, h2, .inl ⟨rfl, rfl⟩⟩

/-- A key is changed, in the list too. -/
theorem Both.rekey {g a : Nat} {key : Int} (h : Both W w Q (some ⟨g, 0, none⟩) n cap I S K) (ha : a < n) (q5 : Has w5 Q S (at1 K (I a).1 (some key)) n) (m5 : Moved S w w5) :
    PairsAt w5 g n cap I ∧ Both W (w5.setCell ⟨g, a * 2 + 1, none⟩ (.int .i64 key)) Q (some ⟨g, 0, none⟩) n cap (setP I a ((I a).1, key)) S (at1 K (I a).1 (some key)) ∧ ∀ b, b < w.heap.size → ¬ S b → b ≠ g → (w5.setCell ⟨g, a * 2 + 1, none⟩ (.int .i64 key)).heap[b]? = w.heap[b]? := by
  obtain ⟨g', hg', hp⟩ := h.own.form (by omega)
  cases hg'
  have hS : ¬ S g := h.apart _ rfl
  have hp5 : PairsAt w5 g n cap I := hp.of_block (m5.block g hp.lt hS)
  have hWg0 : W.heap.size ≤ g := h.late _ rfl
  have hWg : W.heap.size ≤ (⟨g, a * 2 + 1, none⟩ : Addr).block := hWg0
  refine ⟨hp5, ⟨q5.kept fun b hb => Below.heap_setCell _ _ _ _ (show b ≠ g from fun e => hS (e ▸ hb)), .inr ⟨g, rfl, hp5.setKey ha key⟩, h.apart, h.late, setKey_ids h.ids a key, tells_key h.tells h.ids ha (Same.refl _ _), h.low, (Moved.below' h.below m5 h.low).setCell hWg _⟩, fun b hb hSb hbg => ?_⟩
  rw [Below.heap_setCell _ _ _ _ (show b ≠ g from hbg)]
  exact m5.block b hb hSb
end
end Go.Proofs.Ythcjmbfhcdkffaa
