/-
  A store, what is held, and blocks of one's own, beside one another.
-/
import Derived.Test.YtlmbofbdncgaiaaGreatMkO
namespace Go.Proofs.YtlmbofbdncgaiaaGreat.Mk
open Go Go.RowKit
open Rf (tab word IsTab)

/-- A store and what is held; X: blocks that are neither's. All of it is new to a base. -/
def Rfx (B w : World) (S R m n : Nat) (M : Mdl) (P : Int → Option Int) (T : Nat → List Int) (X : Nat → Prop) : Prop := ∃ F G, St w S F M ∧ Rs.Has w R G P m n T ∧ (∀ b, G b → ¬ F b) ∧ Below B.heap.size B w ∧ (∀ k, F k → B.heap.size ≤ k) ∧ (∀ k, G k → B.heap.size ≤ k) ∧ ∀ b, X b → ¬ F b ∧ ¬ G b ∧ b < w.heap.size ∧ B.heap.size ≤ b
/-- These blocks are as they were. -/
def Stay (X : Nat → Prop) (w w' : World) : Prop := ∀ b, X b → w'.heap[b]? = w.heap[b]?
theorem Stay.trans {X : Nat → Prop} {a b c : World} (h : Stay X a b) (k : Stay X b c) : Stay X a c := fun i hi => (k i hi).trans (h i hi)
section
variable {B w w' : World} {S R m n : Nat} {M M' : Mdl} {P : Int → Option Int} {T : Nat → List Int} {X X' : Nat → Prop}
theorem Rfx.base (h : Rfx B w S R m n M P T X) : Below B.heap.size B w := by obtain ⟨F, G, s, r, d, b, f, g, x⟩ := h; exact b
theorem Rfx.st (h : Rfx B w S R m n M P T X) : ∃ F, St w S F M := by obtain ⟨F, G, s, _⟩ := h; exact ⟨F, s⟩
theorem Rfx.ok (h : Rfx B w S R m n M P T X) : M.Ok := by obtain ⟨F, s⟩ := h.st; exact s.ok
theorem Rfx.less (h : Rfx B w S R m n M P T X) (k : ∀ b, X' b → X b) : Rfx B w S R m n M P T X' := by
  obtain ⟨F, G, s, r, d, b, f, g, x⟩ := h
  exact ⟨F, G, s, r, d, b, f, g, fun i hi => x i (k i hi)⟩
theorem Rfx.below (h : Rfx B w S R m n M P T X) (k : Below w.heap.size w w') : Rfx B w' S R m n M P T X ∧ Stay X w w' := by
  obtain ⟨F, G, s, r, d, b, f, g, x⟩ := h
  exact ⟨⟨F, G, s.below k, r.below k, d, Rf.below_far b k, f, g, fun i hi => ⟨(x i hi).1, (x i hi).2.1, Nat.lt_of_lt_of_le (x i hi).2.2.1 k.size, (x i hi).2.2.2⟩⟩, fun i hi => k.block i (x i hi).2.2.1⟩
theorem Rfx.drewN (h : Rfx B w S R m n M P T X) (q : Nat) : Rfx B (w.drewN q) S R m n M P T X := (h.below (w' := w.drewN q) ⟨rfl, rfl, rfl, Nat.le_refl _, fun _ _ => rfl⟩).1
theorem Rfx.drew (h : Rfx B w S R m n M P T X) : Rfx B w.drew S R m n M P T X := (h.below (w' := w.drew) ⟨rfl, rfl, rfl, Nat.le_refl _, fun _ _ => rfl⟩).1
/-- One's own blocks turn; new ones may be one's own. -/
theorem Rfx.turn {Y : Nat → Prop} (h : Rfx B w S R m n M P T X) (q : Went Y w w') (hy : ∀ b, Y b → X b) (hX : ∀ b, X' b → X b ∨ (w.heap.size ≤ b ∧ b < w'.heap.size)) : Rfx B w' S R m n M P T X' := by
  obtain ⟨F, G, s, r, d, b, f, g, x⟩ := h
  refine ⟨F, G, s.kept fun k hk => q.block k (s.lt k hk) fun e => (x k (hy k e)).1 hk, r.kept fun k hk => q.block k (r.lt k hk) fun e => (x k (hy k e)).2.1 hk, d, ⟨q.os.trans b.os, q.tape.trans b.tape, q.output.trans b.output, Nat.le_trans b.size q.size, fun k hk => (q.block k (Nat.lt_of_lt_of_le hk b.size) fun e => by have := (x k (hy k e)).2.2.2; omega).trans (b.block k hk)⟩, f, g, fun i hi => ?_⟩
  rcases hX i hi with e | e
  · exact ⟨(x i e).1, (x i e).2.1, Nat.lt_of_lt_of_le (x i e).2.2.1 q.size, (x i e).2.2.2⟩
  · exact ⟨fun z => by have := s.lt i z; omega, fun z => by have := r.lt i z; omega, e.2, Nat.le_trans b.size e.1⟩
theorem Rfx.moved {F G G' : Nat → Prop} {P' : Int → Option Int} {T' : Nat → List Int} {m' : Nat} (s : St w S F M) (d : ∀ b, G b → ¬ F b) (b : Below B.heap.size B w) (f : ∀ k, F k → B.heap.size ≤ k) (g : ∀ k, G k → B.heap.size ≤ k) (x : ∀ b, X b → ¬ F b ∧ ¬ G b ∧ b < w.heap.size ∧ B.heap.size ≤ b) (r : Rs.Has w' R G' P' m' n T') (mv : Rs.Moved G G' w w') : Rfx B w' S R m' n M P' T' X ∧ Stay X w w' := by
  obtain ⟨b', g'⟩ := mv.old g b.size
  refine ⟨⟨F, G', s.kept fun k hk => mv.went.block k (s.lt k hk) fun e => d k e hk, r, fun k hk hf => ?_, b.trans b', f, g', fun i hi => ⟨(x i hi).1, fun e => ?_, Nat.lt_of_lt_of_le (x i hi).2.2.1 mv.went.size, (x i hi).2.2.2⟩⟩, fun i hi => mv.went.block i (x i hi).2.2.1 (x i hi).2.1⟩
  · rcases mv.new k hk with e | e
    · exact d k e hf
    · have := s.lt k hf
      omega
  · rcases mv.new i e with e | e
    · exact (x i hi).2.1 e
    · have := (x i hi).2.2.1
      omega
theorem Rfx.wf {F F' G : Nat → Prop} (r : Rs.Has w R G P m n T) (d : ∀ b, G b → ¬ F b) (b : Below B.heap.size B w) (f : ∀ k, F k → B.heap.size ≤ k) (g : ∀ k, G k → B.heap.size ≤ k) (x : ∀ b, X b → ¬ F b ∧ ¬ G b ∧ b < w.heap.size ∧ B.heap.size ≤ b) (s' : St w' S F' M') (q : Wf F F' w w') : Rfx B w' S R m n M' P T X ∧ Stay X w w' :=
  ⟨⟨F', G, s', r.kept fun k hk => q.block k (r.lt k hk) (d k hk), fun k hk hf => (q.new k hf).elim (d k hk) fun e => by have := r.lt k hk; omega, Wf.far b q b.size f, q.after b.size f, g, fun i hi => ⟨fun e => (q.new i e).elim (x i hi).1 fun e => by have := (x i hi).2.2.1; omega, (x i hi).2.1, Nat.lt_of_lt_of_le (x i hi).2.2.1 q.size, (x i hi).2.2.2⟩⟩, fun i hi => q.block i (x i hi).2.2.1 (x i hi).1⟩
theorem Rfx.start {F : Nat → Prop} (s : St w S F M) (b : Below B.heap.size B w) (f : ∀ k, F k → B.heap.size ≤ k) (x : ∀ b, X b → ¬ F b ∧ b < w.heap.size ∧ B.heap.size ≤ b) (k : Nat) (hk : 1 ≤ k ∧ k ≤ 4) :
    Calls Tryz.prog 10 #[.int .i64 (k : Int)] w fun e w' => ∃ R, e = .returned (.pointer (some ⟨R, 0, none⟩)) ∧ Rfx B w' S R 0 k M (fun _ => none) (fun _ => []) X ∧ Stay X w w' := by
  refine (Rs.new_any (k : Int) w).mono ?_
  rintro e w' ⟨rfl, ⟨G, r, g⟩, q⟩
  have e1 : Rs.wk (k : Int) = k := by unfold Rs.wk; omega
  rw [e1] at r
  exact ⟨_, rfl, ⟨F, G, s.below q, r, fun b hb hf => by have := s.lt b hf; have := g b hb; omega, Rf.below_far b q, f, fun j hj => Nat.le_trans b.size (g j hj), fun i hi => ⟨(x i hi).1, fun e => by have := g i e; have := (x i hi).2.1; omega, Nat.lt_of_lt_of_le (x i hi).2.1 q.size, (x i hi).2.2⟩⟩, fun i hi => q.block i (x i hi).2.1⟩
theorem Rfx.protect (h : Rfx B w S R m n M P T X) (k c : Int) (hc : (P k).getD 0 = c) (h0 : 0 ≤ c) (h1 : c < 4611686018427387904) :
    Calls Tryz.prog 12 #[.pointer (some ⟨R, 0, none⟩), .int .u32 k] w fun e w' => e = .returned (.tuple #[]) ∧ Rfx B w' S R (m + 1) n M (Rs.at1 P k (some (c + 1))) T X ∧ Stay X w w' := by
  obtain ⟨F, G, s, r, d, b, f, g, x⟩ := h
  refine (r.protect k c hc h0 h1).mono ?_
  rintro e w' ⟨rfl, G', r', mv⟩
  exact ⟨rfl, Rfx.moved s d b f g x r' mv⟩
/-- A function is made. -/
theorem Rfx.make (h : Rfx B w S R m n M P T X) {F : Nat → Bool} (n8 : M.n = 8) (room : M.up + 78 ≤ M.room) :
    Calls Tryz.prog 11 #[.pointer (some ⟨S, 0, none⟩), tab F] w fun e w' => ∃ x M', e = .returned (.tuple #[.int .u32 ((x : Nat) : Int), .bool true]) ∧ MadeIs M 0 F x M' ∧ M'.up ≤ M.up + 63 ∧ Rfx B w' S R m n M' P T X ∧ Stay X w w' := by
  obtain ⟨Fs, G, s, r, d, b, f, g, x⟩ := h
  refine (make_any' (F := F) Rm.tight s (Dep.all s.ok n8 F) (by unfold Tight; rw [n8]; have : (2 : Nat) ^ (8 - 2 - 0) = 64 := rfl; omega)).mono ?_
  rintro e w' ⟨y, M', rfl, ⟨F', s', q⟩, mk⟩
  have u := mk.up
  rw [n8] at u
  exact ⟨y, M', rfl, mk, u, Rfx.wf r d b f g x s' q⟩
theorem Rfx.sweep (h : Rfx B w S R m n M P T X) (hm : m + (Rs.cat T n).length ≤ 60000) (hv : ∀ x, Held P n T x → ∃ y : Nat, x = (y : Int) ∧ M.isNode y) :
    Calls Tryz.prog 18 #[.pointer (some ⟨S, 0, none⟩), .pointer (some ⟨R, 0, none⟩)] w fun e w' => ∃ xs k H, e = .returned (.tuple #[.int .i64 ((M.hs.length : Int) - (xs.length : Int)), .int .i64 0]) ∧ (∀ y : Nat, 2 ≤ y → ((∃ i, i < k ∧ H i = y) ↔ Held P n T (y : Int))) ∧ (∀ i, i < k → 2 ≤ H i) ∧ Rch M H k xs ∧ xs.Pairwise (· < ·) ∧ Rfx B w' S R m n (only M xs) P T X ∧ Stay X w w' := by
  obtain ⟨F, G, s, r, d, b, f, g, x⟩ := h
  refine (sweep_any s r hm d hv).mono ?_
  rintro e w' ⟨xs, F', k, H, rfl, q1, q2, rc, up, s', wf, _, _⟩
  exact ⟨xs, k, H, rfl, q1, q2, rc, up, Rfx.wf r d b f g x s' wf⟩
theorem Rfx.collect (h : Rfx B w S R m n M P T X) {ad : Option Addr} {k cap : Nat} {H : Nat → Nat} (hl : HsAt w ad k H) (all : ∀ i, i < k → M.isNode (H i)) (hn : k ≤ 1000000) :
    Calls Tryz.prog 19 #[.pointer (some ⟨S, 0, none⟩), .slice ad k cap] w fun e w' => ∃ xs, e = .returned (.tuple #[.int .i64 ((M.hs.length : Int) - (xs.length : Int)), .int .i64 0]) ∧ Rch M H k xs ∧ xs.Pairwise (· < ·) ∧ Rfx B w' S R m n (only M xs) P T X ∧ Stay X w w' := by
  obtain ⟨F, G, s, r, d, b, f, g, x⟩ := h
  refine (collect_yes (cap := cap) s hl all hn).mono ?_
  rintro e w' ⟨xs, F', rfl, rc, up, s', wf⟩
  exact ⟨xs, rfl, rc, up, Rfx.wf r d b f g x s' wf⟩
theorem Rfx.reach (h : Rfx B w S R m n M P T X) {ad : Option Addr} {k cap : Nat} {H : Nat → Nat} (hl : HsAt w ad k H) (all : ∀ i, i < k → M.isNode (H i)) (hn : k ≤ 1000000) :
    Calls Tryz.prog 14 #[.pointer (some ⟨S, 0, none⟩), .slice ad k cap] w fun e w' => ∃ ad' cap' xs, e = .returned (.tuple #[.slice ad' xs.length cap', .int .i64 0]) ∧ Rch M H k xs ∧ xs.Pairwise (· < ·) ∧ OwnR 32 w' w.heap.size ad' xs.length cap' (fun i => .int .u32 (xs.getD i 0 : Nat)) ∧ Rfx B w' S R m n M P T (fun b => X b ∨ At ad' b) ∧ Stay X w w' := by
  obtain ⟨F, s⟩ := h.st
  refine (reach_yes (cap := cap) s hl all hn).mono ?_
  rintro e w' ⟨ad', cap', xs, rfl, rc, up, o, b⟩
  have q : Went (fun _ => False) w w' := ⟨b.os, b.tape, b.output, b.size, fun k hk _ => b.block k hk⟩
  exact ⟨ad', cap', xs, rfl, rc, up, o, h.turn q (fun _ e => e.elim) fun i hi => hi.imp id fun e => o.block i e, (h.below b).2⟩
theorem Rfx.len (h : Rfx B w S R m n M P T X) : Calls Tryz.prog 13 #[.pointer (some ⟨S, 0, none⟩)] w fun e w' => e = .returned (.int .i64 (M.hs.length : Int)) ∧ ∃ q, w' = w.drewN q := by
  obtain ⟨F, s⟩ := h.st
  exact s_len s
theorem Rfx.isf (h : Rfx B w S R m n M P T X) {x : Nat} {Y : Nat → Bool} (hx : M.isNode x) (e : Eqt (M.tbl x) Y) :
    Calls Tryz.prog 23 #[.pointer (some ⟨S, 0, none⟩), .int .u32 (x : Int), tab Y] w fun e w' => e = .returned (.bool true) ∧ Below w.heap.size w w' := by
  obtain ⟨F, s⟩ := h.st
  have := isf_any (G := Y) s hx
  rwa [same_true e] at this
end
end Go.Proofs.YtlmbofbdncgaiaaGreat.Mk
