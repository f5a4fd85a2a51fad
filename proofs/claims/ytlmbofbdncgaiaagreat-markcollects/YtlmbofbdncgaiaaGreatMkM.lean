/-
  Sweep: a Collect of what is protected or on a stack; whether a handle is among others.
-/
import Derived.Test.YtlmbofbdncgaiaaGreatMkL
import Derived.Test.YtlmbofbdncgaiaaGreatRsFace
namespace Go.Proofs.YtlmbofbdncgaiaaGreat.Mk
open Go Go.RowKit
open Rf (tab word IsTab)

/-- A handle is held. -/
def Held (P : Int → Option Int) (n : Nat) (T : Nat → List Int) (x : Int) : Prop := (P x).isSome = true ∨ ∃ k, k < n ∧ x ∈ T k
section
variable {w : World} {S R m n : Nat} {F G : Nat → Prop} {M : Mdl} {P : Int → Option Int} {T : Nat → List Int}
def SwQ (S R m n : Nat) (F G : Nat → Prop) (M : Mdl) (P : Int → Option Int) (T : Nat → List Int) (w : World) (e : Ending) (w' : World) : Prop :=
  ∃ xs F' k H, e = .returned (.tuple #[.int .i64 ((M.hs.length : Int) - (xs.length : Int)), .int .i64 0]) ∧ (∀ y : Nat, 2 ≤ y → ((∃ i, i < k ∧ H i = y) ↔ Held P n T (y : Int))) ∧ (∀ i, i < k → 2 ≤ H i) ∧ Rch M H k xs ∧ xs.Pairwise (· < ·) ∧ St w' S F' (only M xs) ∧ Wf F F' w w' ∧ Rs.Has w' R G P m n T ∧ ∀ b, G b → ¬ F' b
theorem nat_list (l : List Int) (h : ∀ x ∈ l, ∃ y : Nat, x = (y : Int)) : l = (l.map Int.toNat).map fun x : Nat => (x : Int) := by
  rw [List.map_map]
  refine (List.map_id' l).symm.trans (List.map_congr_left fun x hx => ?_)
  obtain ⟨y, rfl⟩ := h x hx
  simp
set_option maxRecDepth 100000 in
set_option maxHeartbeats 2000000 in
theorem sweep_any (s : St w S F M) (r : Rs.Has w R G P m n T) (hm : m + (Rs.cat T n).length ≤ 60000) (dis : ∀ b, G b → ¬ F b) (hv : ∀ x, Held P n T x → ∃ y : Nat, x = (y : Int) ∧ M.isNode y) :
    Calls Tryz.prog 18 #[.pointer (some ⟨S, 0, none⟩), .pointer (some ⟨R, 0, none⟩)] w (SwQ S R m n F G M P T w) := by
  have K1 := r.roots hm
  have sA : Aside (∀ u, Below w.heap.size w u → St u S F M) := fun u k => s.below k
  have rA : Aside (∀ u, Below w.heap.size w u → Rs.Has u R G P m n T) := fun u k => r.below k
  have gA : Aside (∀ b, G b → b < w.heap.size) := r.lt
  have dA : Aside (∀ b, G b → ¬ F b) := dis
  have vA : Aside (∀ x, Held P n T x → ∃ y : Nat, x = (y : Int) ∧ M.isNode y) := hv
  clear s r hm dis hv
  go_enter Tryz.func18, Tryz.ntmps18
  go_wp2_with (first
    | (go_at_call 41; refine K1.mono ?_; clear K1; rintro e w1 ⟨ad, cap, l, rfl, il, ll, o1, n1, b1⟩; have hnat := nat_list l (fun x hx => (vA.out x ((il.mem x).1 hx).2).imp fun y h => h.1); have hs : HsAt w1 ad l.length (fun i => (l.map Int.toNat).getD i 0) := (by have := HsAt.own (own_nat o1 _ hnat); rwa [List.length_map] at this); have s1 := sA.out w1 b1; have K2 := collect_yes (cap := cap) s1 hs (fun i hi => (by have hi' : i < (l.map Int.toNat).length := (by rw [List.length_map]; exact hi); rw [List.getD_eq_getElem?_getD, List.getElem?_eq_getElem hi']; show M.isNode _; rw [Option.getD_some, List.getElem_map]; obtain ⟨y, e, hy⟩ := vA.out _ ((il.mem _).1 (List.getElem_mem hi)).2; rw [e]; exact hy)) (by omega); have fA : Aside (Rs.IsRoots P n T l ∧ Below w.heap.size w w1 ∧ l = (l.map Int.toNat).map fun x : Nat => (x : Int)) := ⟨il, b1, hnat⟩; clear il ll o1 n1 b1 hnat hs s1)
    | (go_at_call 19; refine K2.mono ?_; clear K2; rintro e w2 ⟨xs, F2, rfl, rc, up, s2, g2⟩; have qA : Aside (Rch M (fun i => (l.map Int.toNat).getD i 0) l.length xs ∧ xs.Pairwise (· < ·) ∧ St w2 S F2 (only M xs) ∧ Wf F F2 w1 w2) := ⟨rc, up, s2, g2⟩; clear rc up s2 g2))
  go_ret2
  obtain ⟨il, b1, hnat⟩ := fA.out
  obtain ⟨rc, up, s2, g2⟩ := qA.out
  have memL : ∀ y : Nat, (y : Int) ∈ l ↔ ∃ i, i < l.length ∧ (l.map Int.toNat).getD i 0 = y := fun y => by
    constructor
    · intro hy
      obtain ⟨i, hi, e⟩ := List.getElem_of_mem hy
      exact ⟨i, hi, by rw [List.getD_eq_getElem?_getD, List.getElem?_eq_getElem (by rw [List.length_map]; exact hi), Option.getD_some, List.getElem_map, e]; simp⟩
    · rintro ⟨i, hi, e⟩
      rw [List.getD_eq_getElem?_getD, List.getElem?_eq_getElem (by rw [List.length_map]; exact hi), Option.getD_some, List.getElem_map] at e
      obtain ⟨z, ez, _⟩ := vA.out _ ((il.mem _).1 (List.getElem_mem hi)).2
      have := List.getElem_mem hi
      rw [ez] at e this
      rw [show y = z by rw [← e]; simp]
      exact this
  refine ⟨xs, F2, l.length, _, rfl, fun y hy => ?_, fun i hi => ?_, rc, up, s2, (Wf.of_below b1 F).trans g2, (rA.out w1 b1).kept fun b hb => g2.block b (Nat.lt_of_lt_of_le (gA.out b hb) b1.size) (dA.out b hb), fun b hb hf => ?_⟩
  · rw [← memL y, il.mem]
    constructor
    · exact fun h => h.2
    · exact fun h => ⟨decide_eq_false (by omega), h⟩
  · have h := (memL _).2 ⟨i, hi, rfl⟩
    have := ((il.mem _).1 h).1
    have := of_decide_eq_false this
    omega
  · rcases g2.new b hf with e | e
    · exact dA.out b hb e
    · have := gA.out b hb
      have := b1.size
      omega
end
/-- A store and what is held, beside one another; all of it is new to a base. -/
def Rfs (B w : World) (S R m n : Nat) (M : Mdl) (P : Int → Option Int) (T : Nat → List Int) : Prop := ∃ F G, St w S F M ∧ Rs.Has w R G P m n T ∧ (∀ b, G b → ¬ F b) ∧ Below B.heap.size B w ∧ (∀ k, F k → B.heap.size ≤ k) ∧ ∀ k, G k → B.heap.size ≤ k
section
variable {B w w' : World} {S R m n : Nat} {M M' : Mdl} {P : Int → Option Int} {T : Nat → List Int}
theorem Rfs.base (h : Rfs B w S R m n M P T) : Below B.heap.size B w := by obtain ⟨F, G, s, r, d, b, f, g⟩ := h; exact b
theorem Rfs.st (h : Rfs B w S R m n M P T) : ∃ F, St w S F M := by obtain ⟨F, G, s, r, d, b, f, g⟩ := h; exact ⟨F, s⟩
theorem Rfs.ok (h : Rfs B w S R m n M P T) : M.Ok := by obtain ⟨F, s⟩ := h.st; exact s.ok
theorem Rfs.below (h : Rfs B w S R m n M P T) (k : Below w.heap.size w w') : Rfs B w' S R m n M P T := by
  obtain ⟨F, G, s, r, d, b, f, g⟩ := h
  exact ⟨F, G, s.below k, r.below k, d, Rf.below_far b k, f, g⟩
theorem Rfs.drewN (h : Rfs B w S R m n M P T) (q : Nat) : Rfs B (w.drewN q) S R m n M P T := by
  obtain ⟨F, G, s, r, d, b, f, g⟩ := h
  exact ⟨F, G, s.drewN q, r.drewN q, d, ⟨b.os, b.tape, b.output, b.size, b.block⟩, f, g⟩
theorem Rfs.moved {F G G' : Nat → Prop} {P' : Int → Option Int} {T' : Nat → List Int} {m' : Nat} (s : St w S F M) (d : ∀ b, G b → ¬ F b) (b : Below B.heap.size B w) (f : ∀ k, F k → B.heap.size ≤ k) (g : ∀ k, G k → B.heap.size ≤ k) (r : Rs.Has w' R G' P' m' n T') (mv : Rs.Moved G G' w w') : Rfs B w' S R m' n M P' T' := by
  obtain ⟨b', g'⟩ := mv.old g b.size
  refine ⟨F, G', s.kept fun k hk => mv.went.block k (s.lt k hk) fun e => d k e hk, r, fun k hk hf => ?_, b.trans b', f, g'⟩
  rcases mv.new k hk with e | e
  · exact d k e hf
  · have := s.lt k hf
    omega
theorem Rfs.wf {F F' G : Nat → Prop} (r : Rs.Has w R G P m n T) (d : ∀ b, G b → ¬ F b) (b : Below B.heap.size B w) (f : ∀ k, F k → B.heap.size ≤ k) (g : ∀ k, G k → B.heap.size ≤ k) (s' : St w' S F' M') (q : Wf F F' w w') : Rfs B w' S R m n M' P T :=
  ⟨F', G, s', r.kept fun k hk => q.block k (r.lt k hk) (d k hk), fun k hk hf => (q.new k hf).elim (d k hk) fun e => by have := r.lt k hk; omega, Wf.far b q b.size f, q.after b.size f, g⟩
theorem Rfs.start {F : Nat → Prop} (s : St w S F M) (b : Below B.heap.size B w) (f : ∀ k, F k → B.heap.size ≤ k) (k : Nat) (hk : 1 ≤ k ∧ k ≤ 4) :
    Calls Tryz.prog 10 #[.int .i64 (k : Int)] w fun e w' => ∃ R, e = .returned (.pointer (some ⟨R, 0, none⟩)) ∧ Rfs B w' S R 0 k M (fun _ => none) (fun _ => []) := by
  refine (Rs.new_any (k : Int) w).mono ?_
  rintro e w' ⟨rfl, ⟨G, r, g⟩, q⟩
  have e1 : Rs.wk (k : Int) = k := by unfold Rs.wk; omega
  rw [e1] at r
  exact ⟨_, rfl, F, G, s.below q, r, fun b hb hf => by have := s.lt b hf; have := g b hb; omega, Rf.below_far b q, f, fun j hj => Nat.le_trans b.size (g j hj)⟩
theorem Rfs.protect (h : Rfs B w S R m n M P T) (k c : Int) (hc : (P k).getD 0 = c) (h0 : 0 ≤ c) (h1 : c < 4611686018427387904) :
    Calls Tryz.prog 12 #[.pointer (some ⟨R, 0, none⟩), .int .u32 k] w fun e w' => e = .returned (.tuple #[]) ∧ Rfs B w' S R (m + 1) n M (Rs.at1 P k (some (c + 1))) T := by
  obtain ⟨F, G, s, r, d, b, f, g⟩ := h
  refine (r.protect k c hc h0 h1).mono ?_
  rintro e w' ⟨rfl, G', r', mv⟩
  exact ⟨rfl, Rfs.moved s d b f g r' mv⟩
theorem Rfs.push (h : Rfs B w S R m n M P T) (i : Nat) (hi : i < n) (x : Int) (hlen : (T i).length + 1 ≤ 1000000) :
    Calls Tryz.prog 27 #[.pointer (some ⟨R, 0, none⟩), .int .i64 (i : Int), .int .u32 x] w fun e w' => e = .returned (.bool true) ∧ Rfs B w' S R m n M P (Rs.up T i (T i ++ [x])) := by
  obtain ⟨F, G, s, r, d, b, f, g⟩ := h
  refine (r.push i hi x hlen).mono ?_
  rintro e w' ⟨rfl, G', r', mv⟩
  exact ⟨rfl, Rfs.moved s d b f g r' mv⟩
theorem Rfs.pop (h : Rfs B w S R m n M P T) (i : Nat) (hi : i < n) (xs : List Int) (x : Int) (hT : T i = xs ++ [x]) (hlen : (T i).length ≤ 1000000) :
    Calls Tryz.prog 28 #[.pointer (some ⟨R, 0, none⟩), .int .i64 (i : Int)] w fun e w' => e = .returned (.tuple #[.int .u32 x, .bool true]) ∧ Rfs B w' S R m n M P (Rs.up T i xs) := by
  obtain ⟨F, G, s, r, d, b, f, g⟩ := h
  refine (r.pop i hi xs x hT hlen).mono ?_
  rintro e w' ⟨rfl, r', mv⟩
  exact ⟨rfl, Rfs.moved s d b f g r' mv⟩
theorem Rfs.sweep (h : Rfs B w S R m n M P T) (hm : m + (Rs.cat T n).length ≤ 60000) (hv : ∀ x, Held P n T x → ∃ y : Nat, x = (y : Int) ∧ M.isNode y) :
    Calls Tryz.prog 18 #[.pointer (some ⟨S, 0, none⟩), .pointer (some ⟨R, 0, none⟩)] w fun e w' => ∃ xs k H, e = .returned (.tuple #[.int .i64 ((M.hs.length : Int) - (xs.length : Int)), .int .i64 0]) ∧ (∀ y : Nat, 2 ≤ y → ((∃ i, i < k ∧ H i = y) ↔ Held P n T (y : Int))) ∧ (∀ i, i < k → 2 ≤ H i) ∧ Rch M H k xs ∧ xs.Pairwise (· < ·) ∧ Rfs B w' S R m n (only M xs) P T := by
  obtain ⟨F, G, s, r, d, b, f, g⟩ := h
  refine (sweep_any s r hm d hv).mono ?_
  rintro e w' ⟨xs, F', k, H, rfl, q1, q2, rc, up, s', wf, _, _⟩
  exact ⟨xs, k, H, rfl, q1, q2, rc, up, Rfs.wf r d b f g s' wf⟩
theorem Rfs.reach (h : Rfs B w S R m n M P T) {ad : Option Addr} {k cap : Nat} {H : Nat → Nat} (hl : HsAt w ad k H) (all : ∀ i, i < k → M.isNode (H i)) (hn : k ≤ 1000000) :
    Calls Tryz.prog 14 #[.pointer (some ⟨S, 0, none⟩), .slice ad k cap] w fun e w' => ∃ ad' cap' xs, e = .returned (.tuple #[.slice ad' xs.length cap', .int .i64 0]) ∧ Rch M H k xs ∧ xs.Pairwise (· < ·) ∧ HsAt w' ad' xs.length (fun i => xs.getD i 0) ∧ Rfs B w' S R m n M P T := by
  obtain ⟨F, s⟩ := h.st
  refine (reach_yes (cap := cap) s hl all hn).mono ?_
  rintro e w' ⟨ad', cap', xs, rfl, rc, up, o, b⟩
  exact ⟨ad', cap', xs, rfl, rc, up, HsAt.own o, h.below b⟩
theorem Rfs.len (h : Rfs B w S R m n M P T) : Calls Tryz.prog 13 #[.pointer (some ⟨S, 0, none⟩)] w fun e w' => e = .returned (.int .i64 (M.hs.length : Int)) ∧ ∃ q, w' = w.drewN q := by
  obtain ⟨F, s⟩ := h.st
  exact s_len s
theorem Rfs.isf (h : Rfs B w S R m n M P T) {x : Nat} {Y : Nat → Bool} (hx : M.isNode x) (e : Eqt (M.tbl x) Y) :
    Calls Tryz.prog 23 #[.pointer (some ⟨S, 0, none⟩), .int .u32 (x : Int), tab Y] w fun e w' => e = .returned (.bool true) ∧ Rfs B w' S R m n M P T ∧ Below w.heap.size w w' := by
  obtain ⟨F, s⟩ := h.st
  have := isf_any (G := Y) s hx
  rw [same_true e] at this
  refine this.mono ?_
  rintro e w' ⟨rfl, b⟩
  exact ⟨rfl, h.below b, b⟩
theorem Rfs.is (h : Rfs B w S R m n M P T) (x : Nat) (hx : x < 4294967296) :
    Calls Tryz.prog 24 #[.pointer (some ⟨S, 0, none⟩), .int .u32 (x : Int)] w fun e w' => e = .returned (.bool (M.nodeB x)) ∧ w' = w := by
  obtain ⟨F, s⟩ := h.st
  exact s_is s x hx
theorem HsAt.drewN {ad : Option Addr} {k : Nat} {H : Nat → Nat} (h : HsAt w ad k H) (q : Nat) : HsAt (w.drewN q) ad k H := h.kept ⟨rfl, rfl, rfl, Nat.le_refl _, fun _ _ => rfl⟩
end
/-- What is kept is what it was. -/
theorem only_grew {M : Mdl} {H : Nat → Nat} {n : Nat} {xs : List Nat} (r : Rch M H n xs) : Mdl.Grew (only M xs) M := ⟨rfl, rfl, rfl, fun h hx => ⟨r.inn h hx, rfl⟩⟩
theorem only_tbl {M : Mdl} {H : Nat → Nat} {n : Nat} {xs : List Nat} (r : Rch M H n xs) (o : (only M xs).Ok) {x : Nat} (hx : (only M xs).isNode x) {X : Nat → Bool} (e : Eqt (M.tbl x) X) : Eqt ((only M xs).tbl x) X := fun y hy => by rw [← (only_grew r).tbl o hx y]; exact e y hy
set_option maxRecDepth 100000 in
set_option maxHeartbeats 2000000 in
theorem in_any {w : World} {ad : Option Addr} {cap : Nat} {xs : List Nat} (hl : HsAt w ad xs.length (fun i => xs.getD i 0)) (hn : xs.length ≤ 1000000) (h : Nat) :
    Calls Tryz.prog 29 #[.slice ad xs.length cap, .int .u32 (h : Int)] w fun e w' => e = .returned (.bool (decide (h ∈ xs))) ∧ w' = w := by
  obtain ⟨n, hn'⟩ : ∃ n, xs.length = n := ⟨_, rfl⟩
  have hnA : Aside (xs.length = n) := hn'
  rw [hn'] at hl hn ⊢
  clear hn'
  have lA : Aside (HsAt w ad n (fun i => xs.getD i 0)) := hl
  clear hl
  go_enter Tryz.func29, Tryz.ntmps29
  go_wp2_with fail
  go_loopg [5] n (fun g si wr => ∃ (j : Nat), j + g = n ∧ si = .int .i64 (j : Int) ∧ Aside (∀ i, i < j → xs.getD i 0 ≠ h) ∧ w = wr)
  case atStart => exact ⟨0, by omega, rfl, fun i hi => absurd hi (Nat.not_lt_zero _), rfl⟩
  case round =>
    obtain ⟨j, hj, rfl, hN, rfl⟩ := hrel
    have hJ : Aside (j + gk = n) := hj
    have hjn : j ≤ n := by omega
    clear hj
    by_cases hlt : j < n
    · have hlt' : (j : Int) < (n : Int) := by omega
      obtain ⟨bl, off, rfl, hbl⟩ := lA.out.some (by omega)
      have hc : w.cell? ⟨bl, off + j, none⟩ = some (.int .u32 (xs.getD j 0 : Int)) := lA.out.get hlt
      have hjw : IntKind.i64.wrap ((j : Int) + 1) = (j : Int) + 1 := by rw [IntKind.wrap_i64]; omega
      by_cases e : xs.getD j 0 = h
      · rw [e] at hc
        have fin : decide (h ∈ xs) = true := decide_eq_true (by
          have hjl : j < xs.length := by rw [hnA.out]; exact hlt
          rw [← e, List.getD_eq_getElem?_getD, List.getElem?_eq_getElem hjl]
          exact List.getElem_mem hjl)
        have finA : Aside (decide (h ∈ xs) = true) := fin
        clear e hlt fin
        go_wp2_with fail
        go_ret
        exact ⟨by rw [finA.out]; rfl, rfl⟩
      · have hne : ¬ (xs.getD j 0 : Int) = (h : Int) := by omega
        have hltA : Aside (j < n) := hlt
        have hN2 : Aside (∀ i, i < j + 1 → xs.getD i 0 ≠ h) := fun i hi => by
          by_cases c : i = j
          · rw [c]; exact e
          · exact hN.out i (by omega)
        clear e hlt
        generalize xs.getD j 0 = x at hc hne
        go_wp2_with fail
        go_roundg (gk - 1)
        case measure => have := hJ.out; have := hltA.out; omega
        case rel =>
          have := hJ.out
          have := hltA.out
          exact ⟨j + 1, by omega, by go_num, hN2, rfl⟩
    · obtain rfl : j = n := by omega
      have finA : Aside (decide (h ∈ xs) = false) := decide_eq_false fun hm => by
        obtain ⟨i, hi, e⟩ := List.getElem_of_mem hm
        refine hN.out i (by have := hnA.out; omega) ?_
        rw [List.getD_eq_getElem?_getD, List.getElem?_eq_getElem hi]
        exact e
      clear hlt hJ hjn hN
      go_wp2_with fail
      go_ret
      exact ⟨by rw [finA.out]; rfl, rfl⟩
end Go.Proofs.YtlmbofbdncgaiaaGreat.Mk
