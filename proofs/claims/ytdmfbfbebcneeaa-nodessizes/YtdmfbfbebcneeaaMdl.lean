/-
  Stores of nodes without a program: what is a node, which function it is, that two nodes are one just if their functions are; a node more.
-/
import Derived.Handy
namespace Go.Proofs.Ytdmfbfbebcneeaa

/-- A level, low and high. -/
abbrev Nd := Nat × Nat × Nat
/-- A store: so many variables, which lies at which level, its room, its inner nodes by their handles. -/
structure Mdl where
  n : Nat
  v : Nat → Nat
  room : Nat
  hs : List Nat
  nd : Nat → Nd

namespace Mdl
def isNode (M : Mdl) (h : Nat) : Prop := h < 2 ∨ h ∈ M.hs
instance (M : Mdl) (h : Nat) : Decidable (M.isNode h) := inferInstanceAs (Decidable (h < 2 ∨ h ∈ M.hs))
def lev (M : Mdl) (h : Nat) : Nat := if h < 2 then M.n else (M.nd h).1
/-- The function of a handle at an assignment, looked for so deep. -/
def den (M : Mdl) : Nat → Nat → (Nat → Bool) → Bool
  | 0, h, _ => decide (h = 1)
  | f + 1, h, a => if h < 2 then decide (h = 1) else if a (M.v (M.nd h).1) = true then M.den f (M.nd h).2.2 a else M.den f (M.nd h).2.1 a
def val (M : Mdl) (h : Nat) (a : Nat → Bool) : Bool := M.den M.n h a

structure Ok (M : Mdl) : Prop where
  pos : 1 ≤ M.n
  le8 : M.n ≤ 8
  vlt : ∀ i, i < M.n → M.v i < M.n
  vinj : ∀ i j, i < M.n → j < M.n → M.v i = M.v j → i = j
  sorted : M.hs.Pairwise (· < ·)
  range : ∀ h ∈ M.hs, 2 ≤ h ∧ h < 268435456
  len : M.hs.length ≤ M.room
  lv : ∀ h ∈ M.hs, (M.nd h).1 < M.n
  ne : ∀ h ∈ M.hs, (M.nd h).2.1 ≠ (M.nd h).2.2
  lo : ∀ h ∈ M.hs, M.isNode (M.nd h).2.1 ∧ (M.nd h).1 < M.lev (M.nd h).2.1
  hi : ∀ h ∈ M.hs, M.isNode (M.nd h).2.2 ∧ (M.nd h).1 < M.lev (M.nd h).2.2
  one : ∀ h ∈ M.hs, ∀ k ∈ M.hs, M.nd h = M.nd k → h = k

section
variable {M : Mdl}
theorem lev_in (o : M.Ok) {h : Nat} (hh : h ∈ M.hs) : M.lev h = (M.nd h).1 := by
  unfold lev; rw [if_neg]; have := (o.range h hh).1; omega
theorem lev_const {h : Nat} (hh : h < 2) : M.lev h = M.n := by unfold lev; rw [if_pos hh]
theorem lev_le (o : M.Ok) {h : Nat} (hh : M.isNode h) : M.lev h ≤ M.n := by
  rcases hh with e | e
  · rw [lev_const e]; exact Nat.le_refl _
  · rw [lev_in o e]; exact Nat.le_of_lt (o.lv h e)
theorem inner_of_lev {h : Nat} (hh : M.isNode h) (hl : M.lev h < M.n) : h ∈ M.hs := by
  rcases hh with e | e
  · rw [lev_const e] at hl; omega
  · exact e
theorem isNode_lt (o : M.Ok) {h : Nat} (hh : M.isNode h) : h < 268435456 := by
  rcases hh with e | e
  · omega
  · exact (o.range h e).2
theorem den_const (f : Nat) {h : Nat} (hh : h < 2) (a : Nat → Bool) : M.den f h a = decide (h = 1) := by
  cases f with
  | zero => rfl
  | succ f => rw [den, if_pos hh]
theorem den_in (f : Nat) {h : Nat} (hh : ¬ h < 2) (a : Nat → Bool) : M.den (f + 1) h a = if a (M.v (M.nd h).1) = true then M.den f (M.nd h).2.2 a else M.den f (M.nd h).2.1 a := by
  rw [den, if_neg hh]
theorem den_more (o : M.Ok) (a : Nat → Bool) : ∀ (f h : Nat), M.isNode h → M.n - M.lev h ≤ f → M.den (f + 1) h a = M.den f h a
  | 0, h, hh, hf => by
    have hl : M.lev h = M.n := by have := lev_le o hh; omega
    have hc : h < 2 := by
      rcases hh with e | e
      · exact e
      · have := o.lv h e; rw [lev_in o e] at hl; omega
    rw [den_const _ hc, den_const _ hc]
  | f + 1, h, hh, hf => by
    by_cases hc : h < 2
    · rw [den_const _ hc, den_const _ hc]
    · have hm : h ∈ M.hs := hh.resolve_left hc
      have l1 := o.lo h hm
      have l2 := o.hi h hm
      rw [lev_in o hm] at hf
      rw [den_in _ hc, den_in _ hc, den_more o a f _ l1.1 (by omega), den_more o a f _ l2.1 (by omega)]
theorem val_const {h : Nat} (hh : h < 2) (a : Nat → Bool) : M.val h a = decide (h = 1) := den_const _ hh a
theorem val_zero (a : Nat → Bool) : M.val 0 a = false := val_const (by omega) a
theorem val_one (a : Nat → Bool) : M.val 1 a = true := val_const (by omega) a
/-- What an inner node is. -/
theorem val_in (o : M.Ok) {h : Nat} (hm : h ∈ M.hs) (a : Nat → Bool) : M.val h a = if a (M.v (M.nd h).1) = true then M.val (M.nd h).2.2 a else M.val (M.nd h).2.1 a := by
  have hc : ¬ h < 2 := by have := (o.range h hm).1; omega
  have l1 := o.lo h hm
  have l2 := o.hi h hm
  have hp := o.pos
  obtain ⟨m, hm'⟩ : ∃ m, M.n = m + 1 := ⟨M.n - 1, by omega⟩
  unfold val
  rw [hm', den_in _ hc, den_more o a m _ l1.1 (by omega), den_more o a m _ l2.1 (by omega)]
/-- It hangs on the variables of its level and those deeper alone. -/
theorem val_congr (o : M.Ok) (d : Nat) : ∀ {h : Nat} {a b : Nat → Bool}, M.isNode h → M.n - M.lev h ≤ d → (∀ j, M.lev h ≤ j → j < M.n → a (M.v j) = b (M.v j)) → M.val h a = M.val h b := by
  induction d with
  | zero =>
    intro h a b hh hd _
    by_cases hc : h < 2
    · rw [val_const hc, val_const hc]
    · have hm : h ∈ M.hs := hh.resolve_left hc
      have := o.lv h hm
      rw [lev_in o hm] at hd
      omega
  | succ d ih =>
    intro h a b hh hd hab
    by_cases hc : h < 2
    · rw [val_const hc, val_const hc]
    · have hm : h ∈ M.hs := hh.resolve_left hc
      have l0 := o.lv h hm
      have l1 := o.lo h hm
      have l2 := o.hi h hm
      rw [lev_in o hm] at hd hab
      rw [val_in o hm, val_in o hm, hab _ (Nat.le_refl _) l0]
      rw [ih l1.1 (by omega) (fun j hj hn => hab j (by omega) hn), ih l2.1 (by omega) (fun j hj hn => hab j (by omega) hn)]
end

/-- An assignment with one variable turned. -/
def setA (a : Nat → Bool) (i : Nat) (b : Bool) : Nat → Bool := fun j => if j = i then b else a j
theorem setA_same (a : Nat → Bool) (i : Nat) (b : Bool) : setA a i b i = b := if_pos rfl
theorem setA_other (a : Nat → Bool) {i j : Nat} (b : Bool) (h : j ≠ i) : setA a i b j = a j := if_neg h

section
variable {M : Mdl}
theorem val_set (o : M.Ok) {h i : Nat} (hh : M.isNode h) (hi : i < M.lev h) (hn : i < M.n) (a : Nat → Bool) (b : Bool) : M.val h (setA a (M.v i) b) = M.val h a :=
  val_congr o _ hh (Nat.le_refl _) fun j hj hjn => setA_other _ _ fun e => by have := o.vinj j i hjn hn e; omega
theorem val_lo (o : M.Ok) {h : Nat} (hm : h ∈ M.hs) (a : Nat → Bool) : M.val h (setA a (M.v (M.nd h).1) false) = M.val (M.nd h).2.1 a := by
  rw [val_in o hm, setA_same, if_neg (by simp)]
  exact val_set o (o.lo h hm).1 (o.lo h hm).2 (o.lv h hm) a false
theorem val_hi (o : M.Ok) {h : Nat} (hm : h ∈ M.hs) (a : Nat → Bool) : M.val h (setA a (M.v (M.nd h).1) true) = M.val (M.nd h).2.2 a := by
  rw [val_in o hm, setA_same, if_pos rfl]
  exact val_set o (o.hi h hm).1 (o.hi h hm).2 (o.lv h hm) a true
/-- Two nodes of one function are one. -/
theorem canon (o : M.Ok) (d : Nat) : ∀ {h k : Nat}, M.isNode h → M.isNode k → M.n - M.lev h ≤ d → M.n - M.lev k ≤ d → (∀ a, M.val h a = M.val k a) → h = k := by
  have deeper : ∀ (d : Nat), (∀ {h k : Nat}, M.isNode h → M.isNode k → M.n - M.lev h ≤ d → M.n - M.lev k ≤ d → (∀ a, M.val h a = M.val k a) → h = k) → ∀ {h k : Nat}, h ∈ M.hs → M.isNode k → M.n - M.lev h ≤ d + 1 → M.lev h < M.lev k → (∀ a, M.val h a = M.val k a) → False := by
    intro d ih h k hm hk hd hl e
    have l0 := o.lv h hm
    have l1 := o.lo h hm
    have l2 := o.hi h hm
    rw [lev_in o hm] at hd hl
    refine o.ne h hm (ih l1.1 l2.1 (by omega) (by omega) fun a => ?_)
    rw [← val_lo o hm, ← val_hi o hm, e, e, val_set o hk hl l0, val_set o hk hl l0]
  induction d with
  | zero =>
    intro h k hh hk hd hd' e
    have hc : h < 2 := by
      rcases hh with c | c
      · exact c
      · have := o.lv h c; rw [lev_in o c] at hd; omega
    have kc : k < 2 := by
      rcases hk with c | c
      · exact c
      · have := o.lv k c; rw [lev_in o c] at hd'; omega
    have := e fun _ => false
    rw [val_const hc, val_const kc] at this
    by_cases h1 : h = 1 <;> by_cases k1 : k = 1 <;> simp [h1, k1] at this <;> omega
  | succ d ih =>
    intro h k hh hk hd hd' e
    rcases Nat.lt_trichotomy (M.lev h) (M.lev k) with c | c | c
    · have hm := inner_of_lev hh (Nat.lt_of_lt_of_le c (lev_le o hk))
      exact (deeper d (fun a b c d e => ih a b c d e) hm hk hd c e).elim
    · by_cases hn : M.lev h < M.n
      · have hm := inner_of_lev hh hn
        have km := inner_of_lev hk (by omega)
        have hl := lev_in o hm
        have kl := lev_in o km
        have l0 := o.lv h hm
        have l1 := o.lo h hm
        have l2 := o.hi h hm
        have k1 := o.lo k km
        have k2 := o.hi k km
        have lv : (M.nd h).1 = (M.nd k).1 := by omega
        have e1 : (M.nd h).2.1 = (M.nd k).2.1 := ih l1.1 k1.1 (by omega) (by omega) fun a => by
          rw [← val_lo o hm, ← val_lo o km, lv]; exact e _
        have e2 : (M.nd h).2.2 = (M.nd k).2.2 := ih l2.1 k2.1 (by omega) (by omega) fun a => by
          rw [← val_hi o hm, ← val_hi o km, lv]; exact e _
        exact o.one h hm k km (Prod.ext lv (Prod.ext e1 e2))
      · have hc : h < 2 := by
          rcases hh with x | x
          · exact x
          · have := o.lv h x; rw [lev_in o x] at hn; omega
        have kc : k < 2 := by
          rcases hk with x | x
          · exact x
          · have := o.lv k x; rw [lev_in o x] at c; omega
        have := e fun _ => false
        rw [val_const hc, val_const kc] at this
        by_cases h1 : h = 1 <;> by_cases k1 : k = 1 <;> simp [h1, k1] at this <;> omega
    · have km := inner_of_lev hk (Nat.lt_of_lt_of_le c (lev_le o hh))
      exact (deeper d (fun a b c d e => ih a b c d e) km hh hd' c fun a => (e a).symm).elim
theorem val_one_iff (o : M.Ok) {h k : Nat} (hh : M.isNode h) (hk : M.isNode k) : (∀ a, M.val h a = M.val k a) ↔ h = k :=
  ⟨fun e => canon o M.n hh hk (by omega) (by omega) e, fun e _ => by rw [e]⟩
end

/-! ## Assignments as numbers -/
theorem exists_num (a : Nat → Bool) : ∀ m : Nat, ∃ x : Nat, x < 2 ^ m ∧ ∀ i, i < m → x.testBit i = a i
  | 0 => ⟨0, by simp, fun i hi => absurd hi (Nat.not_lt_zero _)⟩
  | m + 1 => by
    obtain ⟨x, hx, e⟩ := exists_num a m
    cases hm : a m with
    | false =>
      refine ⟨x, by rw [Nat.pow_succ]; omega, fun i hi => ?_⟩
      by_cases c : i = m
      · rw [c, hm]; exact Nat.testBit_lt_two_pow hx
      · exact e i (by omega)
    | true =>
      refine ⟨2 ^ m + x, by rw [Nat.pow_succ]; omega, fun i hi => ?_⟩
      by_cases c : i = m
      · rw [c, hm, Nat.testBit_two_pow_add_eq, Nat.testBit_lt_two_pow hx]; rfl
      · rw [Nat.testBit_two_pow_add_gt (by omega)]; exact e i (by omega)
section
variable {M : Mdl}
/-- The function of a node as a table. -/
def tbl (M : Mdl) (h x : Nat) : Bool := M.val h x.testBit
theorem val_num (o : M.Ok) (a : Nat → Bool) : ∃ x, x < 256 ∧ ∀ k, M.isNode k → M.val k a = M.tbl k x := by
  obtain ⟨x, hx, e⟩ := exists_num a 8
  exact ⟨x, by simpa using hx, fun k hk => val_congr o _ hk (Nat.le_refl _) fun j _ hj => (e _ (by have := o.vlt j hj; have := o.le8; omega)).symm⟩
theorem one_iff (o : M.Ok) {h k : Nat} (hh : M.isNode h) (hk : M.isNode k) : (∀ x, x < 256 → M.tbl h x = M.tbl k x) ↔ h = k := by
  refine ⟨fun e => (val_one_iff o hh hk).1 fun a => ?_, fun e _ _ => by rw [e]⟩
  obtain ⟨x, hx, q⟩ := val_num o a
  rw [q h hh, q k hk, e x hx]
end

/-! ## A node more -/
/-- All that was there is there, and is what it was. -/
structure Grew (M M' : Mdl) : Prop where
  n : M'.n = M.n
  v : M'.v = M.v
  room : M'.room = M.room
  keep : ∀ h ∈ M.hs, h ∈ M'.hs ∧ M'.nd h = M.nd h
section
variable {M M' M'' : Mdl}
theorem Grew.refl (M : Mdl) : Grew M M := ⟨rfl, rfl, rfl, fun _ h => ⟨h, rfl⟩⟩
theorem Grew.trans (h : Grew M M') (k : Grew M' M'') : Grew M M'' :=
  ⟨k.n.trans h.n, k.v.trans h.v, k.room.trans h.room, fun x hx => ⟨(k.keep x (h.keep x hx).1).1, (k.keep x (h.keep x hx).1).2.trans (h.keep x hx).2⟩⟩
theorem Grew.isNode (h : Grew M M') {x : Nat} (hx : M.isNode x) : M'.isNode x := hx.imp id fun e => (h.keep x e).1
theorem Grew.lev (h : Grew M M') {x : Nat} (hx : M.isNode x) : M'.lev x = M.lev x := by
  unfold Mdl.lev
  by_cases c : x < 2
  · rw [if_pos c, if_pos c, h.n]
  · rw [if_neg c, if_neg c, (h.keep x (hx.resolve_left c)).2]
theorem Grew.den (h : Grew M M') (o : M.Ok) (a : Nat → Bool) : ∀ (f x : Nat), M.isNode x → M'.den f x a = M.den f x a
  | 0, _, _ => rfl
  | f + 1, x, hx => by
    rw [Mdl.den, Mdl.den]
    by_cases c : x < 2
    · rw [if_pos c, if_pos c]
    · have hm := hx.resolve_left c
      rw [if_neg c, if_neg c, (h.keep x hm).2, h.v, Grew.den h o a f _ (o.lo x hm).1, Grew.den h o a f _ (o.hi x hm).1]
theorem Grew.val (h : Grew M M') (o : M.Ok) {x : Nat} (hx : M.isNode x) (a : Nat → Bool) : M'.val x a = M.val x a := by
  unfold Mdl.val; rw [h.n]; exact h.den o a _ _ hx
theorem Grew.tbl (h : Grew M M') (o : M.Ok) {x : Nat} (hx : M.isNode x) (y : Nat) : M'.tbl x y = M.tbl x y := h.val o hx _
end
/-- One node more. -/
structure Adds (M : Mdl) (h : Nat) (d : Nd) (M' : Mdl) : Prop where
  n : M'.n = M.n
  v : M'.v = M.v
  room : M'.room = M.room
  new : h ∉ M.hs
  mem : ∀ k, k ∈ M'.hs ↔ k = h ∨ k ∈ M.hs
  len : M'.hs.length = M.hs.length + 1
  nd : ∀ k, M'.nd k = if k = h then d else M.nd k
theorem Adds.grew {M M' : Mdl} {h : Nat} {d : Nd} (a : Adds M h d M') : Grew M M' :=
  ⟨a.n, a.v, a.room, fun k hk => ⟨(a.mem k).2 (.inr hk), by rw [a.nd, if_neg]; intro e; exact a.new (e ▸ hk)⟩⟩
theorem Adds.at {M M' : Mdl} {h : Nat} {d : Nd} (a : Adds M h d M') : h ∈ M'.hs ∧ M'.nd h = d := ⟨(a.mem h).2 (.inl rfl), by rw [a.nd, if_pos rfl]⟩
/-- A node may be made: its level is one, its children are nodes that lie deeper, and unlike. -/
structure Fits (M : Mdl) (d : Nd) : Prop where
  lv : d.1 < M.n
  ne : d.2.1 ≠ d.2.2
  lo : M.isNode d.2.1 ∧ d.1 < M.lev d.2.1
  hi : M.isNode d.2.2 ∧ d.1 < M.lev d.2.2
theorem Ok.adds {M M' : Mdl} {h : Nat} {d : Nd} (o : M.Ok) (a : Adds M h d M') (f : M.Fits d) (no : ∀ k ∈ M.hs, M.nd k ≠ d) (hr : 2 ≤ h ∧ h < 268435456) (room : M.hs.length < M.room) (so : M'.hs.Pairwise (· < ·)) : M'.Ok := by
  have g := a.grew
  have old : ∀ k ∈ M.hs, M'.nd k = M.nd k := fun k hk => (g.keep k hk).2
  refine ⟨by rw [a.n]; exact o.pos, by rw [a.n]; exact o.le8, by rw [a.n, a.v]; exact o.vlt, by rw [a.n, a.v]; exact o.vinj, so, fun k hk => ?_, by rw [a.len, a.room]; omega, fun k hk => ?_, fun k hk => ?_, fun k hk => ?_, fun k hk => ?_, fun k hk q hq e => ?_⟩
  · rcases (a.mem k).1 hk with rfl | c
    · exact hr
    · exact o.range k c
  · rw [a.n]
    rcases (a.mem k).1 hk with rfl | c
    · rw [a.at.2]; exact f.lv
    · rw [old k c]; exact o.lv k c
  · rcases (a.mem k).1 hk with rfl | c
    · rw [a.at.2]; exact f.ne
    · rw [old k c]; exact o.ne k c
  · rcases (a.mem k).1 hk with rfl | c
    · rw [a.at.2]; exact ⟨g.isNode f.lo.1, by rw [g.lev f.lo.1]; exact f.lo.2⟩
    · rw [old k c]; exact ⟨g.isNode (o.lo k c).1, by rw [g.lev (o.lo k c).1]; exact (o.lo k c).2⟩
  · rcases (a.mem k).1 hk with rfl | c
    · rw [a.at.2]; exact ⟨g.isNode f.hi.1, by rw [g.lev f.hi.1]; exact f.hi.2⟩
    · rw [old k c]; exact ⟨g.isNode (o.hi k c).1, by rw [g.lev (o.hi k c).1]; exact (o.hi k c).2⟩
  · rcases (a.mem k).1 hk with rfl | c <;> rcases (a.mem q).1 hq with rfl | c'
    · rfl
    · rw [a.at.2, old q c'] at e; exact absurd e.symm (no q c')
    · rw [a.at.2, old k c] at e; exact absurd e (no k c)
    · rw [old k c, old q c'] at e; exact o.one k c q c' e
/-- What the new node is. -/
theorem Adds.val {M M' : Mdl} {h : Nat} {d : Nd} (a : Adds M h d M') (o : M.Ok) (o' : M'.Ok) (f : M.Fits d) (s : Nat → Bool) : M'.val h s = if s (M.v d.1) = true then M.val d.2.2 s else M.val d.2.1 s := by
  rw [val_in o' a.at.1, a.at.2, a.v, a.grew.val o f.hi.1, a.grew.val o f.lo.1]
end Mdl
end Go.Proofs.Ytdmfbfbebcneeaa
