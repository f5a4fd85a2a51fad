/-
  What is protected, in memory: the counts in a map, a stack a worker; what the calls of package refs do to it.
-/
import Derived.Test.YtlmbofbdncgaiaaGreatRsLib
import Derived.Deep.RegionHeld3
import Derived.Deep.RegionLaw
namespace Go.Proofs.YtlmbofbdncgaiaaGreat.Rs
open Go Go.RowKit

/-- The object at R: its counts tell P, its n stacks have T. -/
structure IsR (w : World) (R : Nat) (mb : Option Nat) (S n : Nat) (A : Nat → Option Addr) (C : Nat → Nat) (T : Nat → List Int) (P : Int → Option Int) (m : Nat) : Prop where
  head : w.heap[R]? = some (.cells #[.map mb, .slice (some ⟨S, 0, none⟩) n n] 93 (0, 0))
  map : MapV w mb P m
  stk : Stk w S n A C T
  pos : 0 < n
  four : n ≤ 4
/-- Its blocks. -/
def Fr (R : Nat) (mb : Option Nat) (S n : Nat) (A : Nat → Option Addr) : Nat → Prop := fun b => b = R ∨ mb = some b ∨ Fs S n A b
section
variable {w w' : World} {R S n m : Nat} {mb : Option Nat} {A : Nat → Option Addr} {C : Nat → Nat} {T : Nat → List Int} {P : Int → Option Int}
theorem IsR.f0 (h : IsR w R mb S n A C T P m) : w.cell? ⟨R, 0, none⟩ = some (.map mb) := by simp [World.cell?, h.head]
theorem IsR.f1 (h : IsR w R mb S n A C T P m) : w.cell? ⟨R, 1, none⟩ = some (.slice (some ⟨S, 0, none⟩) n n) := by simp [World.cell?, h.head]
theorem IsR.free (h : IsR w R mb S n A C T P m) (k : Nat) : w.frozen? ⟨R, k, none⟩ = false := by simp [World.frozen?, h.head]
theorem IsR.lt (h : IsR w R mb S n A C T P m) : ∀ b, Fr R mb S n A b → b < w.heap.size := by
  rintro b (rfl | hb | hb)
  · exact (Array.getElem?_eq_some_iff.1 h.head).1
  · exact h.map.lt b hb
  · exact h.stk.lt b hb
theorem IsR.kept (h : IsR w R mb S n A C T P m) (k : ∀ b, Fr R mb S n A b → w'.heap[b]? = w.heap[b]?) : IsR w' R mb S n A C T P m :=
  ⟨(k R (.inl rfl)).trans h.head, h.map.kept fun b hb => k b (.inr (.inl hb)), h.stk.kept fun b hb => k b (.inr (.inr hb)), h.pos, h.four⟩
/-- Blocks of unlike kinds. -/
theorem IsR.neMap (h : IsR w R mb S n A C T P m) {b : Nat} (hb : mb = some b) : b ≠ R ∧ ¬ Fs S n A b := by
  subst hb
  obtain ⟨es, clock, l, hm, _⟩ : IsMap w b P m := h.map
  refine ⟨fun e => ?_, ?_⟩
  · rw [e, h.head] at hm; cases hm
  · rintro (rfl | ⟨k, hk, hA⟩)
    · obtain ⟨c, hc, _⟩ := h.stk.row
      rw [hc] at hm; cases hm
    · obtain ⟨cur, hc⟩ := (h.stk.own k hk).kind b hA
      rw [hc] at hm; cases hm
theorem IsR.neR (h : IsR w R mb S n A C T P m) : ¬ Fs S n A R := by
  rintro (e | ⟨k, hk, hA⟩)
  · obtain ⟨c, hc, _⟩ := h.stk.row
    have := h.head
    rw [e, hc] at this; cases this
  · obtain ⟨cur, hc⟩ := (h.stk.own k hk).kind R hA
    have := h.head
    rw [hc] at this; cases this
end

/-- The object at R holds P, at most m of them, and n stacks T; its blocks are F. -/
def Has (w : World) (R : Nat) (F : Nat → Prop) (P : Int → Option Int) (m n : Nat) (T : Nat → List Int) : Prop :=
  ∃ (mb : Option Nat) (S : Nat) (A : Nat → Option Addr) (C : Nat → Nat), F = Fr R mb S n A ∧ IsR w R mb S n A C T P m
/-- What has been done to it: all else is as it was; its new blocks are new ones. -/
structure Moved (F F' : Nat → Prop) (w w' : World) : Prop where
  went : Went F w w'
  new : ∀ b, F' b → F b ∨ w.heap.size ≤ b
section
variable {w w' : World} {R n m : Nat} {F F' F'' : Nat → Prop} {P P' : Int → Option Int} {T : Nat → List Int}
theorem Has.lt (h : Has w R F P m n T) : ∀ b, F b → b < w.heap.size := by
  obtain ⟨mb, S, A, C, rfl, h⟩ := h
  exact h.lt
theorem Has.kept (h : Has w R F P m n T) (k : ∀ b, F b → w'.heap[b]? = w.heap[b]?) : Has w' R F P m n T := by
  obtain ⟨mb, S, A, C, rfl, h⟩ := h
  exact ⟨mb, S, A, C, rfl, h.kept k⟩
theorem Has.below (h : Has w R F P m n T) (k : Below w.heap.size w w') : Has w' R F P m n T := h.kept fun b hb => k.block _ (h.lt b hb)
theorem Has.new (h : Has w R F P m n T) (o : Obj) : Has (w.alloc o) R F P m n T := h.kept fun b hb => Below.heap_alloc _ _ _ (h.lt b hb)
theorem Has.drewN (h : Has w R F P m n T) (q : Nat) : Has (w.drewN q) R F P m n T := h.kept fun _ _ => rfl
theorem Has.drew (h : Has w R F P m n T) : Has w.drew R F P m n T := h.kept fun _ _ => rfl
theorem Has.more (h : Has w R F P m n T) {m' : Nat} (hm : m ≤ m') : Has w R F P m' n T := by
  obtain ⟨mb, S, A, C, rfl, h⟩ := h
  refine ⟨mb, S, A, C, rfl, ⟨h.head, ?_, h.stk, h.pos, h.four⟩⟩
  cases mb with
  | none => exact h.map
  | some b => exact IsMap.more h.map hm
theorem Has.congr (h : Has w R F P m n T) (e : ∀ k, P k = P' k) : Has w R F P' m n T := by
  have : P = P' := funext e
  subst this
  exact h
theorem Has.congrT {T' : Nat → List Int} (h : Has w R F P m n T) (e : ∀ k, T k = T' k) : Has w R F P m n T' := by
  have : T = T' := funext e
  subst this
  exact h
theorem Has.ofWent {G : Nat → Prop} (h : Has w R F P m n T) (k : Went G w w') (hG : ∀ b, F b → ¬ G b) : Has w' R F P m n T := h.kept fun b hb => k.block b (h.lt b hb) (hG b hb)
theorem Moved.refl (F : Nat → Prop) (w : World) : Moved F F w w := ⟨Went.refl _ _, fun _ h => .inl h⟩
theorem Moved.trans {w'' : World} (h : Moved F F' w w') (k : Moved F' F'' w' w'') : Moved F F'' w w'' := by
  refine ⟨⟨k.went.os.trans h.went.os, k.went.tape.trans h.went.tape, k.went.output.trans h.went.output, Nat.le_trans h.went.size k.went.size, fun i hi hs => ?_⟩, fun b hb => ?_⟩
  · rw [k.went.block i (Nat.lt_of_lt_of_le hi h.went.size) fun e => ?_, h.went.block i hi hs]
    rcases h.new i e with h1 | h1
    · exact hs h1
    · omega
  · rcases k.new b hb with h1 | h1
    · exact h.new b h1
    · exact .inr (Nat.le_trans h.went.size h1)
/-- Another object's blocks stay apart. -/
theorem Moved.apart {G : Nat → Prop} (h : Moved F F' w w') (hG : ∀ b, G b → b < w.heap.size) (d : ∀ b, G b → ¬ F b) : ∀ b, G b → ¬ F' b := fun b hb hF => by
  rcases h.new b hF with h1 | h1
  · exact d b hb h1
  · have := hG b hb; omega
end

/-! ## Small calls -/
section
variable {w : World} {R S n m : Nat} {mb : Option Nat} {A : Nat → Option Addr} {C : Nat → Nat} {T : Nat → List Int} {P : Int → Option Int}
theorem map_get (h : IsR w R mb S n A C T P m) (k : Int) : (Instr.lookup 91 (.map mb) (.int .u32 k) false).run Tryz.prog w = .ok (.int .i64 ((P k).getD 0)) w := by
  cases mb with
  | none =>
    have : P k = none := h.map k
    rw [this]
    exact map_look_nil w k
  | some b => exact map_look (show IsMap w b P m from h.map) k
/-- Whether there is a worker of that number. -/
def isIn (n : Nat) (k : Int) : Bool := decide (0 ≤ k ∧ k < (n : Int))
set_option maxHeartbeats 4000000 in
theorem has_any (h : IsR w R mb S n A C T P m) (k : Int) : Calls Tryz.prog 54 #[.pointer (some ⟨R, 0, none⟩), .int .i64 k] w fun e w' => e = .returned (.bool (isIn n k)) ∧ w' = w := by
  have f1 := h.f1
  by_cases h0 : (0 : Int) ≤ k
  · have hd : decide ((0 : Int) ≤ k) = true := decide_eq_true h0
    go_enter Tryz.func54, Tryz.ntmps54
    go_wp2
    go_ret
    refine ⟨?_, rfl⟩
    unfold isIn
    simp [h0]
  · have hd : decide ((0 : Int) ≤ k) = false := decide_eq_false h0
    go_enter Tryz.func54, Tryz.ntmps54
    go_wp2
    go_ret
    refine ⟨?_, rfl⟩
    unfold isIn
    simp
    omega
/-- How many are on the stack of a worker, if there is one. -/
def deep (n : Nat) (T : Nat → List Int) (k : Int) : Nat := if isIn n k = true then (T k.toNat).length else 0
set_option maxHeartbeats 4000000 in
theorem depth_any (h : IsR w R mb S n A C T P m) (k : Int) : Calls Tryz.prog 55 #[.pointer (some ⟨R, 0, none⟩), .int .i64 k] w fun e w' => e = .returned (.int .i64 ((deep n T k : Nat) : Int)) ∧ w' = w := by
  have K := has_any h k
  unfold deep
  cases hb : isIn n k with
  | false =>
    rw [hb] at K
    go_enter Tryz.func55, Tryz.ntmps55
    go_wp2_with (go_at_call 54; refine K.mono ?_; clear K; rintro e w ⟨rfl, rfl⟩)
    go_ret
    exact ⟨rfl, rfl⟩
  | true =>
    rw [hb] at K
    have hk : 0 ≤ k ∧ k < (n : Int) := of_decide_eq_true hb
    obtain ⟨i, rfl⟩ : ∃ i : Nat, k = (i : Int) := ⟨k.toNat, by omega⟩
    have hi : i < n := by omega
    have hiz : (i : Int) < (n : Int) := hk.2
    have f1 := h.f1
    have c1 := h.stk.slice hi
    rw [Int.toNat_natCast]
    simp only [if_true]
    generalize (T i).length = len at c1
    generalize A i = ad at c1
    generalize C i = cap at c1
    clear hk hb
    go_enter Tryz.func55, Tryz.ntmps55
    go_wp2_with (go_at_call 54; refine K.mono ?_; clear K; rintro e w ⟨rfl, rfl⟩)
    go_ret
    exact ⟨rfl, rfl⟩

/-! ## Stacks pushed and popped -/
theorem IsR.stacked {w' : World} {A' : Nat → Option Addr} {C' : Nat → Nat} {T' : Nat → List Int} {G : Nat → Prop} (h : IsR w R mb S n A C T P m) (s : Stk w' S n A' C' T') (b : Went G w w') (hG : ∀ k, G k → Fs S n A k) : IsR w' R mb S n A' C' T' P m := by
  refine ⟨(b.block R (h.lt R (.inl rfl)) fun e => h.neR (hG R e)).trans h.head, h.map.kept fun k hk => b.block k (h.map.lt k hk) fun e => (h.neMap hk).2 (hG k e), s, h.pos, h.four⟩
theorem moved_fs {w' : World} {A' : Nat → Option Addr} (b : Went (Fs S n A) w w') (hA : ∀ k, k < n → ∀ g, At (A' k) g → Fs S n A g ∨ w.heap.size ≤ g) : Moved (Fr R mb S n A) (Fr R mb S n A') w w' := by
  refine ⟨b.wider fun i hi => .inr (.inr hi), ?_⟩
  rintro g (rfl | hg | rfl | ⟨k, hk, hg⟩)
  · exact .inl (.inl rfl)
  · exact .inl (.inr (.inl hg))
  · exact .inl (.inr (.inr (.inl rfl)))
  · rcases hA k hk g hg with h1 | h1
    · exact .inl (.inr (.inr h1))
    · exact .inr h1
set_option maxHeartbeats 8000000 in
theorem push_any (h : IsR w R mb S n A C T P m) (i : Nat) (hi : i < n) (x : Int) (hlen : (T i).length + 1 ≤ 1000000) :
    Calls Tryz.prog 27 #[.pointer (some ⟨R, 0, none⟩), .int .i64 (i : Int), .int .u32 x] w fun e w' => e = .returned (.bool true) ∧ ∃ A' C', IsR w' R mb S n A' C' (up T i (T i ++ [x])) P m ∧ Moved (Fr R mb S n A) (Fr R mb S n A') w w' := by
  have K := has_any h (i : Int)
  have hin : isIn n (i : Int) = true := decide_eq_true ⟨by omega, by omega⟩
  rw [hin] at K
  clear hin
  have hiz : (i : Int) < (n : Int) := by omega
  have f1 := h.f1
  have c1 := h.stk.slice hi
  have g1 := h.stk.free i
  have hA : Aside (IsR w R mb S n A C T P m) := h
  go_enter Tryz.func27, Tryz.ntmps27
  go_wp2_with (go_at_call 54; refine K.mono ?_; clear K; rintro e w ⟨rfl, rfl⟩)
  have own := hA.out.stk.own i hi
  have hk : ∀ u : World, Went (At (A i)) w u → u.cell? ⟨R, 1, none⟩ = some (.slice (some ⟨S, 0, none⟩) n n) ∧ u.cell? ⟨S, i, none⟩ = some (.slice (A i) (T i).length (C i)) := fun u hu => by
    have e1 : u.heap[R]? = w.heap[R]? := hu.block R (hA.out.lt R (.inl rfl)) fun e => hA.out.neR (.inr ⟨i, hi, e⟩)
    have e2 : u.heap[S]? = w.heap[S]? := hu.block S (hA.out.stk.row.lt) (hA.out.stk.ne hi)
    exact ⟨(World.cell?_of_block e1).trans hA.out.f1, (World.cell?_of_block e2).trans (hA.out.stk.slice hi)⟩
  have hkA : Aside (∀ u : World, Went (At (A i)) w u → u.cell? ⟨R, 1, none⟩ = some (.slice (some ⟨S, 0, none⟩) n n) ∧ u.cell? ⟨S, i, none⟩ = some (.slice (A i) (T i).length (C i))) := hk
  clear hk
  have ownD : OwnH (w.alloc (.cells #[hV x] 32)).drew (A i) (C i) (T i) := own.kept fun b hb => Below.heap_alloc _ _ _ (own.block b hb)
  obtain ⟨g, cap', w1, hr, o1, b1, hg1⟩ := run_app ownD w.heap.size x (MapKept.heap_alloc w _).1 hlen
  have hw2 : Went (At (A i)) w w1 := (Went.new _ w _).drew.trans b1
  have cA : (w.alloc (.cells #[hV x] 32)).drew.cell? ⟨S, i, none⟩ = some (.slice (A i) (T i).length (C i)) := (hkA.out _ (Went.new _ w _)).2
  have cB : (w.alloc (.cells #[hV x] 32)).drew.cell? ⟨R, 1, none⟩ = some (.slice (some ⟨S, 0, none⟩) n n) := (hkA.out _ (Went.new _ w _)).1
  have cC := (hkA.out _ hw2).1
  have c3 := (hkA.out _ hw2).2
  have g3 : w1.frozen? ⟨S, i, none⟩ = false := (World.frozen?_of_block (hw2.block S (hA.out.stk.row.lt) (hA.out.stk.ne hi))).trans g1
  have hgA : At (A i) g ∨ w.heap.size ≤ g := by
    rcases hg1 with h1 | h1
    · exact .inl h1
    · right
      rw [h1]
      simp [World.drew]
  have fin : Aside (∃ A' C', IsR (w1.setCell ⟨S, i, none⟩ (.slice (some ⟨g, 0, none⟩) ((T i).length + 1) cap')) R mb S n A' C' (up T i (T i ++ [x])) P m ∧ Moved (Fr R mb S n A) (Fr R mb S n A') w (w1.setCell ⟨S, i, none⟩ (.slice (some ⟨g, 0, none⟩) ((T i).length + 1) cap'))) := by
    have s1 := hA.out.stk.turn hi hw2 o1 (fun k hk => by
      obtain ⟨a, ha, rfl⟩ := hk
      cases ha
      exact hgA)
    have e : (T i ++ [x]).length = (T i).length + 1 := by simp
    rw [e] at s1
    have b2 : Went (Fs S n A) w (w1.setCell ⟨S, i, none⟩ (.slice (some ⟨g, 0, none⟩) ((T i).length + 1) cap')) := (hw2.wider fun k hk => .inr ⟨i, hi, hk⟩).trans (Went.set (.inl rfl) _ _)
    refine ⟨up A i (some ⟨g, 0, none⟩), up C i cap', hA.out.stacked s1 b2 (fun _ h => h), moved_fs b2 fun k hk b hb => ?_⟩
    by_cases e : k = i
    · subst e
      rw [up_same] at hb
      obtain ⟨a, ha, rfl⟩ := hb
      cases ha
      rcases hgA with h1 | h1
      · exact .inl (.inr ⟨k, hk, h1⟩)
      · exact .inr h1
    · rw [up_other _ _ e] at hb
      exact .inl (.inr ⟨k, hk, hb⟩)
  clear hg1 own ownD b1 hgA o1 hw2
  go_region_law (refine step_app rfl (.tmp 22) (.tmp 24) rfl _ _ _ (by simp [Act.eval]) (by simp [Act.eval]) hr ?_)
  all_goals
    go_wp2
    go_ret
    exact ⟨rfl, fin.out⟩
theorem push_no (h : IsR w R mb S n A C T P m) (k : Int) (hk : isIn n k = false) (x : Int) :
    Calls Tryz.prog 27 #[.pointer (some ⟨R, 0, none⟩), .int .i64 k, .int .u32 x] w fun e w' => e = .returned (.bool false) ∧ w' = w := by
  have K := has_any h k
  rw [hk] at K
  go_enter Tryz.func27, Tryz.ntmps27
  go_wp2_with (go_at_call 54; refine K.mono ?_; clear K; rintro e w ⟨rfl, rfl⟩)
  go_ret
  exact ⟨rfl, rfl⟩
set_option maxHeartbeats 8000000 in
theorem pop_no (h : IsR w R mb S n A C T P m) (k : Int) (hk : deep n T k = 0) :
    Calls Tryz.prog 28 #[.pointer (some ⟨R, 0, none⟩), .int .i64 k] w fun e w' => e = .returned (.tuple #[.int .u32 0, .bool false]) ∧ w' = w := by
  have K := depth_any h k
  rw [hk] at K
  go_enter Tryz.func28, Tryz.ntmps28
  go_wp2_with (go_at_call 55; refine K.mono ?_; clear K; rintro e w ⟨rfl, rfl⟩)
  go_ret2
  exact ⟨rfl, rfl⟩
set_option maxHeartbeats 8000000 in
theorem pop_any (h : IsR w R mb S n A C T P m) (i : Nat) (hi : i < n) (xs : List Int) (x : Int) (hT : T i = xs ++ [x]) (hlen : (T i).length ≤ 1000000) :
    Calls Tryz.prog 28 #[.pointer (some ⟨R, 0, none⟩), .int .i64 (i : Int)] w fun e w' => e = .returned (.tuple #[.int .u32 x, .bool true]) ∧ IsR w' R mb S n A C (up T i xs) P m ∧ Moved (Fr R mb S n A) (Fr R mb S n A) w w' := by
  have K := depth_any h (i : Int)
  have hin : isIn n (i : Int) = true := decide_eq_true ⟨by omega, by omega⟩
  have hd : deep n T (i : Int) = xs.length + 1 := by
    unfold deep
    rw [hin, if_pos rfl, Int.toNat_natCast, hT]
    simp
  rw [hd] at K
  have hl : (T i).length = xs.length + 1 := by rw [hT]; simp
  have hiz : (i : Int) < (n : Int) := by omega
  have f1 := h.f1
  have c1 := h.stk.slice hi
  have g1 := h.stk.free i
  have own := h.stk.own i hi
  have hcap := own.max.2
  obtain ⟨g, hg⟩ := own.form (by omega)
  rw [hg] at own
  have c2 := own.cell (i := xs.length) (by omega)
  have hx : (T i)[xs.length]! = x := by rw [hT]; simp
  rw [hx] at c2
  have s1 := h.stk.cut hi xs.length (by omega)
  have e : (T i).take xs.length = xs := by rw [hT]; simp
  rw [e] at s1
  have b2 : Went (Fs S n A) w (w.setCell ⟨S, i, none⟩ (.slice (A i) xs.length (C i))) := Went.set (.inl rfl) _ _
  have fin : Aside (IsR (w.setCell ⟨S, i, none⟩ (.slice (A i) xs.length (C i))).drew R mb S n A C (up T i xs) P m ∧ Moved (Fr R mb S n A) (Fr R mb S n A) w (w.setCell ⟨S, i, none⟩ (.slice (A i) xs.length (C i))).drew) :=
    ⟨(h.stacked s1 b2 (fun _ h => h)).kept fun _ _ => rfl, moved_fs b2.drew fun k hk b hb => .inl (.inr ⟨k, hk, hb⟩)⟩
  rw [hg, hl] at c1
  rw [hg] at fin
  rw [hl] at hcap hlen
  generalize C i = cap at c1 hcap fin
  have hne : xs.length < 1000000 := by omega
  clear own s1 b2 e hd hin hT hl h
  generalize xs.length = len at *
  have hz : ((len + 1 : Nat) : Int) - 1 = (len : Int) := by omega
  have hz2 : (len : Int) < ((len + 1 : Nat) : Int) := by omega
  go_enter Tryz.func28, Tryz.ntmps28
  go_wp2_with (go_at_call 55; refine K.mono ?_; clear K; rintro e w ⟨rfl, rfl⟩)
  go_region
  all_goals
    go_wp2
    go_ret2
    exact ⟨rfl, fin.out⟩

/-! ## Counts -/
theorem eql_none (w : World) : (binOp .eql 91 (.map none) (.map none)).run Tryz.prog w = .ok (.bool true) w := by kernel_rfl
theorem eql_some (b : Nat) (w : World) : (binOp .eql 91 (.map (some b)) (.map none)).run Tryz.prog w = .ok (.bool false) w := by kernel_rfl
theorem IsR.mapped {w' : World} {b m' : Nat} {P' : Int → Option Int} (h : IsR w R (some b) S n A C T P m) (k : IsMap w' b P' m') (t : Went (fun k => k = b) w w') : IsR w' R (some b) S n A C T P' m' := by
  have hn := h.neMap rfl
  refine ⟨(t.block R (h.lt R (.inl rfl)) fun e => hn.1 e.symm).trans h.head, k, h.stk.kept fun g hg => t.block g (h.stk.lt g hg) fun e => hn.2 (e ▸ hg), h.pos, h.four⟩
theorem moved_map {w' : World} {b : Nat} (t : Went (fun k => k = b) w w') : Moved (Fr R (some b) S n A) (Fr R (some b) S n A) w w' :=
  ⟨t.wider fun i e => .inr (.inl (by rw [e])), fun _ h => .inl h⟩
/-- The map is made. -/
theorem IsR.made (h : IsR w R none S n A C T P m) : IsR ((w.alloc (.map #[] 0)).setCell ⟨R, 0, none⟩ (.map (some w.heap.size))) R (some w.heap.size) S n A C T P m ∧ Moved (Fr R none S n A) (Fr R (some w.heap.size) S n A) w ((w.alloc (.map #[] 0)).setCell ⟨R, 0, none⟩ (.map (some w.heap.size))) := by
  have hR : R < w.heap.size := h.lt R (.inl rfl)
  refine ⟨⟨?_, ?_, h.stk.kept fun g hg => ?_, h.pos, h.four⟩, ⟨?_, ?_⟩⟩
  · have := h.head
    have h2 : (w.alloc (.map #[] 0)).heap[R]? = w.heap[R]? := Below.heap_alloc _ _ _ hR
    rw [← h2] at this
    simp [World.setCell, Array.getElem?_modify, this]
  · have hP : P = fun _ => none := funext h.map
    subst hP
    exact (IsMap.same (IsMap.fresh w) (Below.heap_setCell _ _ _ _ (show w.heap.size ≠ R by omega))).more (Nat.zero_le _)
  · rw [Below.heap_setCell _ _ _ _ (show g ≠ R from fun e => h.neR (e ▸ hg))]
    exact Below.heap_alloc _ _ _ (h.stk.lt g hg)
  · exact (Went.new _ w _).trans (Went.set (.inl rfl) _ _)
  · rintro b (rfl | hb | hb)
    · exact .inl (.inl rfl)
    · cases hb
      exact .inr (Nat.le_refl _)
    · exact .inl (.inr (.inr hb))
set_option maxHeartbeats 8000000 in
theorem protect_any (h : IsR w R mb S n A C T P m) (k c : Int) (hc : (P k).getD 0 = c) (h0 : 0 ≤ c) (h1 : c < 4611686018427387904) :
    Calls Tryz.prog 12 #[.pointer (some ⟨R, 0, none⟩), .int .u32 k] w fun e w' => e = .returned (.tuple #[]) ∧ ∃ mb', IsR w' R mb' S n A C T (at1 P k (some (c + 1))) (m + 1) ∧ Moved (Fr R mb S n A) (Fr R mb' S n A) w w' := by
  have f0 := h.f0
  have g0 := h.free 0
  have en := eql_none
  have es := eql_some
  have hmm := @run_makeMap Tryz.prog
  cases mb with
  | none =>
    obtain ⟨h2, mv⟩ := h.made
    have f2 := h2.f0
    have hRw : R < w.heap.size := h.lt R (.inl rfl)
    have fA : (w.alloc (.map #[] 0)).cell? ⟨R, 0, none⟩ = some (.map none) := (World.cell?_of_block (Below.heap_alloc _ _ _ hRw)).trans f0
    have gA : (w.alloc (.map #[] 0)).frozen? ⟨R, 0, none⟩ = false := (World.frozen?_of_block (Below.heap_alloc _ _ _ hRw)).trans g0
    clear hRw
    have hl := map_get h2 k
    rw [hc] at hl
    obtain ⟨w3, hp, k3, t3⟩ := map_put (show IsMap _ _ P m from h2.map) k (c + 1)
    have fin : Aside (∃ mb', IsR w3 R mb' S n A C T (at1 P k (some (c + 1))) (m + 1) ∧ Moved (Fr R none S n A) (Fr R mb' S n A) w w3) := ⟨_, h2.mapped k3 t3, mv.trans (moved_map t3)⟩
    clear h h2 mv hc
    go_enter Tryz.func12, Tryz.ntmps12
    go_wp2
    go_end0
    exact ⟨rfl, fin.out⟩
  | some b =>
    have hl := map_get h k
    rw [hc] at hl
    obtain ⟨w3, hp, k3, t3⟩ := map_put (show IsMap _ _ P m from h.map) k (c + 1)
    have fin : Aside (∃ mb', IsR w3 R mb' S n A C T (at1 P k (some (c + 1))) (m + 1) ∧ Moved (Fr R (some b) S n A) (Fr R mb' S n A) w w3) := ⟨_, h.mapped k3 t3, moved_map t3⟩
    clear h hc
    go_enter Tryz.func12, Tryz.ntmps12
    go_wp2
    go_end0
    exact ⟨rfl, fin.out⟩
end

/-! ## New -/
theorem info38 : (Tryz.prog.info? 34).map (fun i => (i.zero, i.size, i.bytes)) = some (some (.slice none 0 0), 1, 24) := by kernel_rfl
/-- How many workers there are, asked for so many. -/
def wk (k : Int) : Nat := (min (max k 1) 4).toNat
theorem Stk.fresh (w : World) (n : Nat) : Stk (w.alloc (.cells (madeCells #[.slice none 0 0] n) 34)) w.heap.size n (fun _ => none) (fun _ => 0) (fun _ => []) :=
  ⟨World.rowIs_made w (.slice none 0 0) n 34, fun _ _ => OwnH.nil _, fun _ _ _ _ _ _ hb => by obtain ⟨a, ha, _⟩ := hb; cases ha⟩
set_option maxHeartbeats 8000000 in
theorem new_any (k : Int) (w : World) :
    Calls Tryz.prog 10 #[.int .i64 k] w fun e w' => e = .returned (.pointer (some ⟨w.heap.size + 1, 0, none⟩)) ∧ (∃ F, Has w' (w.heap.size + 1) F (fun _ => none) 0 (wk k) (fun _ => []) ∧ ∀ b, F b → w.heap.size ≤ b) ∧ Below w.heap.size w w' := by
  have hmn : min (max k 1) 4 = ((wk k : Nat) : Int) := by unfold wk; omega
  have hpos : 0 < wk k ∧ wk k ≤ 4 := by unfold wk; omega
  generalize wk k = n at hmn hpos
  have hmk := fun w => run_make_row' (P := Tryz.prog) 90 34 (.slice none 0 0) 24 Tryz.underlying90 info38 rfl .i64 .i64 n (by omega) (by omega) w
  have fin : Aside ((∃ F, Has ((w.alloc (.cells (madeCells #[.slice none 0 0] n) 34)).alloc (.cells #[.map none, .slice (some ⟨w.heap.size, 0, none⟩) n n] 93)) (w.heap.size + 1) F (fun _ => none) 0 n (fun _ => []) ∧ ∀ b, F b → w.heap.size ≤ b) ∧ Below w.heap.size w ((w.alloc (.cells (madeCells #[.slice none 0 0] n) 34)).alloc (.cells #[.map none, .slice (some ⟨w.heap.size, 0, none⟩) n n] 93))) := by
    refine ⟨⟨_, ⟨none, w.heap.size, fun _ => none, fun _ => 0, rfl, ⟨?_, fun _ => rfl, (Stk.fresh w n).kept fun b hb => ?_, hpos.1, hpos.2⟩⟩, ?_⟩, ((Below.refl _ w).alloc (Nat.le_refl _) _).alloc (by simp) _⟩
    · rw [show w.heap.size + 1 = (w.alloc (.cells (madeCells #[.slice none 0 0] n) 34)).heap.size by simp]
      exact Go.Deep.blk_alloc_new _ _
    · exact Below.heap_alloc _ _ _ ((Stk.fresh w n).lt b hb)
    · rintro b (rfl | hb | rfl | ⟨k, _, a, ha, _⟩)
      · omega
      · cases hb
      · omega
      · cases ha
  clear hpos
  generalize madeCells #[.slice none 0 0] n = mc at hmk fin
  go_enter Tryz.func10, Tryz.ntmps10
  go_wp2
  go_ret
  exact ⟨rfl, fin.out⟩
end Go.Proofs.YtlmbofbdncgaiaaGreat.Rs
