/-
  What each call of package ranks does to a queue that holds numbers with their keys.
-/
import Derived.Test.YthcjmbfhcdkffaaFace
namespace Go.Proofs.Ythcjmbfhcdkffaa
open Go Go.RowKit

/-- The queue at Q holds n numbers with the keys K; its blocks are S. -/
def Has (w : World) (Q : Nat) (S : Nat → Prop) (K : Int → Option Int) (n : Nat) : Prop :=
  ∃ (ad : Option Addr) (cap : Nat) (mp : Option Nat) (I : Nat → Int × Int), S = Foot Q ad mp ∧ IsQ w Q ad n cap mp I ∧ Heap I n ∧ Tells n I K

section
variable {w w' : World} {Q n : Nat} {S : Nat → Prop} {K : Int → Option Int}
theorem Has.lt (h : Has w Q S K n) : ∀ k, S k → k < w.heap.size := by
  obtain ⟨ad, cap, mp, I, rfl, hq, _⟩ := h
  exact fun k hk => hq.foot_lt hk
theorem Has.far (h : Has w Q S K n) : ¬ S w.heap.size := fun e => by have := h.lt _ e; omega
theorem Has.kept (h : Has w Q S K n) (k : ∀ b, S b → w'.heap[b]? = w.heap[b]?) : Has w' Q S K n := by
  obtain ⟨ad, cap, mp, I, rfl, hq, hh, ht⟩ := h
  exact ⟨ad, cap, mp, I, rfl, hq.kept k, hh, ht⟩
theorem Has.below (h : Has w Q S K n) (k : Below w.heap.size w w') : Has w' Q S K n := h.kept fun b hb => k.block _ (h.lt b hb)
theorem Has.new (h : Has w Q S K n) (o : Obj) : Has (w.alloc o) Q S K n := h.kept fun b hb => Below.heap_alloc _ _ _ (h.lt b hb)
theorem Has.drew (h : Has w Q S K n) : Has w.drew Q S K n := h.kept fun _ _ => rfl
theorem Has.box (h : Has w Q S K n) {k : Nat} (hk : ¬ S k) (x y : Value) : Has ((w.setCell ⟨k, 0, none⟩ x).setCell ⟨k, 1, none⟩ y) Q S K n :=
  h.kept fun b hb => by rw [Below.heap_setCell _ _ _ _ (show b ≠ k from fun e => hk (e ▸ hb)), Below.heap_setCell _ _ _ _ (show b ≠ k from fun e => hk (e ▸ hb))]
theorem Has.congr {K' : Int → Option Int} (h : Has w Q S K n) (e : ∀ k, K k = K' k) : Has w Q S K' n := by
  obtain ⟨ad, cap, mp, I, rfl, hq, hh, ht⟩ := h
  exact ⟨ad, cap, mp, I, rfl, hq, hh, fun id key => by rw [← e id]; exact ht id key⟩
/-- What is in it makes it not empty. -/
theorem Has.pos (h : Has w Q S K n) {id key : Int} (e : K id = some key) : 0 < n := by
  obtain ⟨ad, cap, mp, I, rfl, hq, hh, ht⟩ := h
  obtain ⟨i, hi, _⟩ := (ht id key).1 e
  omega
/-- An empty one holds nothing. -/
theorem Has.empty (h : Has w Q S K 0) (id : Int) : K id = none := by
  cases e : K id with
  | none => rfl
  | some key => have := h.pos e; omega
/-- One that is not empty holds something. -/
theorem Has.some_in (h : Has w Q S K (n + 1)) : ∃ id key, K id = some key := by
  obtain ⟨ad, cap, mp, I, rfl, hq, hh, ht⟩ := h
  exact ⟨(I 0).1, (I 0).2, (ht _ _).2 ⟨0, by omega, rfl⟩⟩

theorem tells_none {I : Nat → Int × Int} (ht : Tells n I K) {id : Int} (e : K id = none) : ∀ i, i < n → (I i).1 ≠ id := fun i hi h => by
  have := (ht id (I i).2).2 ⟨i, hi, by rw [← h]⟩
  rw [e] at this
  cases this
theorem tells_push {I J : Nat → Int × Int} (ht : Tells n I K) {id key : Int} (e : K id = none) (hs : Same (n + 1) (setP I n (id, key)) J) : Tells (n + 1) J (at1 K id (some key)) := by
  intro a b
  have : (∃ i, i < n + 1 ∧ J i = (a, b)) ↔ _ := hs (a, b)
  rw [this]
  unfold at1
  by_cases c : a = id
  · subst c
    rw [if_pos rfl, Option.some.injEq]
    constructor
    · rintro rfl
      exact ⟨n, by omega, setP_same _ _ _⟩
    · rintro ⟨i, hi, he⟩
      by_cases c2 : i = n
      · rw [c2, setP_same] at he
        exact (Prod.mk.inj he).2
      · rw [setP_other _ _ c2] at he
        exact absurd (by rw [he]) (tells_none ht e i (by omega))
  · rw [if_neg c, ht a b]
    constructor
    · rintro ⟨i, hi, he⟩
      exact ⟨i, by omega, by rw [setP_other _ _ (by omega)]; exact he⟩
    · rintro ⟨i, hi, he⟩
      by_cases c2 : i = n
      · rw [c2, setP_same] at he
        exact absurd (Prod.mk.inj he).1.symm c
      · rw [setP_other _ _ c2] at he
        exact ⟨i, by omega, he⟩
theorem tells_drop {I J : Nat → Int × Int} (ht : Tells (n + 1) I K) (hi : Ids (n + 1) I) {i : Nat} (hin : i < n + 1) (hs : ∀ x, (∃ k, k < n ∧ J k = x) ↔ (∃ k, k < n + 1 ∧ k ≠ i ∧ I k = x)) : Tells n J (at1 K (I i).1 none) := by
  intro a b
  rw [hs (a, b)]
  unfold at1
  by_cases c : a = (I i).1
  · rw [if_pos c]
    constructor
    · intro e; cases e
    · rintro ⟨k, hk, hne, he⟩
      exact absurd (hi k i hk hin (by rw [he]; exact c)) hne
  · rw [if_neg c, ht a b]
    constructor
    · rintro ⟨k, hk, he⟩
      exact ⟨k, hk, fun e => c (by rw [← e, he]), he⟩
    · rintro ⟨k, hk, _, he⟩
      exact ⟨k, hk, he⟩
theorem tells_key {I J : Nat → Int × Int} (ht : Tells n I K) (hi : Ids n I) {i : Nat} (hin : i < n) {key : Int} (hs : Same n (setP I i ((I i).1, key)) J) : Tells n J (at1 K (I i).1 (some key)) := by
  intro a b
  have : (∃ i, i < n ∧ J i = (a, b)) ↔ _ := hs (a, b)
  rw [this]
  unfold at1
  by_cases c : a = (I i).1
  · subst c
    rw [if_pos rfl, Option.some.injEq]
    constructor
    · rintro rfl
      exact ⟨i, hin, setP_same _ _ _⟩
    · rintro ⟨k, hk, he⟩
      by_cases c2 : k = i
      · rw [c2, setP_same] at he
        exact (Prod.mk.inj he).2
      · rw [setP_other _ _ c2] at he
        exact absurd (hi k i hk hin (by rw [he])) c2
  · rw [if_neg c, ht a b]
    constructor
    · rintro ⟨k, hk, he⟩
      exact ⟨k, hk, by rw [setP_other _ _ (fun e => c (by rw [← e, he]))]; exact he⟩
    · rintro ⟨k, hk, he⟩
      by_cases c2 : k = i
      · rw [c2, setP_same] at he
        exact absurd (Prod.mk.inj he).1.symm c
      · rw [setP_other _ _ c2] at he
        exact ⟨k, hk, he⟩
theorem tells_top {I : Nat → Int × Int} (ht : Tells (n + 1) I K) (hh : Heap I (n + 1)) : K (I 0).1 = some (I 0).2 ∧ ∀ id key, K id = some key → bet (id, key) (I 0) = false :=
  ⟨(ht _ _).2 ⟨0, by omega, rfl⟩, fun id key e => by
    obtain ⟨i, hi, he⟩ := (ht id key).1 e
    rw [← he]
    exact hh.top i hi⟩

theorem new_any (w : World) : Calls Try.prog 8 #[] w fun e w' => e = .returned (.pointer (some ⟨w.heap.size, 0, none⟩)) ∧ ∃ S, Has w' w.heap.size S (fun _ => none) 0 ∧ (∀ k, S k → w.heap.size ≤ k) ∧ Below w.heap.size w w' := by
  go_enter Try.func8, Try.ntmps8
  go_wp2
  go_ret
  refine ⟨rfl, Foot w.heap.size none none, ⟨none, 0, none, fun _ => (0, 0), rfl, ⟨(MapKept.heap_alloc w _).1, OwnP.nil _ _, (fun a ha => by cases ha), (fun i j hi => by omega), fun _ => rfl, fun m hm => by cases hm⟩, (fun k _ hk => by omega), fun id key => by simp⟩, ?_, (Below.refl _ _).alloc (Nat.le_refl _) _⟩
  rintro k (rfl | ⟨a, ha, _⟩ | hk)
  · exact Nat.le_refl _
  · cases ha
  · cases hk

theorem len_any (h : Has w Q S K n) : Calls Try.prog 15 #[.pointer (some ⟨Q, 0, none⟩)] w fun e w' => e = .returned (.int .i64 (n : Int)) ∧ w' = w := by
  obtain ⟨ad, cap, mp, I, rfl, hq, hh, ht⟩ := h
  have K1 := rlen_any hq
  go_enter Try.func15, Try.ntmps15
  go_wp2_with (first
    | (go_at_call 23; refine K1.mono ?_; clear K1; rintro e w2 ⟨rfl, rfl⟩))
  go_ret
  exact ⟨rfl, rfl⟩

theorem push_no (h : Has w Q S K n) {id v : Int} (e : K id = some v) (key : Int) : Calls Try.prog 9 #[.pointer (some ⟨Q, 0, none⟩), .int .i64 id, .int .i64 key] w fun e w' => e = .returned (.bool false) ∧ w' = w := by
  obtain ⟨ad, cap, mp, I, rfl, hq, hh, ht⟩ := h
  obtain ⟨i, hi, he⟩ := (ht id v).1 e
  have L := seek_in hq i hi
  rw [he] at L
  simp only at L
  have c1 := hq.cell1
  clear he e
  go_enter Try.func9, Try.ntmps9
  go_wp2
  go_ret
  exact ⟨rfl, rfl⟩

theorem push_yes (h : Has w Q S K n) (hn : n ≤ 900000) {id : Int} (e : K id = none) (key : Int) : Calls Try.prog 9 #[.pointer (some ⟨Q, 0, none⟩), .int .i64 id, .int .i64 key] w fun e w' => e = .returned (.bool true) ∧ ∃ S', Has w' Q S' (at1 K id (some key)) (n + 1) ∧ Went S S' w w' := by
  obtain ⟨ad, cap, mp, I, rfl, hq, hh, ht⟩ := h
  have hE : Aside (K id = none) := e
  have L := seek_out hq id (tells_none ht e)
  have K1 := hpush_any hq hh (id, key) (tells_none ht e) hn
  have c1 := hq.cell1
  clear e
  go_enter Try.func9, Try.ntmps9
  go_wp2_with (first
    | (go_at_call 17; refine K1.mono ?_; clear K1; rintro e w2 ⟨rfl, ad', cap', mp', J, q2, h2, s2, g2⟩))
  go_ret
  exact ⟨rfl, Foot Q ad' mp', ⟨ad', cap', mp', J, rfl, q2, h2, tells_push ht hE.out s2⟩, g2⟩

theorem pop_none (h : Has w Q S K 0) : Calls Try.prog 11 #[.pointer (some ⟨Q, 0, none⟩)] w fun e w' => e = .returned (.tuple #[itemV (0, 0), .bool false]) ∧ Below w.heap.size w w' := by
  obtain ⟨ad, cap, mp, I, rfl, hq, hh, ht⟩ := h
  have hmf : ∀ (fn : Fn) (first cap : Array Value) (w : World), (Instr.makeFunc fn first cap).run Try.prog w = .ok (.func fn first cap) w := fun _ _ _ _ => rfl
  have K1 := first_out (hq.new (.cells #[.int .i64 0, .int .i64 0] 30)) (stepV 19 Q)
  go_enter Try.func11, Try.ntmps11
  go_wp2_with (first
    | (go_at_call 18; refine K1.mono ?_; clear K1; rintro e w2 ⟨rfl, k2⟩; have m2 := Moved.of_below (S := fun _ => False) k2; obtain ⟨b0, b1, b2, b3, b4⟩ := box_kept m2 id))
  exact bodyPost_ret (v := .tuple #[itemV (0, 0), .bool false]) (by simp [results, Try.results11, go_sem, b0, b1]) rfl ⟨rfl, (box_moved m2 _ _).below (Nat.le_refl _) fun i hi => hi.elim⟩

theorem pop_some (h : Has w Q S K (n + 1)) (hn : n ≤ 900000) : Calls Try.prog 11 #[.pointer (some ⟨Q, 0, none⟩)] w fun e w' => ∃ x : Int × Int, e = .returned (.tuple #[itemV x, .bool true]) ∧ (K x.1 = some x.2 ∧ ∀ id key, K id = some key → bet (id, key) x = false) ∧ Has w' Q S (at1 K x.1 none) n ∧ Moved S w w' := by
  obtain ⟨ad, cap, mp, I, rfl, hq, hh, ht⟩ := h
  have hmf : ∀ (fn : Fn) (first cap : Array Value) (w : World), (Instr.makeFunc fn first cap).run Try.prog w = .ok (.func fn first cap) w := fun _ _ _ _ => rfl
  have hfar := hq.far (Nat.le_refl w.heap.size)
  have K1 := first_take (hq.new (.cells #[.int .i64 0, .int .i64 0] 30)) hh hn
  go_enter Try.func11, Try.ntmps11
  go_wp2_with (first
    | (go_at_call 18; refine K1.mono ?_; clear K1; rintro e w2 ⟨rfl, J, q2, h2, s2, m2⟩; obtain ⟨b0, b1, b2, b3, b4⟩ := box_kept m2 hfar))
  exact bodyPost_ret (v := .tuple #[itemV (I 0), .bool true]) (by simp [results, Try.results11, go_sem, b0, b1]) rfl ⟨I 0, rfl, tells_top ht hh, ⟨ad, cap, mp, J, rfl, q2.box hfar _ _, h2, tells_drop ht hq.ids (by omega) s2⟩, box_moved m2 _ _⟩

theorem top_none (h : Has w Q S K 0) : Calls Try.prog 14 #[.pointer (some ⟨Q, 0, none⟩)] w fun e w' => e = .returned (.tuple #[itemV (0, 0), .bool false]) ∧ Below w.heap.size w w' := by
  obtain ⟨ad, cap, mp, I, rfl, hq, hh, ht⟩ := h
  have hmf : ∀ (fn : Fn) (first cap : Array Value) (w : World), (Instr.makeFunc fn first cap).run Try.prog w = .ok (.func fn first cap) w := fun _ _ _ _ => rfl
  have K1 := first_out (hq.new (.cells #[.int .i64 0, .int .i64 0] 30)) (stepV 22 Q)
  go_enter Try.func14, Try.ntmps14
  go_wp2_with (first
    | (go_at_call 18; refine K1.mono ?_; clear K1; rintro e w2 ⟨rfl, k2⟩; have m2 := Moved.of_below (S := fun _ => False) k2; obtain ⟨b0, b1, b2, b3, b4⟩ := box_kept m2 id))
  exact bodyPost_ret (v := .tuple #[itemV (0, 0), .bool false]) (by simp [results, Try.results14, go_sem, b0, b1]) rfl ⟨rfl, (box_moved m2 _ _).below (Nat.le_refl _) fun i hi => hi.elim⟩

theorem top_some (h : Has w Q S K (n + 1)) : Calls Try.prog 14 #[.pointer (some ⟨Q, 0, none⟩)] w fun e w' => ∃ x : Int × Int, e = .returned (.tuple #[itemV x, .bool true]) ∧ (K x.1 = some x.2 ∧ ∀ id key, K id = some key → bet (id, key) x = false) ∧ Below w.heap.size w w' := by
  obtain ⟨ad, cap, mp, I, rfl, hq, hh, ht⟩ := h
  have hmf : ∀ (fn : Fn) (first cap : Array Value) (w : World), (Instr.makeFunc fn first cap).run Try.prog w = .ok (.func fn first cap) w := fun _ _ _ _ => rfl
  have K1 := first_look (hq.new (.cells #[.int .i64 0, .int .i64 0] 30))
  go_enter Try.func14, Try.ntmps14
  go_wp2_with (first
    | (go_at_call 18; refine K1.mono ?_; clear K1; rintro e w2 ⟨rfl, k2⟩; have m2 := Moved.of_below (S := fun _ => False) k2; obtain ⟨b0, b1, b2, b3, b4⟩ := box_kept m2 id))
  exact bodyPost_ret (v := .tuple #[itemV (I 0), .bool true]) (by simp [results, Try.results14, go_sem, b0, b1]) rfl ⟨I 0, rfl, tells_top ht hh, (box_moved m2 _ _).below (Nat.le_refl _) fun i hi => hi.elim⟩

theorem change_no (h : Has w Q S K n) {id : Int} (e : K id = none) (key : Int) : Calls Try.prog 12 #[.pointer (some ⟨Q, 0, none⟩), .int .i64 id, .int .i64 key] w fun e w' => e = .returned (.bool false) ∧ Below w.heap.size w w' := by
  obtain ⟨ad, cap, mp, I, rfl, hq, hh, ht⟩ := h
  have hmf : ∀ (fn : Fn) (first cap : Array Value) (w : World), (Instr.makeFunc fn first cap).run Try.prog w = .ok (.func fn first cap) w := fun _ _ _ _ => rfl
  have K1 := find_out hq id (tells_none ht e) (keyV Q key)
  clear e
  go_enter Try.func12, Try.ntmps12
  go_wp2_with (first
    | (go_at_call 20; refine K1.mono ?_; clear K1; rintro e w2 ⟨rfl, k2⟩))
  go_ret
  exact ⟨rfl, k2.alloc k2.size _⟩

theorem change_yes (h : Has w Q S K n) (hn : n ≤ 900000) {id v : Int} (e : K id = some v) (key : Int) : Calls Try.prog 12 #[.pointer (some ⟨Q, 0, none⟩), .int .i64 id, .int .i64 key] w fun e w' => e = .returned (.bool true) ∧ Has w' Q S (at1 K id (some key)) n ∧ Moved S w w' := by
  obtain ⟨ad, cap, mp, I, rfl, hq, hh, ht⟩ := h
  have hmf : ∀ (fn : Fn) (first cap : Array Value) (w : World), (Instr.makeFunc fn first cap).run Try.prog w = .ok (.func fn first cap) w := fun _ _ _ _ => rfl
  obtain ⟨i, hi, he⟩ := (ht id v).1 e
  have K1 := find_apply hq hh hn i hi key
  have hid : Aside ((I i).1 = id) := (by rw [he] : (I i).1 = id)
  rw [hid.out] at K1
  clear he e
  go_enter Try.func12, Try.ntmps12
  go_wp2_with (first
    | (go_at_call 20; refine K1.mono ?_; clear K1; rintro e w2 ⟨rfl, J, q2, h2, s2, m2⟩))
  go_ret
  refine ⟨rfl, ⟨ad, cap, mp, J, rfl, q2.new _, h2, ?_⟩, m2.trans (Moved.new _ _)⟩
  have := tells_key ht hq.ids hi (key := key) (J := J) (by rw [hid.out]; exact s2)
  rw [hid.out] at this
  exact this

theorem drop_no (h : Has w Q S K n) {id : Int} (e : K id = none) : Calls Try.prog 13 #[.pointer (some ⟨Q, 0, none⟩), .int .i64 id] w fun e w' => e = .returned (.bool false) ∧ Below w.heap.size w w' := by
  obtain ⟨ad, cap, mp, I, rfl, hq, hh, ht⟩ := h
  have hmf : ∀ (fn : Fn) (first cap : Array Value) (w : World), (Instr.makeFunc fn first cap).run Try.prog w = .ok (.func fn first cap) w := fun _ _ _ _ => rfl
  have K1 := find_out hq id (tells_none ht e) (stepV 19 Q)
  clear e
  go_enter Try.func13, Try.ntmps13
  go_wp2_with (first
    | (go_at_call 20; refine K1.mono ?_; clear K1; rintro e w2 ⟨rfl, k2⟩))
  go_ret
  exact ⟨rfl, k2.alloc k2.size _⟩

theorem drop_yes (h : Has w Q S K (n + 1)) (hn : n ≤ 900000) {id v : Int} (e : K id = some v) : Calls Try.prog 13 #[.pointer (some ⟨Q, 0, none⟩), .int .i64 id] w fun e w' => e = .returned (.bool true) ∧ Has w' Q S (at1 K id none) n ∧ Moved S w w' := by
  obtain ⟨ad, cap, mp, I, rfl, hq, hh, ht⟩ := h
  have hmf : ∀ (fn : Fn) (first cap : Array Value) (w : World), (Instr.makeFunc fn first cap).run Try.prog w = .ok (.func fn first cap) w := fun _ _ _ _ => rfl
  obtain ⟨i, hi, he⟩ := (ht id v).1 e
  have K1 := find_take hq hh hn i hi
  have hid : Aside ((I i).1 = id) := (by rw [he] : (I i).1 = id)
  rw [hid.out] at K1
  clear he e
  go_enter Try.func13, Try.ntmps13
  go_wp2_with (first
    | (go_at_call 20; refine K1.mono ?_; clear K1; rintro e w2 ⟨rfl, J, q2, h2, s2, m2⟩))
  go_ret
  refine ⟨rfl, ⟨ad, cap, mp, J, rfl, q2.new _, h2, ?_⟩, m2.trans (Moved.new _ _)⟩
  have := tells_drop ht hq.ids hi s2
  rw [hid.out] at this
  exact this

theorem key_no (h : Has w Q S K n) {id : Int} (e : K id = none) : Calls Try.prog 16 #[.pointer (some ⟨Q, 0, none⟩), .int .i64 id] w fun e w' => e = .returned (.tuple #[.int .i64 0, .bool false]) ∧ Below w.heap.size w w' := by
  obtain ⟨ad, cap, mp, I, rfl, hq, hh, ht⟩ := h
  have hmf : ∀ (fn : Fn) (first cap : Array Value) (w : World), (Instr.makeFunc fn first cap).run Try.prog w = .ok (.func fn first cap) w := fun _ _ _ _ => rfl
  have K1 := find_out hq id (tells_none ht e) (stepV 22 Q)
  clear e
  go_enter Try.func16, Try.ntmps16
  go_wp2_with (first
    | (go_at_call 20; refine K1.mono ?_; clear K1; rintro e w2 ⟨rfl, k2⟩))
  go_ret2
  exact ⟨rfl, k2.alloc k2.size _⟩

theorem key_yes (h : Has w Q S K n) {id v : Int} (e : K id = some v) : Calls Try.prog 16 #[.pointer (some ⟨Q, 0, none⟩), .int .i64 id] w fun e w' => e = .returned (.tuple #[.int .i64 v, .bool true]) ∧ Below w.heap.size w w' := by
  obtain ⟨ad, cap, mp, I, rfl, hq, hh, ht⟩ := h
  have hmf : ∀ (fn : Fn) (first cap : Array Value) (w : World), (Instr.makeFunc fn first cap).run Try.prog w = .ok (.func fn first cap) w := fun _ _ _ _ => rfl
  obtain ⟨i, hi, he⟩ := (ht id v).1 e
  have K1 := find_look hq i hi
  rw [he] at K1
  clear he e
  go_enter Try.func16, Try.ntmps16
  go_wp2_with (first
    | (go_at_call 20; refine K1.mono ?_; clear K1; rintro e w2 ⟨rfl, k2⟩))
  go_ret2
  exact ⟨rfl, k2.alloc k2.size _⟩
end
end Go.Proofs.Ythcjmbfhcdkffaa
