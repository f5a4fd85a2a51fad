/-
  The steps at a place, and the two ways to a place: the top, the place of a number.
-/
import Derived.Test.YthcjmbfhcdkffaaOps
namespace Go.Proofs.Ythcjmbfhcdkffaa
open Go Go.RowKit

theorem Moved.cell {S : Nat → Prop} {a b : World} (h : Moved S a b) {k : Nat} (hk : k < a.heap.size) (hS : ¬ S k) (o : Nat) : b.cell? ⟨k, o, none⟩ = a.cell? ⟨k, o, none⟩ := World.cell?_of_block (h.block k hk hS)
theorem Moved.frozen {S : Nat → Prop} {a b : World} (h : Moved S a b) {k : Nat} (hk : k < a.heap.size) (hS : ¬ S k) (o : Nat) : b.frozen? ⟨k, o, none⟩ = a.frozen? ⟨k, o, none⟩ := World.frozen?_of_block (h.block k hk hS)

/-- A result's own two cells, behind a call that leaves them alone. -/
theorem box_kept {S : Nat → Prop} {w w2 : World} (h : Moved S (w.alloc (.cells #[.int .i64 0, .int .i64 0] 30)) w2) (hS : ¬ S w.heap.size) :
    w2.cell? ⟨w.heap.size, 0, none⟩ = some (.int .i64 0) ∧ w2.cell? ⟨w.heap.size, 1, none⟩ = some (.int .i64 0) ∧ w2.frozen? ⟨w.heap.size, 0, none⟩ = false ∧ w2.frozen? ⟨w.heap.size, 1, none⟩ = false ∧ w.heap.size < w2.heap.size := by
  have hlt : w.heap.size < (w.alloc (.cells #[.int .i64 0, .int .i64 0] 30)).heap.size := by simp
  have hb := (MapKept.heap_alloc w (.cells #[.int .i64 0, .int .i64 0] 30)).1
  have hb2 := (h.block _ hlt hS).trans hb
  exact ⟨by simp [World.cell?, hb2], by simp [World.cell?, hb2], by simp [World.frozen?, hb2], by simp [World.frozen?, hb2], Nat.lt_of_lt_of_le hlt h.size⟩
/-- .. and behind their writing. -/
theorem box_moved {S : Nat → Prop} {w w2 : World} (h : Moved S (w.alloc (.cells #[.int .i64 0, .int .i64 0] 30)) w2) (x y : Value) :
    Moved S w ((w2.setCell ⟨w.heap.size, 0, none⟩ x).setCell ⟨w.heap.size, 1, none⟩ y) :=
  ⟨h.os, h.tape, h.output, Nat.le_trans (by simp) (Nat.le_trans h.size (by simp)), fun k hk hS => by
    rw [Below.heap_setCell _ _ _ _ (show k ≠ w.heap.size by omega), Below.heap_setCell _ _ _ _ (show k ≠ w.heap.size by omega), h.block k (by simp; omega) hS]
    exact Below.heap_alloc _ _ _ hk⟩

section
variable {w : World} {Q n cap : Nat} {ad : Option Addr} {mp : Option Nat} {I : Nat → Int × Int}

theorem IsQ.far (h : IsQ w Q ad n cap mp I) {k : Nat} (hk : w.heap.size ≤ k) : ¬ Foot Q ad mp k := fun f => by have := h.foot_lt f; omega
theorem IsQ.box {w2 : World} (h : IsQ w2 Q ad n cap mp I) {k : Nat} (hk : ¬ Foot Q ad mp k) (x y : Value) : IsQ ((w2.setCell ⟨k, 0, none⟩ x).setCell ⟨k, 1, none⟩ y) Q ad n cap mp I :=
  h.kept fun b hb => by rw [Below.heap_setCell _ _ _ _ (show b ≠ k from fun e => hk (e ▸ hb)), Below.heap_setCell _ _ _ _ (show b ≠ k from fun e => hk (e ▸ hb))]

theorem take_any (h : IsQ w Q ad (n + 1) cap mp I) (hh : Heap I (n + 1)) (hn : n ≤ 900000) (i : Nat) (hi : i < n + 1) :
    Calls Try.prog 19 #[.pointer (some ⟨Q, 0, none⟩), .int .i64 (i : Int)] w fun e w' => e = .returned (.agg #[.int .i64 (I i).1, .int .i64 (I i).2]) ∧ ∃ J, IsQ w' Q ad n cap mp J ∧ Heap J n ∧ (∀ x, (∃ k, k < n ∧ J k = x) ↔ (∃ k, k < n + 1 ∧ k ≠ i ∧ I k = x)) ∧ Moved (Foot Q ad mp) w w' := by
  have hta := assert_item
  have hfar := h.far (Nat.le_refl w.heap.size)
  have K1 := remove_any (h.new (.cells #[.int .i64 0, .int .i64 0] 30)) hh hn i hi
  go_enter Try.func19, Try.ntmps19
  go_wp2_with (first
    | (go_at_call 25; refine K1.mono ?_; clear K1; rintro e w2 ⟨rfl, J, q2, h2, s2, m2⟩; obtain ⟨b0, b1, b2, b3, b4⟩ := box_kept m2 hfar))
  exact bodyPost_ret (v := .agg #[.int .i64 (I i).1, .int .i64 (I i).2]) (by simp [results, Try.results19, go_sem, b0, b1]) rfl ⟨rfl, J, q2.box hfar _ _, h2, s2, box_moved m2 _ _⟩

theorem IsQ.setKey {g : Nat} (h : IsQ w Q (some ⟨g, 0, none⟩) n cap mp I) {i : Nat} (hi : i < n) (key : Int) : IsQ (w.setCell ⟨g, i * 2 + 1, none⟩ (.int .i64 key)) Q (some ⟨g, 0, none⟩) n cap mp (setP I i ((I i).1, key)) := by
  have hQg : Q < g := h.apart _ rfl
  obtain ⟨g', hg', hp⟩ := h.row.form (by omega)
  cases hg'
  have hid : ∀ k, (setP I i ((I i).1, key) k).1 = (I k).1 := fun k => by
    by_cases e : k = i
    · subst e; rw [setP_same]
    · rw [setP_other _ _ e]
  refine ⟨(Below.heap_setCell _ _ _ _ (show Q ≠ g by omega)).trans h.head, .inr ⟨g, rfl, hp.setKey hi key⟩, h.apart, fun a b ha hb e => h.ids a b ha hb (by rw [hid, hid] at e; exact e), h.none_, fun m hm => ?_⟩
  obtain ⟨P, hM, hP, hQm⟩ := h.some_ m hm
  refine ⟨P, hM.same (Below.heap_setCell _ _ _ _ (show m ≠ g from fun e => ?_)), fun k j => ?_, hQm⟩
  · obtain ⟨es, clock, l, hb', _⟩ := hM
    obtain ⟨cur, hb, _⟩ := hp
    rw [e, hb] at hb'
    cases hb'
  · rw [hP k j]
    constructor
    · rintro ⟨a, ha, hk, rfl⟩
      exact ⟨a, ha, by rw [hid]; exact hk, rfl⟩
    · rintro ⟨a, ha, hk, rfl⟩
      exact ⟨a, ha, by rw [hid] at hk; exact hk, rfl⟩

theorem three_new (w : World) (a b c : Obj) : (((w.alloc a).alloc b).alloc c).drew.heap[w.heap.size + 1]? = some b ∧ (((w.alloc a).alloc b).alloc c).drew.heap[w.heap.size + 2]? = some c ∧ (((w.alloc a).alloc b).alloc c).drew.heap.size = w.heap.size + 3 := by
  have e : (((w.alloc a).alloc b).alloc c).drew.heap = ((w.heap.push a).push b).push c := rfl
  rw [e]
  refine ⟨?_, ?_, by simp⟩
  · rw [Array.getElem?_push, if_neg (by simp), Array.getElem?_push, if_pos (by simp)]
  · rw [Array.getElem?_push, if_pos (by simp)]

theorem apply_any (h : IsQ w Q ad n cap mp I) (hh : Heap I n) (hn : n ≤ 900000) (i : Nat) (hi : i < n) (key : Int) :
    Calls Try.prog 21 #[.agg #[.pointer (some ⟨Q, 0, none⟩), .int .i64 key], .int .i64 (i : Int)] w fun e w' => e = .returned (.agg #[.int .i64 (I i).1, .int .i64 key]) ∧ ∃ J, IsQ w' Q ad n cap mp J ∧ Heap J n ∧ Same n (setP I i ((I i).1, key)) J ∧ Moved (Foot Q ad mp) w w' := by
  have c0 := h.cell0
  obtain ⟨g, rfl, hp⟩ := h.row.form (by omega)
  have hQg : Q < g := h.apart _ rfl
  have p0 := hp.cell0 hi
  have p1 := hp.cell1 hi
  have f1 := hp.frozen (i * 2 + 1)
  have hg := hp.lt
  have hQ := h.lt
  have hgQ : Q ≠ g := by omega
  have hgQ' : g ≠ Q := by omega
  have hi' : (i : Int) < (n : Int) := by omega
  have hsz0 : (w.setCell ⟨g, i * 2 + 1, none⟩ (.int .i64 key)).heap.size = w.heap.size := by simp
  have K1 := fix_any ((((h.setKey hi key).new (.cells #[.pointer (some ⟨Q, 0, none⟩), .int .i64 key] 58)).new (.cells #[.int .i64 0, .int .i64 0] 30)).new (.cells #[.int .i64 (I i).1, .int .i64 key] 30)).drew hn i hi (hh.dn _ (fun k _ hne => setP_other _ _ hne) hi)
  obtain ⟨t1, t2, t3⟩ := three_new (w.setCell ⟨g, i * 2 + 1, none⟩ (.int .i64 key)) (.cells #[.pointer (some ⟨Q, 0, none⟩), .int .i64 key] 58) (.cells #[.int .i64 0, .int .i64 0] 30) (.cells #[.int .i64 (I i).1, .int .i64 key] 30)
  rw [hsz0] at t1 t2 t3
  have hf1 := h.far (k := w.heap.size + 1) (by omega)
  have hf2 := h.far (k := w.heap.size + 2) (by omega)
  have hmv : Moved (Foot Q (some ⟨g, 0, none⟩) mp) w ((((w.setCell ⟨g, i * 2 + 1, none⟩ (.int .i64 key)).alloc (.cells #[.pointer (some ⟨Q, 0, none⟩), .int .i64 key] 58)).alloc (.cells #[.int .i64 0, .int .i64 0] 30)).alloc (.cells #[.int .i64 (I i).1, .int .i64 key] 30)).drew :=
    ((((Moved.set w (.inr (.inl ⟨_, rfl, rfl⟩)) _ _).trans (Moved.new _ _)).trans (Moved.new _ _)).trans (Moved.new _ _)).drew
  have bx : ∀ w2, Moved (Foot Q (some ⟨g, 0, none⟩) mp) ((((w.setCell ⟨g, i * 2 + 1, none⟩ (.int .i64 key)).alloc (.cells #[.pointer (some ⟨Q, 0, none⟩), .int .i64 key] 58)).alloc (.cells #[.int .i64 0, .int .i64 0] 30)).alloc (.cells #[.int .i64 (I i).1, .int .i64 key] 30)).drew w2 →
      w2.cell? ⟨w.heap.size + 1, 0, none⟩ = some (.int .i64 0) ∧ w2.cell? ⟨w.heap.size + 1, 1, none⟩ = some (.int .i64 0) ∧ w2.frozen? ⟨w.heap.size + 1, 0, none⟩ = false ∧ w2.frozen? ⟨w.heap.size + 1, 1, none⟩ = false ∧ w2.cell? ⟨w.heap.size + 2, 0, none⟩ = some (.int .i64 (I i).1) ∧ w2.cell? ⟨w.heap.size + 2, 1, none⟩ = some (.int .i64 key) := by
    intro w2 m2
    have e1 := (m2.block _ (by rw [t3]; omega) hf1).trans t1
    have e2 := (m2.block _ (by rw [t3]; omega) hf2).trans t2
    exact ⟨by simp [World.cell?, e1], by simp [World.cell?, e1], by simp [World.frozen?, e1], by simp [World.frozen?, e1], by simp [World.cell?, e2], by simp [World.cell?, e2]⟩
  have bm : ∀ w2 x y, Moved (Foot Q (some ⟨g, 0, none⟩) mp) ((((w.setCell ⟨g, i * 2 + 1, none⟩ (.int .i64 key)).alloc (.cells #[.pointer (some ⟨Q, 0, none⟩), .int .i64 key] 58)).alloc (.cells #[.int .i64 0, .int .i64 0] 30)).alloc (.cells #[.int .i64 (I i).1, .int .i64 key] 30)).drew w2 →
      Moved (Foot Q (some ⟨g, 0, none⟩) mp) w ((w2.setCell ⟨w.heap.size + 1, 0, none⟩ x).setCell ⟨w.heap.size + 1, 1, none⟩ y) := by
    intro w2 x y m2
    exact (hmv.trans m2).then_ ((Moved.set (S := fun k => k = w.heap.size + 1) w2 rfl 0 x).trans (Moved.set (S := fun k => k = w.heap.size + 1) _ rfl 1 y)) fun k hk => .inr (by omega)
  clear t1 t2 t3 hsz0 hmv
  go_enter Try.func21, Try.ntmps21
  go_wp2
  go_region
  go_wp2_with (first
    | (go_at_call 26; refine K1.mono ?_; clear K1; rintro e w2 ⟨rfl, J, q2, h2, s2, m2⟩; obtain ⟨b0, b1, b2, b3, b4, b5⟩ := bx w2 m2; have m3 := fun x y => bm w2 x y m2; clear bx bm))
  exact bodyPost_ret (v := .agg #[.int .i64 (I i).1, .int .i64 key]) (by simp [results, Try.results21, go_sem, b0, b1]) rfl ⟨rfl, J, q2.box hf1 _ _, h2, s2, m3 _ _⟩

theorem seek_in (h : IsQ w Q ad n cap mp I) (i : Nat) (hi : i < n) : (Instr.lookup 47 (.map mp) (.int .i64 (I i).1) true).run Try.prog w = .ok (.tuple #[.int .i64 (i : Int), .bool true]) w := by
  cases mp with
  | none => have := h.none_ rfl; omega
  | some m =>
    obtain ⟨P, hM, hP, _⟩ := h.some_ m rfl
    rw [map_look hM, (hP _ _).2 ⟨i, hi, rfl, rfl⟩]
    rfl
theorem seek_out (h : IsQ w Q ad n cap mp I) (id : Int) (hid : ∀ i, i < n → (I i).1 ≠ id) : (Instr.lookup 47 (.map mp) (.int .i64 id) true).run Try.prog w = .ok (.tuple #[.int .i64 0, .bool false]) w := by
  cases mp with
  | none => exact map_look_nil w id
  | some m =>
    obtain ⟨P, hM, hP, _⟩ := h.some_ m rfl
    have : P id = none := by
      cases e : P id with
      | none => rfl
      | some j =>
        obtain ⟨i, hi, hk, _⟩ := (hP _ _).1 e
        exact absurd hk (hid i hi)
    rw [map_look hM, this]
    rfl

/-- The function values of the three steps. -/
abbrev stepV (f : Nat) (Q : Nat) : Value := .func (.func f) #[.pointer (some ⟨Q, 0, none⟩)] #[]
abbrev keyV (Q : Nat) (key : Int) : Value := .func (.func 21) #[.agg #[.pointer (some ⟨Q, 0, none⟩), .int .i64 key]] #[]
abbrev itemV (x : Int × Int) : Value := .agg #[.int .i64 x.1, .int .i64 x.2]

theorem find_out (h : IsQ w Q ad n cap mp I) (id : Int) (hid : ∀ i, i < n → (I i).1 ≠ id) (f : Value) :
    Calls Try.prog 20 #[.pointer (some ⟨Q, 0, none⟩), .int .i64 id, f] w fun e w' => e = .returned (.tuple #[itemV (0, 0), .bool false]) ∧ Below w.heap.size w w' := by
  have c1 := h.cell1
  have hQ := h.lt
  have L := seek_out (h.new (.cells #[.int .i64 0, .int .i64 0] 30)) id hid
  go_enter Try.func20, Try.ntmps20
  go_wp2
  exact bodyPost_ret (v := .tuple #[.agg #[.int .i64 0, .int .i64 0], .bool false]) (by simp [results, Try.results20, go_sem]) rfl ⟨rfl, (Below.refl _ _).alloc (Nat.le_refl _) _⟩

theorem find_look (h : IsQ w Q ad n cap mp I) (i : Nat) (hi : i < n) :
    Calls Try.prog 20 #[.pointer (some ⟨Q, 0, none⟩), .int .i64 (I i).1, stepV 22 Q] w fun e w' => e = .returned (.tuple #[itemV (I i), .bool true]) ∧ Below w.heap.size w w' := by
  have c1 := h.cell1
  have hQ := h.lt
  have L := seek_in (h.new (.cells #[.int .i64 0, .int .i64 0] 30)) i hi
  have K1 := look_any (h.new (.cells #[.int .i64 0, .int .i64 0] 30)) i hi
  go_enter Try.func20, Try.ntmps20
  go_wp2_with (first
    | (go_at_call 22; refine K1.mono ?_; clear K1; rintro e w2 ⟨rfl, k2⟩; have m2 := Moved.of_below (S := fun _ => False) k2; obtain ⟨b0, b1, b2, b3, b4⟩ := box_kept m2 id))
  exact bodyPost_ret (v := .tuple #[itemV (I i), .bool true]) (by simp [results, Try.results20, go_sem, b0, b1]) rfl ⟨rfl, (box_moved m2 _ _).below (Nat.le_refl _) fun i hi => hi.elim⟩

theorem find_take (h : IsQ w Q ad (n + 1) cap mp I) (hh : Heap I (n + 1)) (hn : n ≤ 900000) (i : Nat) (hi : i < n + 1) :
    Calls Try.prog 20 #[.pointer (some ⟨Q, 0, none⟩), .int .i64 (I i).1, stepV 19 Q] w fun e w' => e = .returned (.tuple #[itemV (I i), .bool true]) ∧ ∃ J, IsQ w' Q ad n cap mp J ∧ Heap J n ∧ (∀ x, (∃ k, k < n ∧ J k = x) ↔ (∃ k, k < n + 1 ∧ k ≠ i ∧ I k = x)) ∧ Moved (Foot Q ad mp) w w' := by
  have c1 := h.cell1
  have hQ := h.lt
  have hfar := h.far (Nat.le_refl w.heap.size)
  have L := seek_in (h.new (.cells #[.int .i64 0, .int .i64 0] 30)) i hi
  have K1 := take_any (h.new (.cells #[.int .i64 0, .int .i64 0] 30)) hh hn i hi
  go_enter Try.func20, Try.ntmps20
  go_wp2_with (first
    | (go_at_call 19; refine K1.mono ?_; clear K1; rintro e w2 ⟨rfl, J, q2, h2, s2, m2⟩; obtain ⟨b0, b1, b2, b3, b4⟩ := box_kept m2 hfar))
  exact bodyPost_ret (v := .tuple #[itemV (I i), .bool true]) (by simp [results, Try.results20, go_sem, b0, b1]) rfl ⟨rfl, J, q2.box hfar _ _, h2, s2, box_moved m2 _ _⟩

theorem find_apply (h : IsQ w Q ad n cap mp I) (hh : Heap I n) (hn : n ≤ 900000) (i : Nat) (hi : i < n) (key : Int) :
    Calls Try.prog 20 #[.pointer (some ⟨Q, 0, none⟩), .int .i64 (I i).1, keyV Q key] w fun e w' => e = .returned (.tuple #[itemV ((I i).1, key), .bool true]) ∧ ∃ J, IsQ w' Q ad n cap mp J ∧ Heap J n ∧ Same n (setP I i ((I i).1, key)) J ∧ Moved (Foot Q ad mp) w w' := by
  have c1 := h.cell1
  have hQ := h.lt
  have hfar := h.far (Nat.le_refl w.heap.size)
  have L := seek_in (h.new (.cells #[.int .i64 0, .int .i64 0] 30)) i hi
  have K1 := apply_any (h.new (.cells #[.int .i64 0, .int .i64 0] 30)) hh hn i hi key
  go_enter Try.func20, Try.ntmps20
  go_wp2_with (first
    | (go_at_call 21; refine K1.mono ?_; clear K1; rintro e w2 ⟨rfl, J, q2, h2, s2, m2⟩; obtain ⟨b0, b1, b2, b3, b4⟩ := box_kept m2 hfar))
  exact bodyPost_ret (v := .tuple #[itemV ((I i).1, key), .bool true]) (by simp [results, Try.results20, go_sem, b0, b1]) rfl ⟨rfl, J, q2.box hfar _ _, h2, s2, box_moved m2 _ _⟩

theorem first_out (h : IsQ w Q ad 0 cap mp I) (f : Value) :
    Calls Try.prog 18 #[.pointer (some ⟨Q, 0, none⟩), f] w fun e w' => e = .returned (.tuple #[itemV (0, 0), .bool false]) ∧ Below w.heap.size w w' := by
  have K1 := rlen_any (h.new (.cells #[.int .i64 0, .int .i64 0] 30))
  go_enter Try.func18, Try.ntmps18
  go_wp2_with (first
    | (go_at_call 23; refine K1.mono ?_; clear K1; rintro e w2 ⟨rfl, rfl⟩))
  exact bodyPost_ret (v := .tuple #[.agg #[.int .i64 0, .int .i64 0], .bool false]) (by simp [results, Try.results18, go_sem]) rfl ⟨rfl, (Below.refl _ _).alloc (Nat.le_refl _) _⟩

theorem first_look (h : IsQ w Q ad (n + 1) cap mp I) :
    Calls Try.prog 18 #[.pointer (some ⟨Q, 0, none⟩), stepV 22 Q] w fun e w' => e = .returned (.tuple #[itemV (I 0), .bool true]) ∧ Below w.heap.size w w' := by
  have K0 := rlen_any (h.new (.cells #[.int .i64 0, .int .i64 0] 30))
  have K1 := look_any (h.new (.cells #[.int .i64 0, .int .i64 0] 30)) 0 (by omega)
  have hz : ¬ ((n + 1 : Nat) : Int) = 0 := by omega
  go_enter Try.func18, Try.ntmps18
  go_wp2_with (first
    | (go_at_call 23; refine K0.mono ?_; clear K0; rintro e w2 ⟨rfl, rfl⟩)
    | (go_at_call 22; refine K1.mono ?_; clear K1; rintro e w2 ⟨rfl, k2⟩; have m2 := Moved.of_below (S := fun _ => False) k2; obtain ⟨b0, b1, b2, b3, b4⟩ := box_kept m2 id))
  exact bodyPost_ret (v := .tuple #[itemV (I 0), .bool true]) (by simp [results, Try.results18, go_sem, b0, b1]) rfl ⟨rfl, (box_moved m2 _ _).below (Nat.le_refl _) fun i hi => hi.elim⟩

theorem first_take (h : IsQ w Q ad (n + 1) cap mp I) (hh : Heap I (n + 1)) (hn : n ≤ 900000) :
    Calls Try.prog 18 #[.pointer (some ⟨Q, 0, none⟩), stepV 19 Q] w fun e w' => e = .returned (.tuple #[itemV (I 0), .bool true]) ∧ ∃ J, IsQ w' Q ad n cap mp J ∧ Heap J n ∧ (∀ x, (∃ k, k < n ∧ J k = x) ↔ (∃ k, k < n + 1 ∧ k ≠ 0 ∧ I k = x)) ∧ Moved (Foot Q ad mp) w w' := by
  have hfar := h.far (Nat.le_refl w.heap.size)
  have K0 := rlen_any (h.new (.cells #[.int .i64 0, .int .i64 0] 30))
  have K1 := take_any (h.new (.cells #[.int .i64 0, .int .i64 0] 30)) hh hn 0 (by omega)
  have hz : ¬ ((n + 1 : Nat) : Int) = 0 := by omega
  go_enter Try.func18, Try.ntmps18
  go_wp2_with (first
    | (go_at_call 23; refine K0.mono ?_; clear K0; rintro e w2 ⟨rfl, rfl⟩)
    | (go_at_call 19; refine K1.mono ?_; clear K1; rintro e w2 ⟨rfl, J, q2, h2, s2, m2⟩; obtain ⟨b0, b1, b2, b3, b4⟩ := box_kept m2 hfar))
  exact bodyPost_ret (v := .tuple #[itemV (I 0), .bool true]) (by simp [results, Try.results18, go_sem, b0, b1]) rfl ⟨rfl, J, q2.box hfar _ _, h2, s2, box_moved m2 _ _⟩
end
end Go.Proofs.Ythcjmbfhcdkffaa
