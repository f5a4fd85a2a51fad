/-
  The statements' helps: an operation by its number, its table.
  As many nodes as several functions have together, without a program; room for them.
  Three tables loaded, each handed to a call, and all stored again: whatever the order.
-/
import Derived.Test.YthadeopmnedccaaGreatLgc
import Derived.Test.YthadeopmnedccaaGreatBaseG
namespace Go.Proofs.YthadeopmnedccaaGreat
open Go Go.RowKit
open Rf (tab word IsTab)

/-- The operation of a number. -/
def opK (k : Nat) : Bool → Bool → Bool → Bool := if k = 0 then oNot else if k = 1 then oAnd else if k = 2 then oOr else if k = 3 then oXor else oIte
/-- Its arguments are nodes. -/
def usedK (M : Mdl) (k a b c : Nat) : Prop := M.isNode a ∧ (0 < k → M.isNode b) ∧ (3 < k → M.isNode c)
def usedB (M : Mdl) (k a b c : Nat) : Bool := M.nodeB a && (decide (k = 0) || M.nodeB b) && (decide (k < 4) || M.nodeB c)
theorem usedB_true {M : Mdl} {k a b c : Nat} (h : usedK M k a b c) : usedB M k a b c = true := by
  unfold usedB
  rw [Mdl.nodeB_true h.1]
  by_cases k0 : k = 0
  · simp [k0]
  · rw [Mdl.nodeB_true (h.2.1 (by omega))]
    by_cases k4 : k < 4
    · simp [k4]
    · rw [Mdl.nodeB_true (h.2.2 (by omega))]; simp
theorem usedB_false {M : Mdl} {k a b c : Nat} (h : ¬ usedK M k a b c) : usedB M k a b c = false := by
  unfold usedB
  by_cases ha : M.isNode a
  · by_cases hb : 0 < k → M.isNode b
    · have hc : ¬ (3 < k → M.isNode c) := fun hc => h ⟨ha, hb, hc⟩
      have k3 : 3 < k := Classical.byContradiction fun e => hc fun q => absurd q e
      have nc : ¬ M.isNode c := fun q => hc fun _ => q
      rw [Mdl.nodeB_false nc, decide_eq_false (show ¬ k < 4 by omega)]
      simp
    · have k0 : 0 < k := Classical.byContradiction fun e => hb fun q => absurd q e
      have nb : ¬ M.isNode b := fun q => hb fun _ => q
      rw [Mdl.nodeB_false nb, decide_eq_false (show ¬ k = 0 by omega)]
      simp
  · rw [Mdl.nodeB_false ha]
    simp
def resK (k : Nat) (F G H : Nat → Bool) : Nat → Bool := fun x => opK k (F x) (G x) (H x)
theorem lt5 {k : Nat} (h : k < 5) : k = 0 ∨ k = 1 ∨ k = 2 ∨ k = 3 ∨ k = 4 := by omega
section
variable {w : World} {S : Nat} {F0 : Nat → Prop} {M : Mdl} {a b c : Nat}
theorem call0_any (s : St w S F0 M) (ha : M.isNode a) :
    Calls Tryz.prog 17 #[.pointer (some ⟨S, 0, none⟩), .int .i64 0, .int .u32 (a : Int), .int .u32 (b : Int), .int .u32 (c : Int)] w (Left S F0 w M 0 (ans M oNot a b c)) := by
  have K : Calls Tryz.prog 26 #[.pointer (some ⟨S, 0, none⟩), .int .u32 (a : Int)] w (Left S F0 w M 0 (ans M oNot a b c)) := not_op s ha
  go_enter Tryz.func17, Tryz.ntmps17
  go_wp2_with (first
    | (go_at_call 26; refine K.mono ?_; clear K; rintro e w8 ⟨p, er, M8, F8, rfl, t8, s8, b8⟩; have t8A : Aside (Told M 0 (ans M oNot a b c) p er M8) := t8; clear t8))
  go_ret2
  exact ⟨p, er, M8, F8, rfl, t8A.out, s8, b8⟩
theorem call0_bad (s : St w S F0 M) (ha : a < 4294967296) (_hb : b < 4294967296) (_hc : c < 4294967296) (no : ¬ (M.isNode a)) :
    Calls Tryz.prog 17 #[.pointer (some ⟨S, 0, none⟩), .int .i64 0, .int .u32 (a : Int), .int .u32 (b : Int), .int .u32 (c : Int)] w fun e w' => e = .returned (.tuple #[.int .u32 0, .int .i64 101]) ∧ Below w.heap.size w w' := by
  have K := not_bad s ha no
  go_enter Tryz.func17, Tryz.ntmps17
  go_wp2_with (first
    | (go_at_call 26; refine K.mono ?_; clear K; rintro e w8 ⟨rfl, b8⟩))
  go_ret2
  exact ⟨rfl, b8⟩
theorem call1_any (s : St w S F0 M) (ha : M.isNode a) (hb : M.isNode b) :
    Calls Tryz.prog 17 #[.pointer (some ⟨S, 0, none⟩), .int .i64 1, .int .u32 (a : Int), .int .u32 (b : Int), .int .u32 (c : Int)] w (Left S F0 w M 0 (ans M oAnd a b c)) := by
  have K : Calls Tryz.prog 27 #[.pointer (some ⟨S, 0, none⟩), .int .u32 (a : Int), .int .u32 (b : Int)] w (Left S F0 w M 0 (ans M oAnd a b c)) := and_op s ha hb
  go_enter Tryz.func17, Tryz.ntmps17
  go_wp2_with (first
    | (go_at_call 27; refine K.mono ?_; clear K; rintro e w8 ⟨p, er, M8, F8, rfl, t8, s8, b8⟩; have t8A : Aside (Told M 0 (ans M oAnd a b c) p er M8) := t8; clear t8))
  go_ret2
  exact ⟨p, er, M8, F8, rfl, t8A.out, s8, b8⟩
theorem call1_bad (s : St w S F0 M) (ha : a < 4294967296) (hb : b < 4294967296) (_hc : c < 4294967296) (no : ¬ (M.isNode a ∧ M.isNode b)) :
    Calls Tryz.prog 17 #[.pointer (some ⟨S, 0, none⟩), .int .i64 1, .int .u32 (a : Int), .int .u32 (b : Int), .int .u32 (c : Int)] w fun e w' => e = .returned (.tuple #[.int .u32 0, .int .i64 101]) ∧ Below w.heap.size w w' := by
  have K := and_bad s ha hb no
  go_enter Tryz.func17, Tryz.ntmps17
  go_wp2_with (first
    | (go_at_call 27; refine K.mono ?_; clear K; rintro e w8 ⟨rfl, b8⟩))
  go_ret2
  exact ⟨rfl, b8⟩
theorem call2_any (s : St w S F0 M) (ha : M.isNode a) (hb : M.isNode b) :
    Calls Tryz.prog 17 #[.pointer (some ⟨S, 0, none⟩), .int .i64 2, .int .u32 (a : Int), .int .u32 (b : Int), .int .u32 (c : Int)] w (Left S F0 w M 0 (ans M oOr a b c)) := by
  have K : Calls Tryz.prog 28 #[.pointer (some ⟨S, 0, none⟩), .int .u32 (a : Int), .int .u32 (b : Int)] w (Left S F0 w M 0 (ans M oOr a b c)) := or_op s ha hb
  go_enter Tryz.func17, Tryz.ntmps17
  go_wp2_with (first
    | (go_at_call 28; refine K.mono ?_; clear K; rintro e w8 ⟨p, er, M8, F8, rfl, t8, s8, b8⟩; have t8A : Aside (Told M 0 (ans M oOr a b c) p er M8) := t8; clear t8))
  go_ret2
  exact ⟨p, er, M8, F8, rfl, t8A.out, s8, b8⟩
theorem call2_bad (s : St w S F0 M) (ha : a < 4294967296) (hb : b < 4294967296) (_hc : c < 4294967296) (no : ¬ (M.isNode a ∧ M.isNode b)) :
    Calls Tryz.prog 17 #[.pointer (some ⟨S, 0, none⟩), .int .i64 2, .int .u32 (a : Int), .int .u32 (b : Int), .int .u32 (c : Int)] w fun e w' => e = .returned (.tuple #[.int .u32 0, .int .i64 101]) ∧ Below w.heap.size w w' := by
  have K := or_bad s ha hb no
  go_enter Tryz.func17, Tryz.ntmps17
  go_wp2_with (first
    | (go_at_call 28; refine K.mono ?_; clear K; rintro e w8 ⟨rfl, b8⟩))
  go_ret2
  exact ⟨rfl, b8⟩
theorem call3_any (s : St w S F0 M) (ha : M.isNode a) (hb : M.isNode b) :
    Calls Tryz.prog 17 #[.pointer (some ⟨S, 0, none⟩), .int .i64 3, .int .u32 (a : Int), .int .u32 (b : Int), .int .u32 (c : Int)] w (Left S F0 w M 0 (ans M oXor a b c)) := by
  have K : Calls Tryz.prog 29 #[.pointer (some ⟨S, 0, none⟩), .int .u32 (a : Int), .int .u32 (b : Int)] w (Left S F0 w M 0 (ans M oXor a b c)) := xor_op s ha hb
  go_enter Tryz.func17, Tryz.ntmps17
  go_wp2_with (first
    | (go_at_call 29; refine K.mono ?_; clear K; rintro e w8 ⟨p, er, M8, F8, rfl, t8, s8, b8⟩; have t8A : Aside (Told M 0 (ans M oXor a b c) p er M8) := t8; clear t8))
  go_ret2
  exact ⟨p, er, M8, F8, rfl, t8A.out, s8, b8⟩
theorem call3_bad (s : St w S F0 M) (ha : a < 4294967296) (hb : b < 4294967296) (_hc : c < 4294967296) (no : ¬ (M.isNode a ∧ M.isNode b)) :
    Calls Tryz.prog 17 #[.pointer (some ⟨S, 0, none⟩), .int .i64 3, .int .u32 (a : Int), .int .u32 (b : Int), .int .u32 (c : Int)] w fun e w' => e = .returned (.tuple #[.int .u32 0, .int .i64 101]) ∧ Below w.heap.size w w' := by
  have K := xor_bad s ha hb no
  go_enter Tryz.func17, Tryz.ntmps17
  go_wp2_with (first
    | (go_at_call 29; refine K.mono ?_; clear K; rintro e w8 ⟨rfl, b8⟩))
  go_ret2
  exact ⟨rfl, b8⟩
theorem call4_any (s : St w S F0 M) (ha : M.isNode a) (hb : M.isNode b) (hc : M.isNode c) :
    Calls Tryz.prog 17 #[.pointer (some ⟨S, 0, none⟩), .int .i64 4, .int .u32 (a : Int), .int .u32 (b : Int), .int .u32 (c : Int)] w (Left S F0 w M 0 (ans M oIte a b c)) := by
  have K : Calls Tryz.prog 30 #[.pointer (some ⟨S, 0, none⟩), .int .u32 (a : Int), .int .u32 (b : Int), .int .u32 (c : Int)] w (Left S F0 w M 0 (ans M oIte a b c)) := ite_op s ha hb hc
  go_enter Tryz.func17, Tryz.ntmps17
  go_wp2_with (first
    | (go_at_call 30; refine K.mono ?_; clear K; rintro e w8 ⟨p, er, M8, F8, rfl, t8, s8, b8⟩; have t8A : Aside (Told M 0 (ans M oIte a b c) p er M8) := t8; clear t8))
  go_ret2
  exact ⟨p, er, M8, F8, rfl, t8A.out, s8, b8⟩
theorem call4_bad (s : St w S F0 M) (ha : a < 4294967296) (hb : b < 4294967296) (hc : c < 4294967296) (no : ¬ (M.isNode a ∧ M.isNode b ∧ M.isNode c)) :
    Calls Tryz.prog 17 #[.pointer (some ⟨S, 0, none⟩), .int .i64 4, .int .u32 (a : Int), .int .u32 (b : Int), .int .u32 (c : Int)] w fun e w' => e = .returned (.tuple #[.int .u32 0, .int .i64 101]) ∧ Below w.heap.size w w' := by
  have K := ite_bad s ha hb hc no
  go_enter Tryz.func17, Tryz.ntmps17
  go_wp2_with (first
    | (go_at_call 30; refine K.mono ?_; clear K; rintro e w8 ⟨rfl, b8⟩))
  go_ret2
  exact ⟨rfl, b8⟩
theorem call_any {k : Nat} (hk : k < 5) (s : St w S F0 M) (h : usedK M k a b c) :
    Calls Tryz.prog 17 #[.pointer (some ⟨S, 0, none⟩), .int .i64 (k : Int), .int .u32 (a : Int), .int .u32 (b : Int), .int .u32 (c : Int)] w (Left S F0 w M 0 (ans M (opK k) a b c)) := by
  obtain ⟨ha, hb, hc⟩ := h
  rcases lt5 hk with rfl | rfl | rfl | rfl | rfl
  · exact call0_any s ha
  · exact call1_any s ha (hb (by omega))
  · exact call2_any s ha (hb (by omega))
  · exact call3_any s ha (hb (by omega))
  · exact call4_any s ha (hb (by omega)) (hc (by omega))
theorem call_bad {k : Nat} (hk : k < 5) (s : St w S F0 M) (ha : a < 4294967296) (hb : b < 4294967296) (hc : c < 4294967296) (no : ¬ usedK M k a b c) :
    Calls Tryz.prog 17 #[.pointer (some ⟨S, 0, none⟩), .int .i64 (k : Int), .int .u32 (a : Int), .int .u32 (b : Int), .int .u32 (c : Int)] w fun e w' => e = .returned (.tuple #[.int .u32 0, .int .i64 101]) ∧ Below w.heap.size w w' := by
  unfold usedK at no
  rcases lt5 hk with rfl | rfl | rfl | rfl | rfl
  · exact call0_bad s ha hb hc fun h => no ⟨h, fun h => by omega, fun h => by omega⟩
  · exact call1_bad s ha hb hc fun h => no ⟨h.1, fun _ => h.2, fun h => by omega⟩
  · exact call2_bad s ha hb hc fun h => no ⟨h.1, fun _ => h.2, fun h => by omega⟩
  · exact call3_bad s ha hb hc fun h => no ⟨h.1, fun _ => h.2, fun h => by omega⟩
  · exact call4_bad s ha hb hc fun h => no ⟨h.1, fun _ => h.2.1, fun _ => h.2.2⟩
end
set_option maxRecDepth 100000 in
set_option maxHeartbeats 1000000 in
theorem result0_any (F G H : Nat → Bool) (w : World) :
    Calls Tryz.prog 16 #[.int .i64 0, tab F, tab G, tab H] w fun e w' => e = .returned (tab (fun x => !F x)) ∧ Below w.heap.size w w' := by
  have K := Rf.not_any F
  obtain ⟨X, hX⟩ : ∃ X, (fun x => !F x) = X := ⟨_, rfl⟩
  rw [hX] at K ⊢
  clear hX
  conv in #[Value.int .i64 0, tab F, tab G, tab H] => unfold tab
  go_enter Tryz.func16, Tryz.ntmps16
  go_upto_region 1 with fail
  obtain ⟨TF, TG, TH, B3, hs⟩ := boxes3 w F G H
  generalize ((w.alloc (.cells #[.int .u64 (word F 0 : Int), .int .u64 (word F 1 : Int), .int .u64 (word F 2 : Int), .int .u64 (word F 3 : Int)] 24)).alloc (.cells #[.int .u64 (word G 0 : Int), .int .u64 (word G 1 : Int), .int .u64 (word G 2 : Int), .int .u64 (word G 3 : Int)] 24)).alloc (.cells #[.int .u64 (word H 0 : Int), .int .u64 (word H 1 : Int), .int .u64 (word H 2 : Int), .int .u64 (word H 3 : Int)] 24) = v3 at TF TG TH B3 hs ⊢
  have TZ : IsTab (v3.alloc (.cells #[.int .u64 0, .int .u64 0, .int .u64 0, .int .u64 0] 24)) v3.heap.size (fun _ => false) := IsTab.zero (Go.Deep.blk_alloc_new _ _)
  have b4 := nb v3 (.cells #[.int .u64 0, .int .u64 0, .int .u64 0, .int .u64 0] 24)
  have B4 := Rf.below_far B3 b4
  have TF := kept TF b4
  have TG := kept TG b4
  have TH := kept TH b4
  rw [hs] at TZ
  generalize v3.alloc (.cells #[.int .u64 0, .int .u64 0, .int .u64 0, .int .u64 0] 24) = w4 at TF TG TH TZ B4 ⊢
  have B4A : Aside (Below w.heap.size w w4) := B4
  have hbr : Aside (w.heap.size ≤ w.heap.size + 1 + 1 + 1) := by show _ ≤ _; omega
  clear B3 hs b4 B4
  generalize w.heap.size + 1 + 1 + 1 = br at TZ hbr ⊢
  generalize w.heap.size + 1 + 1 = bh at TH ⊢
  generalize w.heap.size + 1 = bg at TG ⊢
  generalize w.heap.size = bf at TF ⊢
  obtain ⟨p0, p1, p2, p3⟩ := TF.copy
  have K := K w4
  unfold tab at K
  go_wp2_with (first
    | (go_at_call 31; refine K.mono ?_; clear K; rintro e w5 ⟨rfl, b5⟩; have T5 := kept TZ b5; have y0 := T5.cell (k := 0) (by decide); have y1 := T5.cell (k := 1) (by decide); have y2 := T5.cell (k := 2) (by decide); have y3 := T5.cell (k := 3) (by decide); have z0 := T5.free 0; have z1 := T5.free 1; have z2 := T5.free 2; have z3 := T5.free 3))
  have B5 := Rf.below_far B4A.out b5
  exact bodyPost_ret (Rf.results_tab rfl rfl (Rf.laid_tab T5 X)) rfl ⟨rfl, B5.trans ((Rf.laid_turned _ _ _).below B5.size hbr.out)⟩
set_option maxRecDepth 100000 in
set_option maxHeartbeats 1000000 in
theorem result1_any (F G H : Nat → Bool) (w : World) :
    Calls Tryz.prog 16 #[.int .i64 1, tab F, tab G, tab H] w fun e w' => e = .returned (tab (fun x => F x && G x)) ∧ Below w.heap.size w w' := by
  have K := Rf.and_any F G
  obtain ⟨X, hX⟩ : ∃ X, (fun x => F x && G x) = X := ⟨_, rfl⟩
  rw [hX] at K ⊢
  clear hX
  conv in #[Value.int .i64 1, tab F, tab G, tab H] => unfold tab
  go_enter Tryz.func16, Tryz.ntmps16
  go_upto_region 1 with fail
  obtain ⟨TF, TG, TH, B3, hs⟩ := boxes3 w F G H
  generalize ((w.alloc (.cells #[.int .u64 (word F 0 : Int), .int .u64 (word F 1 : Int), .int .u64 (word F 2 : Int), .int .u64 (word F 3 : Int)] 24)).alloc (.cells #[.int .u64 (word G 0 : Int), .int .u64 (word G 1 : Int), .int .u64 (word G 2 : Int), .int .u64 (word G 3 : Int)] 24)).alloc (.cells #[.int .u64 (word H 0 : Int), .int .u64 (word H 1 : Int), .int .u64 (word H 2 : Int), .int .u64 (word H 3 : Int)] 24) = v3 at TF TG TH B3 hs ⊢
  have TZ : IsTab (v3.alloc (.cells #[.int .u64 0, .int .u64 0, .int .u64 0, .int .u64 0] 24)) v3.heap.size (fun _ => false) := IsTab.zero (Go.Deep.blk_alloc_new _ _)
  have b4 := nb v3 (.cells #[.int .u64 0, .int .u64 0, .int .u64 0, .int .u64 0] 24)
  have B4 := Rf.below_far B3 b4
  have TF := kept TF b4
  have TG := kept TG b4
  have TH := kept TH b4
  rw [hs] at TZ
  generalize v3.alloc (.cells #[.int .u64 0, .int .u64 0, .int .u64 0, .int .u64 0] 24) = w4 at TF TG TH TZ B4 ⊢
  have B4A : Aside (Below w.heap.size w w4) := B4
  have hbr : Aside (w.heap.size ≤ w.heap.size + 1 + 1 + 1) := by show _ ≤ _; omega
  clear B3 hs b4 B4
  generalize w.heap.size + 1 + 1 + 1 = br at TZ hbr ⊢
  generalize w.heap.size + 1 + 1 = bh at TH ⊢
  generalize w.heap.size + 1 = bg at TG ⊢
  generalize w.heap.size = bf at TF ⊢
  obtain ⟨p0, p1, p2, p3⟩ := TF.copy
  obtain ⟨q0, q1, q2, q3⟩ := TG.copy
  have K := K w4
  unfold tab at K
  go_wp2_with (first
    | (go_at_call 46; refine K.mono ?_; clear K; rintro e w5 ⟨rfl, b5⟩; have T5 := kept TZ b5; have y0 := T5.cell (k := 0) (by decide); have y1 := T5.cell (k := 1) (by decide); have y2 := T5.cell (k := 2) (by decide); have y3 := T5.cell (k := 3) (by decide); have z0 := T5.free 0; have z1 := T5.free 1; have z2 := T5.free 2; have z3 := T5.free 3))
  have B5 := Rf.below_far B4A.out b5
  exact bodyPost_ret (Rf.results_tab rfl rfl (Rf.laid_tab T5 X)) rfl ⟨rfl, B5.trans ((Rf.laid_turned _ _ _).below B5.size hbr.out)⟩
set_option maxRecDepth 100000 in
set_option maxHeartbeats 1000000 in
theorem result2_any (F G H : Nat → Bool) (w : World) :
    Calls Tryz.prog 16 #[.int .i64 2, tab F, tab G, tab H] w fun e w' => e = .returned (tab (fun x => F x || G x)) ∧ Below w.heap.size w w' := by
  have K := Rf.or_any F G
  obtain ⟨X, hX⟩ : ∃ X, (fun x => F x || G x) = X := ⟨_, rfl⟩
  rw [hX] at K ⊢
  clear hX
  conv in #[Value.int .i64 2, tab F, tab G, tab H] => unfold tab
  go_enter Tryz.func16, Tryz.ntmps16
  go_upto_region 1 with fail
  obtain ⟨TF, TG, TH, B3, hs⟩ := boxes3 w F G H
  generalize ((w.alloc (.cells #[.int .u64 (word F 0 : Int), .int .u64 (word F 1 : Int), .int .u64 (word F 2 : Int), .int .u64 (word F 3 : Int)] 24)).alloc (.cells #[.int .u64 (word G 0 : Int), .int .u64 (word G 1 : Int), .int .u64 (word G 2 : Int), .int .u64 (word G 3 : Int)] 24)).alloc (.cells #[.int .u64 (word H 0 : Int), .int .u64 (word H 1 : Int), .int .u64 (word H 2 : Int), .int .u64 (word H 3 : Int)] 24) = v3 at TF TG TH B3 hs ⊢
  have TZ : IsTab (v3.alloc (.cells #[.int .u64 0, .int .u64 0, .int .u64 0, .int .u64 0] 24)) v3.heap.size (fun _ => false) := IsTab.zero (Go.Deep.blk_alloc_new _ _)
  have b4 := nb v3 (.cells #[.int .u64 0, .int .u64 0, .int .u64 0, .int .u64 0] 24)
  have B4 := Rf.below_far B3 b4
  have TF := kept TF b4
  have TG := kept TG b4
  have TH := kept TH b4
  rw [hs] at TZ
  generalize v3.alloc (.cells #[.int .u64 0, .int .u64 0, .int .u64 0, .int .u64 0] 24) = w4 at TF TG TH TZ B4 ⊢
  have B4A : Aside (Below w.heap.size w w4) := B4
  have hbr : Aside (w.heap.size ≤ w.heap.size + 1 + 1 + 1) := by show _ ≤ _; omega
  clear B3 hs b4 B4
  generalize w.heap.size + 1 + 1 + 1 = br at TZ hbr ⊢
  generalize w.heap.size + 1 + 1 = bh at TH ⊢
  generalize w.heap.size + 1 = bg at TG ⊢
  generalize w.heap.size = bf at TF ⊢
  obtain ⟨p0, p1, p2, p3⟩ := TF.copy
  obtain ⟨q0, q1, q2, q3⟩ := TG.copy
  have K := K w4
  unfold tab at K
  go_wp2_with (first
    | (go_at_call 47; refine K.mono ?_; clear K; rintro e w5 ⟨rfl, b5⟩; have T5 := kept TZ b5; have y0 := T5.cell (k := 0) (by decide); have y1 := T5.cell (k := 1) (by decide); have y2 := T5.cell (k := 2) (by decide); have y3 := T5.cell (k := 3) (by decide); have z0 := T5.free 0; have z1 := T5.free 1; have z2 := T5.free 2; have z3 := T5.free 3))
  have B5 := Rf.below_far B4A.out b5
  exact bodyPost_ret (Rf.results_tab rfl rfl (Rf.laid_tab T5 X)) rfl ⟨rfl, B5.trans ((Rf.laid_turned _ _ _).below B5.size hbr.out)⟩
set_option maxRecDepth 100000 in
set_option maxHeartbeats 1000000 in
theorem result3_any (F G H : Nat → Bool) (w : World) :
    Calls Tryz.prog 16 #[.int .i64 3, tab F, tab G, tab H] w fun e w' => e = .returned (tab (fun x => F x != G x)) ∧ Below w.heap.size w w' := by
  have K := Rf.xor_any F G
  obtain ⟨X, hX⟩ : ∃ X, (fun x => F x != G x) = X := ⟨_, rfl⟩
  rw [hX] at K ⊢
  clear hX
  conv in #[Value.int .i64 3, tab F, tab G, tab H] => unfold tab
  go_enter Tryz.func16, Tryz.ntmps16
  go_upto_region 1 with fail
  obtain ⟨TF, TG, TH, B3, hs⟩ := boxes3 w F G H
  generalize ((w.alloc (.cells #[.int .u64 (word F 0 : Int), .int .u64 (word F 1 : Int), .int .u64 (word F 2 : Int), .int .u64 (word F 3 : Int)] 24)).alloc (.cells #[.int .u64 (word G 0 : Int), .int .u64 (word G 1 : Int), .int .u64 (word G 2 : Int), .int .u64 (word G 3 : Int)] 24)).alloc (.cells #[.int .u64 (word H 0 : Int), .int .u64 (word H 1 : Int), .int .u64 (word H 2 : Int), .int .u64 (word H 3 : Int)] 24) = v3 at TF TG TH B3 hs ⊢
  have TZ : IsTab (v3.alloc (.cells #[.int .u64 0, .int .u64 0, .int .u64 0, .int .u64 0] 24)) v3.heap.size (fun _ => false) := IsTab.zero (Go.Deep.blk_alloc_new _ _)
  have b4 := nb v3 (.cells #[.int .u64 0, .int .u64 0, .int .u64 0, .int .u64 0] 24)
  have B4 := Rf.below_far B3 b4
  have TF := kept TF b4
  have TG := kept TG b4
  have TH := kept TH b4
  rw [hs] at TZ
  generalize v3.alloc (.cells #[.int .u64 0, .int .u64 0, .int .u64 0, .int .u64 0] 24) = w4 at TF TG TH TZ B4 ⊢
  have B4A : Aside (Below w.heap.size w w4) := B4
  have hbr : Aside (w.heap.size ≤ w.heap.size + 1 + 1 + 1) := by show _ ≤ _; omega
  clear B3 hs b4 B4
  generalize w.heap.size + 1 + 1 + 1 = br at TZ hbr ⊢
  generalize w.heap.size + 1 + 1 = bh at TH ⊢
  generalize w.heap.size + 1 = bg at TG ⊢
  generalize w.heap.size = bf at TF ⊢
  obtain ⟨p0, p1, p2, p3⟩ := TF.copy
  obtain ⟨q0, q1, q2, q3⟩ := TG.copy
  have K := K w4
  unfold tab at K
  go_wp2_with (first
    | (go_at_call 48; refine K.mono ?_; clear K; rintro e w5 ⟨rfl, b5⟩; have T5 := kept TZ b5; have y0 := T5.cell (k := 0) (by decide); have y1 := T5.cell (k := 1) (by decide); have y2 := T5.cell (k := 2) (by decide); have y3 := T5.cell (k := 3) (by decide); have z0 := T5.free 0; have z1 := T5.free 1; have z2 := T5.free 2; have z3 := T5.free 3))
  have B5 := Rf.below_far B4A.out b5
  exact bodyPost_ret (Rf.results_tab rfl rfl (Rf.laid_tab T5 X)) rfl ⟨rfl, B5.trans ((Rf.laid_turned _ _ _).below B5.size hbr.out)⟩
set_option maxRecDepth 100000 in
set_option maxHeartbeats 1000000 in
theorem result4_any (F G H : Nat → Bool) (w : World) :
    Calls Tryz.prog 16 #[.int .i64 4, tab F, tab G, tab H] w fun e w' => e = .returned (tab (fun x => (F x && G x) || (!F x && H x))) ∧ Below w.heap.size w w' := by
  have K := Rf.ite_any F G H
  obtain ⟨X, hX⟩ : ∃ X, (fun x => (F x && G x) || (!F x && H x)) = X := ⟨_, rfl⟩
  rw [hX] at K ⊢
  clear hX
  conv in #[Value.int .i64 4, tab F, tab G, tab H] => unfold tab
  go_enter Tryz.func16, Tryz.ntmps16
  go_upto_region 1 with fail
  obtain ⟨TF, TG, TH, B3, hs⟩ := boxes3 w F G H
  generalize ((w.alloc (.cells #[.int .u64 (word F 0 : Int), .int .u64 (word F 1 : Int), .int .u64 (word F 2 : Int), .int .u64 (word F 3 : Int)] 24)).alloc (.cells #[.int .u64 (word G 0 : Int), .int .u64 (word G 1 : Int), .int .u64 (word G 2 : Int), .int .u64 (word G 3 : Int)] 24)).alloc (.cells #[.int .u64 (word H 0 : Int), .int .u64 (word H 1 : Int), .int .u64 (word H 2 : Int), .int .u64 (word H 3 : Int)] 24) = v3 at TF TG TH B3 hs ⊢
  have TZ : IsTab (v3.alloc (.cells #[.int .u64 0, .int .u64 0, .int .u64 0, .int .u64 0] 24)) v3.heap.size (fun _ => false) := IsTab.zero (Go.Deep.blk_alloc_new _ _)
  have b4 := nb v3 (.cells #[.int .u64 0, .int .u64 0, .int .u64 0, .int .u64 0] 24)
  have B4 := Rf.below_far B3 b4
  have TF := kept TF b4
  have TG := kept TG b4
  have TH := kept TH b4
  rw [hs] at TZ
  generalize v3.alloc (.cells #[.int .u64 0, .int .u64 0, .int .u64 0, .int .u64 0] 24) = w4 at TF TG TH TZ B4 ⊢
  have B4A : Aside (Below w.heap.size w w4) := B4
  have hbr : Aside (w.heap.size ≤ w.heap.size + 1 + 1 + 1) := by show _ ≤ _; omega
  clear B3 hs b4 B4
  generalize w.heap.size + 1 + 1 + 1 = br at TZ hbr ⊢
  generalize w.heap.size + 1 + 1 = bh at TH ⊢
  generalize w.heap.size + 1 = bg at TG ⊢
  generalize w.heap.size = bf at TF ⊢
  obtain ⟨p0, p1, p2, p3⟩ := TF.copy
  obtain ⟨q0, q1, q2, q3⟩ := TG.copy
  obtain ⟨r0, r1, r2, r3⟩ := TH.copy
  have K := K w4
  unfold tab at K
  go_wp2_with (first
    | (go_at_call 49; refine K.mono ?_; clear K; rintro e w5 ⟨rfl, b5⟩; have T5 := kept TZ b5; have y0 := T5.cell (k := 0) (by decide); have y1 := T5.cell (k := 1) (by decide); have y2 := T5.cell (k := 2) (by decide); have y3 := T5.cell (k := 3) (by decide); have z0 := T5.free 0; have z1 := T5.free 1; have z2 := T5.free 2; have z3 := T5.free 3))
  have B5 := Rf.below_far B4A.out b5
  exact bodyPost_ret (Rf.results_tab rfl rfl (Rf.laid_tab T5 X)) rfl ⟨rfl, B5.trans ((Rf.laid_turned _ _ _).below B5.size hbr.out)⟩
theorem result_any {k : Nat} (hk : k < 5) (F G H : Nat → Bool) (w : World) :
    Calls Tryz.prog 16 #[.int .i64 (k : Int), tab F, tab G, tab H] w fun e w' => e = .returned (tab (resK k F G H)) ∧ Below w.heap.size w w' := by
  rcases lt5 hk with rfl | rfl | rfl | rfl | rfl
  · exact result0_any F G H w
  · exact result1_any F G H w
  · exact result2_any F G H w
  · refine (result3_any F G H w).mono fun e w' ⟨he, b⟩ => ⟨he.trans ?_, b⟩
    rw [Rf.tab_ext fun y _ => show (F y != G y) = resK 3 F G H y by unfold resK opK oXor; cases F y <;> cases G y <;> rfl]
  · refine (result4_any F G H w).mono fun e w' ⟨he, b⟩ => ⟨he.trans ?_, b⟩
    rw [Rf.tab_ext fun y _ => show ((F y && G y) || (!F y && H y)) = resK 4 F G H y by unfold resK opK oIte; cases F y <;> cases G y <;> cases H y <;> rfl]
theorem dep_res {M : Mdl} {F G H : Nat → Bool} (k : Nat) (dF : Dep M 0 F) (dG : Dep M 0 G) (dH : Dep M 0 H) : Dep M 0 (resK k F G H) := fun x y hx hy q => by
  unfold resK
  rw [dF x y hx hy q, dG x y hx hy q, dH x y hx hy q]
theorem ans_res {M : Mdl} {a b c : Nat} {F G H : Nat → Bool} (k : Nat) (ea : Eqt (M.tbl a) F) (eb : Eqt (M.tbl b) G) (ec : Eqt (M.tbl c) H) : Eqt (ans M (opK k) a b c) (resK k F G H) := fun x hx => by
  unfold ans resK
  rw [ea x hx, eb x hx, ec x hx]
end Go.Proofs.YthadeopmnedccaaGreat

namespace Go.Proofs.YthadeopmnedccaaGreat
open Go Go.RowKit
open Rf (fixAt fixF tab prt dedup addN hasUpto lvA lvX)

theorem addN_len (ts : List (Nat → Bool)) (F : Nat → Bool) : (addN ts F).length ≤ ts.length + 1 := by
  cases h : hasUpto (fun i => ts.getD i fun _ => false) F ts.length with
  | true => rw [Rf.addN_skip h]; omega
  | false => rw [Rf.addN_new h]; simp
theorem dedup_len (T : Nat → Nat → Bool) : ∀ L, (dedup T L).length ≤ L
  | 0 => Nat.le_refl _
  | L + 1 => by
    have ih := dedup_len T L
    have e : dedup T (L + 1) = addN (dedup T L) (T L) := rfl
    have := addN_len (dedup T L) (T L)
    rw [e]
    omega
theorem mem_addN {ts : List (Nat → Bool)} {F A : Nat → Bool} (h : A ∈ addN ts F) : A ∈ ts ∨ A = F := by
  cases q : hasUpto (fun i => ts.getD i fun _ => false) F ts.length with
  | true => rw [Rf.addN_skip q] at h; exact .inl h
  | false =>
    rw [Rf.addN_new q] at h
    rcases List.mem_append.1 h with h | h
    · exact .inl h
    · exact .inr (List.mem_singleton.1 h)
theorem mem_dedup {T : Nat → Nat → Bool} {A : Nat → Bool} : ∀ {L}, A ∈ dedup T L → ∃ i, i < L ∧ A = T i
  | 0, h => by cases h
  | L + 1, h => by
    have h' : A ∈ addN (dedup T L) (T L) := h
    rcases mem_addN h' with q | q
    · obtain ⟨i, hi, e⟩ := mem_dedup q
      exact ⟨i, by omega, e⟩
    · exact ⟨L, by omega, q⟩
theorem in_dedup (T : Nat → Nat → Bool) (X : Nat → Bool) : ∀ L, InT (dedup T L) X ↔ ∃ i, i < L ∧ Eqt (T i) X
  | 0 => ⟨fun ⟨F, h, _⟩ => (by cases h), fun ⟨i, hi, _⟩ => (by omega)⟩
  | L + 1 => by
    have e : dedup T (L + 1) = addN (dedup T L) (T L) := rfl
    rw [e, in_addN, in_dedup T X L]
    constructor
    · rintro (⟨i, hi, q⟩ | q)
      · exact ⟨i, by omega, q⟩
      · exact ⟨L, by omega, q⟩
    · rintro ⟨i, hi, q⟩
      by_cases c : i = L
      · subst c; exact .inr q
      · exact .inl ⟨i, by omega, q⟩
theorem prt_len (V : Nat → Int) (n c : Nat) (ts0 : List (Nat → Bool)) (h0 : ts0.length ≤ c) : ∀ k, (prt V n ts0 k).2.length ≤ c * 2 ^ k ∧ (prt V n ts0 k).1.length + c ≤ c * 2 ^ k
  | 0 => ⟨by simpa [prt] using h0, by simp [prt]⟩
  | k + 1 => by
    obtain ⟨i1, i2⟩ := prt_len V n c ts0 h0 k
    have hA := Rf.lvA_le (prt V n ts0 k).1 (prt V n ts0 k).2 (prt V n ts0 k).2.length
    have hX := Rf.lvX_le (decide (k = n) || decide (k = 8)) (V k) (prt V n ts0 k).2 (prt V n ts0 k).2.length
    have e1 : (prt V n ts0 (k + 1)).1 = lvA (prt V n ts0 k).1 (prt V n ts0 k).2 (prt V n ts0 k).2.length := rfl
    have e2 : (prt V n ts0 (k + 1)).2 = lvX (decide (k = n) || decide (k = 8)) (V k) (prt V n ts0 k).2 (prt V n ts0 k).2.length := rfl
    have e3 : c * 2 ^ (k + 1) = 2 * (c * 2 ^ k) := by rw [Nat.pow_succ, Nat.mul_comm (2 ^ k) 2, Nat.mul_left_comm]
    rw [e1, e2, e3]
    omega
/-- How many nodes the functions have together. -/
def sizeN (M : Mdl) (T : Nat → Nat → Bool) (L : Nat) : Nat := (prt (fun i => (M.v i : Int)) M.n (dedup T L) (min M.n 8 + 1)).1.length
theorem sizeN_le (M : Mdl) (T : Nat → Nat → Bool) (L : Nat) : sizeN M T L + L ≤ L * 512 := by
  have h := (prt_len (fun i => (M.v i : Int)) M.n L (dedup T L) (dedup_len T L) (min M.n 8 + 1)).2
  have p : (2 : Nat) ^ (min M.n 8 + 1) ≤ 2 ^ 9 := Nat.pow_le_pow_right (by omega) (by omega)
  have := Nat.mul_le_mul_left L p
  unfold sizeN
  omega
section
variable {M M1 : Mdl} {T : Nat → Nat → Bool} {L : Nat} {A : Nat → Bool}
/-- The parts of all of them. -/
def PrtT (M : Mdl) (T : Nat → Nat → Bool) (L : Nat) (X : Nat → Bool) : Prop := ∃ i, i < L ∧ Prt M (T i) X
theorem prt_dedup (o : M.Ok) (d : ∀ i, i < L → Dep M 0 (T i)) (X : Nat → Bool) : (∃ F ∈ dedup T L, Prt M F X) ↔ PrtT M T L X := by
  constructor
  · rintro ⟨F, hF, p⟩
    obtain ⟨i, hi, rfl⟩ := mem_dedup hF
    exact ⟨i, hi, p⟩
  · rintro ⟨i, hi, p⟩
    obtain ⟨F, hF, e⟩ := (in_dedup T (T i) L).2 ⟨i, hi, Eqt.refl _⟩
    exact ⟨F, hF, (Prt.like o (d i hi) e.symm).1 p⟩
theorem sizeN_mem (o : M.Ok) (d : ∀ i, i < L → Dep M 0 (T i)) (X : Nat → Bool) : encT X ∈ ((prt (fun i => (M.v i : Int)) M.n (dedup T L) (min M.n 8 + 1)).1.map encT) ↔ PrtT M T L X := by
  have n8 := o.le8
  have e8 : min M.n 8 = M.n := by omega
  rw [← prt_dedup o d, e8, List.mem_map]
  have key : (∃ a ∈ (prt (fun i => (M.v i : Int)) M.n (dedup T L) (M.n + 1)).1, encT a = encT X) ↔ InT (prt (fun i => (M.v i : Int)) M.n (dedup T L) (M.n + 1)).1 X :=
    ⟨fun ⟨x, hx, e⟩ => ⟨x, hx, (encT_iff _ _).1 e⟩, fun ⟨x, hx, e⟩ => ⟨x, hx, (encT_iff _ _).2 e⟩⟩
  rw [key, in_prt _ _ _ (M.n + 1) (Nat.le_refl _) (by omega)]
  constructor
  · rintro ⟨j, hj, h1, h2⟩
    obtain ⟨F, hF, q⟩ := (lv_desc o (dedup T L) j (by omega) X).1 h1
    obtain ⟨i, hi, rfl⟩ := mem_dedup hF
    exact ⟨_, hF, (subs_desc o M.n 0 _ X (by omega) (d i hi)).2 ⟨j, by omega, q, h2⟩⟩
  · rintro ⟨F, hF, s⟩
    obtain ⟨i, hi, rfl⟩ := mem_dedup hF
    obtain ⟨j, hj, q, h2⟩ := (subs_desc o M.n 0 _ X (by omega) (d i hi)).1 s
    exact ⟨j, by omega, (lv_desc o (dedup T L) j hj X).2 ⟨_, hF, q⟩, h2⟩
theorem sizeN_nodup (M : Mdl) (T : Nat → Nat → Bool) (L : Nat) : ((prt (fun i => (M.v i : Int)) M.n (dedup T L) (min M.n 8 + 1)).1.map encT).Nodup := by
  unfold List.Nodup
  rw [List.pairwise_map]
  exact (pw_prt _ _ _ _).imp fun q e => q ((encT_iff _ _).1 e)
/-- What is made of these goes in. -/
theorem just_of (o : M.Ok) (d : ∀ i, i < L → Dep M 0 (T i)) (dA : Dep M 0 A) (h : ∀ X, Has M X ∨ Prt M A X → PrtT M T L X) (r : sizeN M T L ≤ M.room) (k : Nat) : Just M k A := by
  unfold Just
  rw [← join_len o A]
  refine Nat.le_trans ?_ r
  have := nodup_le _ _ (join_nodup o A) fun z hz => by
    obtain ⟨X, rfl⟩ := join_ex hz
    exact (sizeN_mem o d X).2 (h X ((join_mem o dA X).1 hz))
  rwa [List.length_map] at this
/-- As many nodes. -/
theorem size_len (o : M.Ok) (d : ∀ i, i < L → Dep M 0 (T i)) (h : ∀ X, Has M X ↔ PrtT M T L X) : M.hs.length = sizeN M T L := by
  have e : sizeN M T L = ((prt (fun i => (M.v i : Int)) M.n (dedup T L) (min M.n 8 + 1)).1.map encT).length := by rw [List.length_map]; rfl
  rw [← encs_len M, e]
  refine Nat.le_antisymm (nodup_le _ _ (encs_nodup o) fun z hz => ?_) (nodup_le _ _ (sizeN_nodup M T L) fun z hz => ?_)
  · obtain ⟨G, rfl⟩ := encs_ex hz
    exact (sizeN_mem o d G).2 ((h G).1 (encs_iff.1 hz))
  · obtain ⟨G, _, rfl⟩ := List.mem_map.1 hz
    exact encs_iff.2 ((h G).2 ((sizeN_mem o d G).1 hz))
theorem sizeN_grew (g : Mdl.Grew M M1) : sizeN M1 T L = sizeN M T L := by unfold sizeN; rw [g.v, g.n]
theorem PrtT.grew_iff (g : Mdl.Grew M M1) {X : Nat → Bool} : PrtT M1 T L X ↔ PrtT M T L X :=
  ⟨fun ⟨i, hi, p⟩ => ⟨i, hi, (Prt.grew_iff g).1 p⟩, fun ⟨i, hi, p⟩ => ⟨i, hi, (Prt.grew_iff g).2 p⟩⟩
end
end Go.Proofs.YthadeopmnedccaaGreat

namespace Go.Proofs.YthadeopmnedccaaGreat
open Go Go.RowKit
open Rf (tab word IsTab laid laid_turned laid_tab)

/-- The statement 'f, g, h = Trim(f, n), Trim(g, n), Trim(h, n)': slots from b on; the tables' places, the number's slot. -/
def tripOps (fn b p q r m : Nat) (ty ti : TypeId) (pos : String) : Array Oper := #[
    { dst := some (b), op := .load ty (.tmp p), type := ty, pos := pos, after := #[], guard := none },
    { dst := some (b + 1), op := .move (.tmp m), type := ti, pos := pos, after := #[], guard := none },
    { dst := some (b + 2), op := .call { callee := .value (.func fn), args := #[.tmp (b), .tmp (b + 1)], argTypes := #[ty, ti] }, type := ty, pos := pos, after := #[{ on := 0, ground := .data }, { on := 1, ground := .data }], guard := none },
    { dst := some (b + 3), op := .load ty (.tmp q), type := ty, pos := pos, after := #[], guard := none },
    { dst := some (b + 4), op := .move (.tmp m), type := ti, pos := pos, after := #[], guard := none },
    { dst := some (b + 5), op := .call { callee := .value (.func fn), args := #[.tmp (b + 3), .tmp (b + 4)], argTypes := #[ty, ti] }, type := ty, pos := pos, after := #[{ on := 3, ground := .data }, { on := 4, ground := .data }, { on := 2, ground := .chain }], guard := none },
    { dst := some (b + 6), op := .load ty (.tmp r), type := ty, pos := pos, after := #[], guard := none },
    { dst := some (b + 7), op := .move (.tmp m), type := ti, pos := pos, after := #[], guard := none },
    { dst := some (b + 8), op := .call { callee := .value (.func fn), args := #[.tmp (b + 6), .tmp (b + 7)], argTypes := #[ty, ti] }, type := ty, pos := pos, after := #[{ on := 6, ground := .data }, { on := 7, ground := .data }, { on := 5, ground := .chain }], guard := none },
    { dst := none, op := .store ty (.tmp p) (.tmp (b + 2)), type := 0, pos := pos, after := #[{ on := 2, ground := .data }, { on := 8, ground := .chain }, { on := 0, ground := .phase }, { on := 1, ground := .phase }, { on := 2, ground := .phase }, { on := 3, ground := .textOnly .lateStores }, { on := 4, ground := .textOnly .lateStores }, { on := 5, ground := .textOnly .lateStoresUnsure }, { on := 6, ground := .textOnly .lateStores }, { on := 7, ground := .textOnly .lateStores }, { on := 8, ground := .textOnly .lateStoresUnsure }], guard := none },
    { dst := none, op := .store ty (.tmp q) (.tmp (b + 5)), type := 0, pos := pos, after := #[{ on := 5, ground := .data }, { on := 9, ground := .chain }, { on := 0, ground := .phase }, { on := 1, ground := .phase }, { on := 2, ground := .phase }, { on := 3, ground := .phase }, { on := 4, ground := .phase }, { on := 5, ground := .phase }, { on := 6, ground := .textOnly .lateStores }, { on := 7, ground := .textOnly .lateStores }, { on := 8, ground := .textOnly .lateStoresUnsure }, { on := 9, ground := .phase }], guard := none },
    { dst := none, op := .store ty (.tmp r) (.tmp (b + 8)), type := 0, pos := pos, after := #[{ on := 8, ground := .data }, { on := 10, ground := .chain }, { on := 0, ground := .phase }, { on := 1, ground := .phase }, { on := 2, ground := .phase }, { on := 3, ground := .phase }, { on := 4, ground := .phase }, { on := 5, ground := .phase }, { on := 6, ground := .phase }, { on := 7, ground := .phase }, { on := 8, ground := .phase }, { on := 9, ground := .phase }, { on := 10, ground := .phase }], guard := none }]
structure PT (w5 : World) (bf bg bh : Nat) (X Y Z : Nat → Bool) (b : Nat) (val : Nat → Value) (a0 : Act) (listed : Array Bool) (a : Act) (w : World) : Prop where
  size : a.tmps.size = a0.tmps.size
  defers : a.defers = a0.defers
  other : ∀ s, (s < b ∨ b + 9 ≤ s) → slot a s = slot a0 s
  vals : ∀ i, i < 9 → listed.getD i false = true → slot a (b + i) = val i
  world : ∃ wy, Below w5.heap.size w5 wy ∧ w = (if listed.getD 11 false = true then laid (laid (laid wy bf X) bg Y) bh Z else if listed.getD 10 false = true then laid (laid wy bf X) bg Y else if listed.getD 9 false = true then laid wy bf X else wy)
section
variable {w5 : World} {bf bg bh : Nat} {X Y Z : Nat → Bool} {b : Nat} {val : Nat → Value} {a0 : Act} {listed : Array Bool} {a : Act} {w w' : World}
theorem PT.start (n : Nat) : PT w5 bf bg bh X Y Z b val a0 (Array.replicate n false) a0 w5 := by
  refine ⟨rfl, rfl, fun _ _ => rfl, fun i _ hl => ?_, w5, Below.refl _ _, ?_⟩
  · rw [getD_start] at hl; cases hl
  · rw [getD_start, getD_start, getD_start]; simp
theorem PT.step (g : PT w5 bf bg bh X Y Z b val a0 listed a w) {i : Nat} (hi : i < 9) (hb : b + 9 ≤ a0.tmps.size) (n9 : listed.getD 9 false = false) (n10 : listed.getD 10 false = false) (n11 : listed.getD 11 false = false) (k : Below w.heap.size w w') : PT w5 bf bg bh X Y Z b val a0 (listed.setIfInBounds i true) (a.put (some (b + i)) (val i)) w' := by
  refine ⟨by simp [Act.put, g.size], by simp [Act.put, g.defers], fun s hs => ?_, fun j hj hl => ?_, ?_⟩
  · rw [slot_put_ne _ (show @Ne Nat (b + i) s by omega)]
    exact g.other s hs
  · by_cases e : i = j
    · subst e
      exact slot_put_eq _ (show @LT.lt Nat _ (b + i) a.tmps.size by rw [g.size]; omega)
    · rw [getD_set_ne false e] at hl
      rw [slot_put_ne _ (show @Ne Nat (b + i) (b + j) by omega)]
      exact g.vals j hj hl
  · obtain ⟨wy, h1, h2⟩ := g.world
    rw [n11, n10, n9] at h2
    simp at h2
    subst h2
    refine ⟨w', Rf.below_far h1 k, ?_⟩
    rw [getD_set_ne false (by omega), getD_set_ne false (by omega), getD_set_ne false (by omega), n11, n10, n9]
    simp
theorem PT.now (g : PT w5 bf bg bh X Y Z b val a0 listed a w) (n9 : listed.getD 9 false = false) (n10 : listed.getD 10 false = false) (n11 : listed.getD 11 false = false) : Below w5.heap.size w5 w := by
  obtain ⟨wy, h1, h2⟩ := g.world
  rw [n11, n10, n9] at h2
  simp at h2
  subst h2
  exact h1
theorem PT.one (g : PT w5 bf bg bh X Y Z b val a0 listed a w) (n9 : listed.getD 9 false = true) (n10 : listed.getD 10 false = false) (n11 : listed.getD 11 false = false) : ∃ wy, Below w5.heap.size w5 wy ∧ w = laid wy bf X := by
  obtain ⟨wy, h1, h2⟩ := g.world
  rw [n11, n10, n9] at h2
  simp at h2
  exact ⟨wy, h1, h2⟩
theorem PT.two (g : PT w5 bf bg bh X Y Z b val a0 listed a w) (n10 : listed.getD 10 false = true) (n11 : listed.getD 11 false = false) : ∃ wy, Below w5.heap.size w5 wy ∧ w = laid (laid wy bf X) bg Y := by
  obtain ⟨wy, h1, h2⟩ := g.world
  rw [n11, n10] at h2
  simp at h2
  exact ⟨wy, h1, h2⟩
theorem PT.store (g : PT w5 bf bg bh X Y Z b val a0 listed a w) (hn : listed.size = 12) (n9 : listed.getD 9 false = false) (n10 : listed.getD 10 false = false) (n11 : listed.getD 11 false = false) : PT w5 bf bg bh X Y Z b val a0 (listed.setIfInBounds 9 true) a (laid w bf X) := by
  refine ⟨g.size, g.defers, g.other, fun j hj hl => g.vals j hj (by rwa [getD_set_ne false (by omega)] at hl), w, g.now n9 n10 n11, ?_⟩
  rw [getD_set_ne false (by omega), getD_set_ne false (by omega), n11, n10]
  simp [hn]
theorem PT.store2 (g : PT w5 bf bg bh X Y Z b val a0 listed a w) (hn : listed.size = 12) (n9 : listed.getD 9 false = true) (n10 : listed.getD 10 false = false) (n11 : listed.getD 11 false = false) : PT w5 bf bg bh X Y Z b val a0 (listed.setIfInBounds 10 true) a (laid w bg Y) := by
  obtain ⟨wy, h1, h2⟩ := g.one n9 n10 n11
  refine ⟨g.size, g.defers, g.other, fun j hj hl => g.vals j hj (by rwa [getD_set_ne false (by omega)] at hl), wy, h1, ?_⟩
  rw [getD_set_ne false (by omega), n11, h2]
  simp [hn]
theorem PT.store3 (g : PT w5 bf bg bh X Y Z b val a0 listed a w) (hn : listed.size = 12) (n10 : listed.getD 10 false = true) (n11 : listed.getD 11 false = false) : PT w5 bf bg bh X Y Z b val a0 (listed.setIfInBounds 11 true) a (laid w bh Z) := by
  obtain ⟨wy, h1, h2⟩ := g.two n10 n11
  refine ⟨g.size, g.defers, g.other, fun j hj hl => g.vals j hj (by rwa [getD_set_ne false (by omega)] at hl), wy, h1, ?_⟩
  rw [h2]
  simp [hn]
end
theorem lt12 {i : Nat} (h : i < 12) : i = 0 ∨ i = 1 ∨ i = 2 ∨ i = 3 ∨ i = 4 ∨ i = 5 ∨ i = 6 ∨ i = 7 ∨ i = 8 ∨ i = 9 ∨ i = 10 ∨ i = 11 := by omega
def tripVal (F G H F' G' H' : Nat → Bool) (n : Nat) (i : Nat) : Value :=
  if i = 0 then tab F else if i = 1 then .int .i64 (n : Int) else if i = 2 then tab F' else if i = 3 then tab G else if i = 4 then .int .i64 (n : Int) else if i = 5 then tab G' else if i = 6 then tab H else if i = 7 then .int .i64 (n : Int) else tab H'
theorem callTrim (vs : Array Value) (w : World) : (callFunc 12 vs).run Tryz.prog w = .ok (.enter 12 vs) w := by
  have h := Tryz.func12
  go_simp
set_option maxRecDepth 100000 in
set_option maxHeartbeats 2000000 in
theorem trip_region {id : Nat} {pos : String} {b p q r m : Nat} {a0 : Act} {w : World} {Q : Exit → Act → World → Prop} {F G H F' G' H' : Nat → Bool} {n bf bg bh : Nat}
    (hp : p < b) (hq : q < b) (hr : r < b) (hm : m < b) (hb : b + 9 ≤ a0.tmps.size)
    (q4 : slot a0 p = .pointer (some ⟨bf, 0, none⟩)) (q5 : slot a0 q = .pointer (some ⟨bg, 0, none⟩)) (q6 : slot a0 r = .pointer (some ⟨bh, 0, none⟩)) (q7 : slot a0 m = .int .i64 (n : Int))
    (TF : IsTab w bf F) (TG : IsTab w bg G) (TH : IsTab w bh H) (hfg : bf ≠ bg) (hfh : bf ≠ bh) (hgh : bg ≠ bh)
    (KF : ∀ u, Calls Tryz.prog 12 #[tab F, .int .i64 (n : Int)] u fun e w' => e = .returned (tab F') ∧ Below u.heap.size u w')
    (KG : ∀ u, Calls Tryz.prog 12 #[tab G, .int .i64 (n : Int)] u fun e w' => e = .returned (tab G') ∧ Below u.heap.size u w')
    (KH : ∀ u, Calls Tryz.prog 12 #[tab H, .int .i64 (n : Int)] u fun e w' => e = .returned (tab H') ∧ Below u.heap.size u w')
    (done : ∀ wy, Below w.heap.size w wy → Q .normal (Rf.vfin [(b, tab F), (b + 1, .int .i64 (n : Int)), (b + 2, tab F'), (b + 3, tab G), (b + 4, .int .i64 (n : Int)), (b + 5, tab G'), (b + 6, tab H), (b + 7, .int .i64 (n : Int)), (b + 8, tab H')] a0) (laid (laid (laid wy bf F') bg G') bh H')) :
    (Code.region id (tripOps 12 b p q r m 24 3 pos) true).wp Tryz.prog Q a0 w := by
  unfold tripOps
  refine wp_region_listed (by kernel_rfl) (PT w.drew bf bg bh F' G' H' b (tripVal F G H F' G' H' n) a0) (by kernel_rfl) ?_ ?_ (PT.start _)
  · intro listed i o a w' ho hn hi hdep hcl g
    have hi12 : i < 12 := (Array.getElem?_eq_some_iff.1 ho).1
    have ci := lt12 hi12
    have hn12 : listed.size = 12 := hn
    have c11 : listed.getD 11 false = true → listed.getD 10 false = true := fun q => hcl 11 _ q rfl { on := 10, ground := .chain } (by simp) (by decide)
    have c10 : listed.getD 10 false = true → listed.getD 9 false = true := fun q => hcl 10 _ q rfl { on := 9, ground := .chain } (by simp) (by decide)
    have c9 : listed.getD 9 false = true → ∀ j, j < 9 → listed.getD j false = true := fun q => by
      have h8 : listed.getD 8 false = true := hcl 9 _ q rfl { on := 8, ground := .chain } (by simp) (by decide)
      have h5 : listed.getD 5 false = true := hcl 8 _ h8 rfl { on := 5, ground := .chain } (by simp) (by decide)
      have h2 : listed.getD 2 false = true := hcl 5 _ h5 rfl { on := 2, ground := .chain } (by simp) (by decide)
      intro j hj
      have cj : j = 0 ∨ j = 1 ∨ j = 2 ∨ j = 3 ∨ j = 4 ∨ j = 5 ∨ j = 6 ∨ j = 7 ∨ j = 8 := by omega
      rcases cj with rfl | rfl | rfl | rfl | rfl | rfl | rfl | rfl | rfl
      · exact hcl 2 _ h2 rfl { on := 0, ground := .data } (by simp) (by decide)
      · exact hcl 2 _ h2 rfl { on := 1, ground := .data } (by simp) (by decide)
      · exact h2
      · exact hcl 5 _ h5 rfl { on := 3, ground := .data } (by simp) (by decide)
      · exact hcl 5 _ h5 rfl { on := 4, ground := .data } (by simp) (by decide)
      · exact h5
      · exact hcl 8 _ h8 rfl { on := 6, ground := .data } (by simp) (by decide)
      · exact hcl 8 _ h8 rfl { on := 7, ground := .data } (by simp) (by decide)
      · exact h8
    have p4 : a.tmps.getD p undef = .pointer (some ⟨bf, 0, none⟩) := (g.other p (.inl hp)).trans q4
    have p5 : a.tmps.getD q undef = .pointer (some ⟨bg, 0, none⟩) := (g.other q (.inl hq)).trans q5
    have p6 : a.tmps.getD r undef = .pointer (some ⟨bh, 0, none⟩) := (g.other r (.inl hr)).trans q6
    have p7 : a.tmps.getD m undef = .int .i64 (n : Int) := (g.other m (.inl hm)).trans q7
    have n9' : i < 9 → listed.getD 9 false = false := fun h9 => by
      cases e : listed.getD 9 false with
      | false => rfl
      | true => rw [c9 e i h9] at hi; cases hi
    have n10' : listed.getD 9 false = false → listed.getD 10 false = false := fun h => by
      cases e : listed.getD 10 false with
      | false => rfl
      | true => rw [c10 e] at h; cases h
    have n11' : listed.getD 10 false = false → listed.getD 11 false = false := fun h => by
      cases e : listed.getD 11 false with
      | false => rfl
      | true => rw [c11 e] at h; cases h
    have kT := callTrim
    clear hcl
    rcases ci with rfl | rfl | rfl | rfl | rfl | rfl | rfl | rfl | rfl | rfl | rfl | rfl
    · simp at ho
      subst ho
      have n9 := n9' (by omega)
      have n10 := n10' n9
      have n11 := n11' n10
      obtain ⟨c0, c1, c2, c3⟩ := (kept TF.drew (g.now n9 n10 n11)).copy
      refine wpOp_plain rfl rfl ?_
      go_simp
      exact g.step (i := 0) (by omega) hb n9 n10 n11 (Below.refl _ _)
    · simp at ho
      subst ho
      have n9 := n9' (by omega)
      have n10 := n10' n9
      have n11 := n11' n10
      refine wpOp_plain rfl rfl ?_
      go_simp
      exact g.step (i := 1) (by omega) hb n9 n10 n11 (Below.refl _ _)
    · simp at ho
      subst ho
      have n9 := n9' (by omega)
      have n10 := n10' n9
      have n11 := n11' n10
      have v0 : a.tmps.getD (b) undef = tab F := g.vals 0 (by omega) (hdep { on := 0, ground := .data } (by simp) (by decide))
      have v1 : a.tmps.getD (b + 1) undef = .int .i64 (n : Int) := g.vals 1 (by omega) (hdep { on := 1, ground := .data } (by simp) (by decide))
      refine wpOp_plain rfl rfl ?_
      go_simp
      refine (KF _).mono ?_
      rintro e w'' ⟨rfl, b''⟩
      exact g.step (i := 2) (by omega) hb n9 n10 n11 b''
    · simp at ho
      subst ho
      have n9 := n9' (by omega)
      have n10 := n10' n9
      have n11 := n11' n10
      obtain ⟨c0, c1, c2, c3⟩ := (kept TG.drew (g.now n9 n10 n11)).copy
      refine wpOp_plain rfl rfl ?_
      go_simp
      exact g.step (i := 3) (by omega) hb n9 n10 n11 (Below.refl _ _)
    · simp at ho
      subst ho
      have n9 := n9' (by omega)
      have n10 := n10' n9
      have n11 := n11' n10
      refine wpOp_plain rfl rfl ?_
      go_simp
      exact g.step (i := 4) (by omega) hb n9 n10 n11 (Below.refl _ _)
    · simp at ho
      subst ho
      have n9 := n9' (by omega)
      have n10 := n10' n9
      have n11 := n11' n10
      have v0 : a.tmps.getD (b + 3) undef = tab G := g.vals 3 (by omega) (hdep { on := 3, ground := .data } (by simp) (by decide))
      have v1 : a.tmps.getD (b + 4) undef = .int .i64 (n : Int) := g.vals 4 (by omega) (hdep { on := 4, ground := .data } (by simp) (by decide))
      refine wpOp_plain rfl rfl ?_
      go_simp
      refine (KG _).mono ?_
      rintro e w'' ⟨rfl, b''⟩
      exact g.step (i := 5) (by omega) hb n9 n10 n11 b''
    · simp at ho
      subst ho
      have n9 := n9' (by omega)
      have n10 := n10' n9
      have n11 := n11' n10
      obtain ⟨c0, c1, c2, c3⟩ := (kept TH.drew (g.now n9 n10 n11)).copy
      refine wpOp_plain rfl rfl ?_
      go_simp
      exact g.step (i := 6) (by omega) hb n9 n10 n11 (Below.refl _ _)
    · simp at ho
      subst ho
      have n9 := n9' (by omega)
      have n10 := n10' n9
      have n11 := n11' n10
      refine wpOp_plain rfl rfl ?_
      go_simp
      exact g.step (i := 7) (by omega) hb n9 n10 n11 (Below.refl _ _)
    · simp at ho
      subst ho
      have n9 := n9' (by omega)
      have n10 := n10' n9
      have n11 := n11' n10
      have v0 : a.tmps.getD (b + 6) undef = tab H := g.vals 6 (by omega) (hdep { on := 6, ground := .data } (by simp) (by decide))
      have v1 : a.tmps.getD (b + 7) undef = .int .i64 (n : Int) := g.vals 7 (by omega) (hdep { on := 7, ground := .data } (by simp) (by decide))
      refine wpOp_plain rfl rfl ?_
      go_simp
      refine (KH _).mono ?_
      rintro e w'' ⟨rfl, b''⟩
      exact g.step (i := 8) (by omega) hb n9 n10 n11 b''
    · simp at ho
      subst ho
      have n10 := n10' hi
      have n11 := n11' n10
      have v0 : a.tmps.getD (b + 2) undef = tab F' := g.vals 2 (by omega) (hdep { on := 2, ground := .data } (by simp) (by decide))
      have T := kept TF.drew (g.now hi n10 n11)
      obtain ⟨c0, c1, c2, c3⟩ := T.copy
      have z0 := T.free 0
      have z1 := T.free 1
      have z2 := T.free 2
      have z3 := T.free 3
      unfold tab at v0
      refine wpOp_plain rfl rfl ?_
      go_simp
      exact g.store hn12 hi n10 n11
    · simp at ho
      subst ho
      have h9 : listed.getD 9 false = true := hdep { on := 9, ground := .chain } (by simp) (by decide)
      have n11 := n11' hi
      have v0 : a.tmps.getD (b + 5) undef = tab G' := g.vals 5 (by omega) (hdep { on := 5, ground := .data } (by simp) (by decide))
      have T : IsTab w' bg G := by
        obtain ⟨wy, by', ey⟩ := g.one h9 hi n11
        rw [ey]
        exact (laid_turned wy bf F').tab (kept TG.drew by') hfg.symm
      obtain ⟨c0, c1, c2, c3⟩ := T.copy
      have z0 := T.free 0
      have z1 := T.free 1
      have z2 := T.free 2
      have z3 := T.free 3
      unfold tab at v0
      refine wpOp_plain rfl rfl ?_
      go_simp
      exact g.store2 hn12 h9 hi n11
    · simp at ho
      subst ho
      have h10 : listed.getD 10 false = true := hdep { on := 10, ground := .chain } (by simp) (by decide)
      have v0 : a.tmps.getD (b + 8) undef = tab H' := g.vals 8 (by omega) (hdep { on := 8, ground := .data } (by simp) (by decide))
      have T : IsTab w' bh H := by
        obtain ⟨wy, by', ey⟩ := g.two h10 hi
        rw [ey]
        exact (laid_turned _ bg G').tab ((laid_turned wy bf F').tab (kept TH.drew by') hfh.symm) hgh.symm
      obtain ⟨c0, c1, c2, c3⟩ := T.copy
      have z0 := T.free 0
      have z1 := T.free 1
      have z2 := T.free 2
      have z3 := T.free 3
      unfold tab at v0
      refine wpOp_plain rfl rfl ?_
      go_simp
      exact g.store3 hn12 h10 hi
  · intro listed a w' hall g
    obtain ⟨wy, by', ey⟩ := g.world
    rw [if_pos (hall 11 (show 11 < 12 by omega))] at ey
    have ea : a = Rf.vfin [(b, tab F), (b + 1, .int .i64 (n : Int)), (b + 2, tab F'), (b + 3, tab G), (b + 4, .int .i64 (n : Int)), (b + 5, tab G'), (b + 6, tab H), (b + 7, .int .i64 (n : Int)), (b + 8, tab H')] a0 := by
      refine Rf.vact_fin _ _ _ ?_ g.size g.defers (fun s hs => g.other s ?_) (fun k hk => ?_)
      · simp
      · rcases Nat.lt_or_ge s b with q | q
        · exact .inl q
        · rcases Nat.lt_or_ge s (b + 9) with u | u
          · have c : @Eq Nat s b ∨ @Eq Nat s (b + 1) ∨ @Eq Nat s (b + 2) ∨ @Eq Nat s (b + 3) ∨ @Eq Nat s (b + 4) ∨ @Eq Nat s (b + 5) ∨ @Eq Nat s (b + 6) ∨ @Eq Nat s (b + 7) ∨ @Eq Nat s (b + 8) := by omega
            rcases c with rfl | rfl | rfl | rfl | rfl | rfl | rfl | rfl | rfl <;> exact absurd (by simp) hs
          · exact .inr u
      · simp only [List.mem_cons, List.not_mem_nil, or_false] at hk
        rcases hk with rfl | rfl | rfl | rfl | rfl | rfl | rfl | rfl | rfl
        · exact ⟨show @LT.lt Nat _ (b) _ by omega, g.vals 0 (by omega) (hall 0 (show 0 < 12 by omega))⟩
        · exact ⟨show @LT.lt Nat _ (b + 1) _ by omega, g.vals 1 (by omega) (hall 1 (show 1 < 12 by omega))⟩
        · exact ⟨show @LT.lt Nat _ (b + 2) _ by omega, g.vals 2 (by omega) (hall 2 (show 2 < 12 by omega))⟩
        · exact ⟨show @LT.lt Nat _ (b + 3) _ by omega, g.vals 3 (by omega) (hall 3 (show 3 < 12 by omega))⟩
        · exact ⟨show @LT.lt Nat _ (b + 4) _ by omega, g.vals 4 (by omega) (hall 4 (show 4 < 12 by omega))⟩
        · exact ⟨show @LT.lt Nat _ (b + 5) _ by omega, g.vals 5 (by omega) (hall 5 (show 5 < 12 by omega))⟩
        · exact ⟨show @LT.lt Nat _ (b + 6) _ by omega, g.vals 6 (by omega) (hall 6 (show 6 < 12 by omega))⟩
        · exact ⟨show @LT.lt Nat _ (b + 7) _ by omega, g.vals 7 (by omega) (hall 7 (show 7 < 12 by omega))⟩
        · exact ⟨show @LT.lt Nat _ (b + 8) _ by omega, g.vals 8 (by omega) (hall 8 (show 8 < 12 by omega))⟩
    rw [ea, ey]
    exact done wy ⟨by'.os, by'.tape, by'.output, by'.size, by'.block⟩
end Go.Proofs.YthadeopmnedccaaGreat
