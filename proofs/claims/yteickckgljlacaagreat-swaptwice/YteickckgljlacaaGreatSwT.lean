/-
  The statements' own first look at package swap.
-/
import Derived.Test.YteickckgljlacaaGreatSwU
import Derived.Test.YteickckgljlacaaGreatBaseG
namespace Go.Proofs.YteickckgljlacaaGreat.Sw
open Go Go.RowKit
open Rf (tab word same IsTab fixAt fixF)

def kF : Nat → Bool := fun x => Rf.M 0 x && !Rf.M 1 x
theorem kF_hangs : ¬ Indep 0 kF := fun i => absurd (i 0 (by omega)) (by decide)
theorem kF_dep : Dep (Mdl.empty 3 100) 0 kF := fun x y _ _ h => by
  have h0 := h 0 (Nat.le_refl 0) (by decide)
  have h1 := h 1 (by omega) (by decide)
  change x.testBit 0 = y.testBit 0 at h0
  change x.testBit 1 = y.testBit 1 at h1
  show (Rf.M 0 x && !Rf.M 1 x) = (Rf.M 0 y && !Rf.M 1 y)
  rw [← Rf.M_bit, ← Rf.M_bit, ← Rf.M_bit, ← Rf.M_bit, h0, h1]
def zN (i : Nat) : Int := (i : Int)
/-- What is known of the store behind the first function. -/
structure Kn1 (M : Mdl) (a : Nat) : Prop where
  n : M.n = 3
  room : M.room = 100
  v : M.v = Od.idn 3
  one : atLev M 0 = 1
  len : M.hs.length ≤ 19
  node : M.isNode a
  tbl : Eqt (M.tbl a) kF
theorem kn1 {M : Mdl} {a : Nat} (o : M.Ok) (m : MadeIs (Mdl.empty 3 100) 0 kF a M) : Kn1 M a := by
  have oe := Mdl.empty_ok (n := 3) (room := 100) (by omega) (by omega)
  have u := m.up
  have l := Mdl.len_le o
  have e : (Mdl.empty 3 100).up + (2 ^ ((Mdl.empty 3 100).n - 2 - 0) - 1) = 1 := rfl
  rw [e] at u
  exact ⟨m.grew.n, m.grew.room, m.grew.v, made_one oe o m rfl kF_hangs, by omega, m.node, m.tbl⟩
theorem kTo : toC (swv (Od.idn 3) 0) zN 3 3 = 1 := by decide
theorem kPerm : Od.permB 3 zN 3 = true := by decide
theorem kPerm2 : Od.permB 2 zN 3 = false := by decide
theorem zN3 (w : World) : (w.alloc (.cells #[.int .i64 0, .int .i64 1, .int .i64 2] 3)).rowIs w.heap.size 3 3 (fun i => .int .i64 (zN i)) :=
  World.rowIs_alloc w #[.int .i64 0, .int .i64 1, .int .i64 2] 3 _ fun i hi => by
    have : i = 0 ∨ i = 1 ∨ i = 2 := by simp at hi; omega
    rcases this with rfl | rfl | rfl <;> rfl
theorem zN2 (w : World) : (w.alloc (.cells #[.int .i64 0, .int .i64 1] 3)).rowIs w.heap.size 3 2 (fun i => .int .i64 (zN i)) :=
  World.rowIs_alloc w #[.int .i64 0, .int .i64 1] 3 _ fun i hi => by
    have : i = 0 ∨ i = 1 := by simp at hi; omega
    rcases this with rfl | rfl <;> rfl
theorem nb (w : World) (o : Obj) : Below w.heap.size w (w.alloc o) := (Below.refl _ w).alloc (Nat.le_refl _) _
theorem new_far {w : World} {S : Nat} {F : Nat → Prop} {M : Mdl} (s : St w S F M) : ∀ a : Addr, some (⟨w.heap.size, 0, none⟩ : Addr) = some a → ¬ F a.block := fun a e hq => by
  cases e
  exact Nat.lt_irrefl _ (s.lt _ hq)
/-- A table lies where it lay. -/
theorem tab_kept {w w' : World} {S b : Nat} {F F' : Nat → Prop} {M : Mdl} {G : Nat → Bool} (T : IsTab w b G) (s : St w S F M) (g : Wf F F' w w') : IsTab w' b G := (g.block b T.lt (s.row T (by decide))).trans T
set_option maxRecDepth 100000 in
set_option maxHeartbeats 2000000 in
theorem known_any (W : World) :
    Calls Tryz.prog 8 #[] W fun e w' => e = .returned (.bool true) ∧ Below W.heap.size W w' := by
  have K1 : Calls Tryz.prog 9 #[.int .i64 3, .int .i64 100] W _ := s_new 3 100 W (by omega) (by omega) (by omega) (by omega)
  have KV0 : ∀ u, Calls Tryz.prog 35 #[.int .i64 0] u fun e w' => e = .returned (tab (Rf.M 0)) ∧ Below u.heap.size u w' := fun u => Rf.var_any 0 (by omega) u
  have KV1 : ∀ u, Calls Tryz.prog 35 #[.int .i64 1] u fun e w' => e = .returned (tab (Rf.M 1)) ∧ Below u.heap.size u w' := fun u => Rf.var_any 1 (by omega) u
  have KN : ∀ u, Calls Tryz.prog 36 #[tab (Rf.M 1)] u fun e w' => e = .returned (tab (fun x => !Rf.M 1 x)) ∧ Below u.heap.size u w' := fun u => Rf.not_any (Rf.M 1) u
  have KA : ∀ u, Calls Tryz.prog 34 #[tab (Rf.M 0), tab (fun x => !Rf.M 1 x)] u fun e w' => e = .returned (tab kF) ∧ Below u.heap.size u w' := fun u => Rf.and_any (Rf.M 0) (fun x => !Rf.M 1 x) u
  unfold tab at KV0 KV1 KN KA
  go_enter Tryz.func8, Tryz.ntmps8
  go_upto_region 5 with (first
    | (go_at_call 9; refine K1.mono ?_; clear K1; rintro e w1 ⟨S, F, rfl, h1, b1, f1⟩)
    | (go_at_call 35; refine (KV0 _).mono ?_; clear KV0; rintro e w2 ⟨rfl, b2⟩)
    | (go_at_call 35; refine (KV1 _).mono ?_; clear KV1; rintro e w3 ⟨rfl, b3⟩)
    | (go_at_call 36; refine (KN _).mono ?_; clear KN; rintro e w4 ⟨rfl, b4⟩)
    | (go_at_call 34; refine (KA _).mono ?_; clear KA; rintro e w5 ⟨rfl, b5⟩))
  have h5 := ((((h1.below b2).below b3).below b4).below b5).new (.cells #[.int .u64 (word kF 0 : Int), .int .u64 (word kF 1 : Int), .int .u64 (word kF 2 : Int), .int .u64 (word kF 3 : Int)] 24)
  have TF := IsTab.new w5 kF
  have B5 := Rf.below_far (Rf.below_far (Rf.below_far (Rf.below_far (Rf.below_far b1 b2) b3) b4) b5) (nb w5 (.cells #[.int .u64 (word kF 0 : Int), .int .u64 (word kF 1 : Int), .int .u64 (word kF 2 : Int), .int .u64 (word kF 3 : Int)] 24))
  generalize w5.alloc (.cells #[.int .u64 (word kF 0 : Int), .int .u64 (word kF 1 : Int), .int .u64 (word kF 2 : Int), .int .u64 (word kF 3 : Int)] 24) = w6 at h5 TF B5 ⊢
  generalize w5.heap.size = bf at TF ⊢
  clear b1 b2 b3 b4 b5 h1
  have K2 := make_any h5 kF_dep (by decide)
  unfold tab at K2
  obtain ⟨c0, c1, c2, c3⟩ := TF.copy
  go_upto_region 6 with (first
    | (go_at_call 13; refine K2.mono ?_; clear K2; rintro e w7 ⟨a, M, rfl, ⟨F7, s7, g7⟩, m7⟩))
  clear c0 c1 c2 c3
  have T7 := tab_kept TF h5 g7
  have knA : Aside (Kn1 M a) := kn1 s7.ok m7
  have B7A : Aside (Below W.heap.size W w7 ∧ ∀ k, F7 k → W.heap.size ≤ k) := ⟨Wf.far B5 g7 B5.size f1, g7.after B5.size f1⟩
  clear m7 g7 h5 TF B5 f1
  have K3 : Calls Tryz.prog 17 #[.pointer (some ⟨S, 0, none⟩), .int .i64 0] w7 fun e w' => e = .returned (.int .i64 2) ∧ Below w7.heap.size w7 w' := by
    have := needs_any s7 ((0 : Nat) : Int)
    rw [atZ_nat, knA.out.one] at this
    exact this
  go_upto_region 7 with (first
    | (go_at_call 17; refine K3.mono ?_; clear K3; rintro e w8 ⟨rfl, b8⟩))
  have s8 := s7.below b8
  have T8 := T7.kept b8
  have B8A : Aside (Below W.heap.size W w8) := Rf.below_far B7A.out.1 b8
  clear s7 b8 T7
  have K4 : Calls Tryz.prog 18 #[.pointer (some ⟨S, 0, none⟩), .int .i64 0] w8 _ := swap_ok (k := 0) s8 (by have := knA.out.n; omega) (by have h1 := knA.out.one; have h2 := knA.out.len; have h3 := knA.out.room; omega)
  go_upto_region 8 with (first
    | (go_at_call 18; refine K4.mono ?_; clear K4; rintro e w9 ⟨rfl, F9, M9, p9, l9, s9, g9⟩))
  have T9 := tab_kept T8 s8 g9
  have B9A : Aside (Below W.heap.size W w9 ∧ ∀ k, F9 k → W.heap.size ≤ k) := ⟨Wf.far B8A.out g9 B8A.out.size B7A.out.2, g9.after B8A.out.size B7A.out.2⟩
  have k9A : Aside (M9.n = 3 ∧ M9.room = 100 ∧ M9.v = swv (Od.idn 3) 0 ∧ M9.hs.length ≤ 21 ∧ M9.isNode a ∧ Eqt (M9.tbl a) kF) := by
    have kp := p9.kept s8.ok
    have kk := knA.out
    have h1 := kk.one
    have h2 := kk.len
    exact ⟨p9.n.trans kk.n, p9.room.trans kk.room, by rw [p9.v, kk.v], by omega, kp.node a kk.node, by rw [kp.tbl kk.node]; exact kk.tbl⟩
  clear p9 l9 g9 s8 T8 knA B7A B8A
  have K5 : Calls Tryz.prog 18 #[.pointer (some ⟨S, 0, none⟩), .int .i64 2] w9 _ := swap_bad s9 2 (by have := k9A.out.1; omega)
  go_upto_region 9 with (first
    | (go_at_call 18; refine K5.mono ?_; clear K5; rintro e w10 ⟨rfl, b10⟩))
  have s10 := s9.below b10
  have T10 := (T9.kept b10).alloc (.cells #[.int .i64 0, .int .i64 1, .int .i64 2] 3)
  have B10A : Aside (Below W.heap.size W (w10.alloc (.cells #[.int .i64 0, .int .i64 1, .int .i64 2] 3))) := Rf.below_far (Rf.below_far B9A.out.1 b10) (nb w10 _)
  have K6 := to_any (s10.new (.cells #[.int .i64 0, .int .i64 1, .int .i64 2] 3)) (c := 3) (Od.IntsAt.row (zN3 w10)) (new_far s10) (by rw [k9A.out.1]; exact kPerm)
  have s11 := s10.new (.cells #[.int .i64 0, .int .i64 1, .int .i64 2] 3)
  clear s9 s10 b10 T9
  go_upto_region 10 with (first
    | (go_at_call 24; refine K6.mono ?_; clear K6; rintro e w12 ⟨k, er, F12, M12, rfl, kp, hl, s12, g12, hc⟩))
  have h12 : (k = 1 ∧ er = 0) ∧ M12.n = 3 ∧ M12.isNode a ∧ Eqt (M12.tbl a) kF := by
    obtain ⟨e1, e2, e3, e4, e5, e6⟩ := k9A.out
    rw [e1, e3, kTo] at hc
    refine ⟨?_, kp.n.trans e1, kp.node a e5, by rw [kp.tbl e5]; exact e6⟩
    rcases hc with ⟨h1, h2, _⟩ | ⟨_, h2, h3⟩
    · exact ⟨h2, h1⟩
    · exfalso
      have : k = 0 := by omega
      subst this
      rw [kp.room, e2] at h3
      rw [Nat.pow_zero] at hl
      omega
  obtain ⟨⟨rfl, rfl⟩, h12b⟩ := h12
  have h12A : Aside (M12.n = 3 ∧ M12.isNode a ∧ Eqt (M12.tbl a) kF) := h12b
  have T12 := tab_kept T10 s11 g12
  have B12 : Below W.heap.size W w12 := Wf.far B10A.out g12 B10A.out.size B9A.out.2
  have T13 := T12.alloc (.cells #[.int .i64 0, .int .i64 1] 3)
  have s13 := s12.new (.cells #[.int .i64 0, .int .i64 1] 3)
  have B13A : Aside (Below W.heap.size W (w12.alloc (.cells #[.int .i64 0, .int .i64 1] 3))) := Rf.below_far B12 (nb w12 _)
  have K7 := to_no s13 (c := 2) (Od.IntsAt.row (zN2 w12)) (by rw [h12b.1]; exact kPerm2)
  clear hc hl kp g12 T10 s11 B10A B9A k9A h12b B12 T12 s12
  go_upto_region 11 with (first
    | (go_at_call 24; refine K7.mono ?_; clear K7; rintro e w14 ⟨rfl, b14⟩))
  have T14 := T13.kept b14
  have K8 := isf_any (G := kF) (s13.below b14) h12A.out.2.1
  rw [same_true h12A.out.2.2] at K8
  unfold tab at K8
  have B14A : Aside (Below W.heap.size W w14) := Rf.below_far B13A.out b14
  obtain ⟨d0, d1, d2, d3⟩ := T14.copy
  clear T13 s13 b14 B13A h12A T14
  go_wp2_with (first
    | (go_at_call 22; refine K8.mono ?_; clear K8; rintro e w15 ⟨rfl, b15⟩))
  go_ret
  exact ⟨rfl, Rf.below_far B14A.out b15⟩
end Go.Proofs.YteickckgljlacaaGreat.Sw
