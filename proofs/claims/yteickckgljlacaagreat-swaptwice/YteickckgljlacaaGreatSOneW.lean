/-
  SwapOne, walked.
-/
import Derived.Test.YteickckgljlacaaGreatSwT
namespace Go.Proofs.YteickckgljlacaaGreat.Sw
open Go Go.RowKit
open Rf (tab word same IsTab fixAt fixF)

set_option maxHeartbeats 1000000 in
/-- Two rows of the same numbers are the same. -/
theorem ints_true {w : World} {p q n c d : Nat} {Z : Nat → Int} (hp : w.rowIs p 3 n (fun i => .int .i64 (Z i))) (hq : w.rowIs q 3 n (fun i => .int .i64 (Z i))) (hn : n ≤ 1000) :
    Calls Tryz.prog 20 #[.slice (some ⟨p, 0, none⟩) n c, .slice (some ⟨q, 0, none⟩) n d] w fun e w' => e = .returned (.bool true) ∧ Below w.heap.size w w' := by
  go_enter Tryz.func20, Tryz.ntmps20
  go_wp2_with fail
  go_loopg [4, 5] n (fun g s4 si wr => ∃ j : Nat, j + g = n ∧ s4 = .bool false ∧ si = .int .i64 (j : Int) ∧ Below w.heap.size w wr)
  case atStart => exact ⟨0, by omega, rfl, rfl, Below.refl _ _⟩
  case round =>
    obtain ⟨j, hj, rfl, rfl, hb⟩ := hrel
    have hJ : Aside (j + gk = n) := hj
    by_cases hlt : j < n
    · have hlt' : (j : Int) < (n : Int) := by omega
      have k1 : wr.cell? ⟨p, j, none⟩ = some (.int .i64 (Z j)) := by rw [hb.cell hp.lt]; exact hp.cell hlt
      have k2 : wr.cell? ⟨q, j, none⟩ = some (.int .i64 (Z j)) := by rw [hb.cell hq.lt]; exact hq.cell hlt
      generalize Z j = y at k1 k2
      clear hj
      go_wp2_with fail
      go_region
      go_wp2_with fail
      go_roundg (gk - 1)
      case measure => have := hJ.out; omega
      case rel =>
        have hj := hJ.out
        exact ⟨j + 1, by omega, rfl, by go_num, hb.drew⟩
    · obtain rfl : j = n := by omega
      clear hj
      go_wp2_with fail
      go_ret
      exact ⟨rfl, hb⟩

/-- A function of the first six variables, off the first word of a table. -/
def lowF (F : Nat → Bool) : Nat → Bool := fun x => F (x % 64)
theorem lowF_word (F : Nat → Bool) (k : Nat) : word (lowF F) k = word F 0 := Rf.word_congr' fun i hi => by
  show F ((64 * k + i) % 64) = F (64 * 0 + i)
  rw [show (64 * k + i) % 64 = 64 * 0 + i by omega]
theorem lowF_indep (F : Nat → Bool) {u : Nat} (h6 : 6 ≤ u) (h8 : u < 8) : Indep u (lowF F) := fun x hx => by
  show F (fixAt u false x % 64) = F (fixAt u true x % 64)
  congr 1
  refine Nat.eq_of_testBit_eq fun j => ?_
  rw [show (64 : Nat) = 2 ^ 6 by decide, Nat.testBit_mod_two_pow, Nat.testBit_mod_two_pow, (fixAt_bits hx h8 false).2, (fixAt_bits hx h8 true).2]
  by_cases c : j < 6
  · unfold Mdl.setA
    rw [if_neg (by omega), if_neg (by omega)]
  · simp [c]
def ord6 (i : Nat) : Nat := swv (Od.idn 8) 6 i
theorem one_row (w : World) : (w.alloc (.cells #[.int .i64 0, .int .i64 1, .int .i64 2, .int .i64 3, .int .i64 4, .int .i64 5, .int .i64 7, .int .i64 6] 3)).rowIs w.heap.size 3 8 (fun i => .int .i64 (swv (Od.idn 8) 6 i : Int)) :=
  World.rowIs_alloc w #[.int .i64 0, .int .i64 1, .int .i64 2, .int .i64 3, .int .i64 4, .int .i64 5, .int .i64 7, .int .i64 6] 3 _ fun i hi => by
    have hi8 : i < 8 := hi
    have : i = 0 ∨ i = 1 ∨ i = 2 ∨ i = 3 ∨ i = 4 ∨ i = 5 ∨ i = 6 ∨ i = 7 := by omega
    rcases this with rfl | rfl | rfl | rfl | rfl | rfl | rfl | rfl <;> rfl
section
variable {M M' : Mdl} {k : Nat}
theorem of_atLev_zero (h : atLev M k = 0) : ∀ x ∈ M.hs, (M.nd x).1 ≠ k := fun x hx e => by
  unfold atLev at h
  rw [List.length_eq_zero_iff, List.filter_eq_nil_iff] at h
  exact h x hx (decide_eq_true e)
/-- A swap of two levels one of which has no node makes none. -/
theorem plan_same (o : M.Ok) (p : Plan M k M') (hl : M'.hs.length ≤ M.hs.length) : M'.hs.length = M.hs.length ∧ ∀ x ∈ M'.hs, x ∈ M.hs := by
  have o' := p.ok o
  have h1 := nodup_le _ _ o.nodup p.keep
  refine ⟨Nat.le_antisymm hl h1, fun x hx => ?_⟩
  by_cases c : x ∈ M.hs
  · exact c
  · exfalso
    have := nodup_le (x :: M.hs) M'.hs (List.nodup_cons.2 ⟨c, o.nodup⟩) fun y hy => by
      rcases List.mem_cons.1 hy with rfl | hy
      · exact hx
      · exact p.keep y hy
    simp at this
    omega
/-- Behind a swap of two levels without nodes these have none. -/
theorem plan_none (o : M.Ok) (p : Plan M k M') (hl : M'.hs.length ≤ M.hs.length) (h0 : atLev M k = 0) (h1 : atLev M (k + 1) = 0) : atLev M' k = 0 ∧ atLev M' (k + 1) = 0 := by
  have q := (plan_same o p hl).2
  have a0 := of_atLev_zero h0
  have a1 := of_atLev_zero h1
  refine ⟨atLev_zero fun x hx => ?_, atLev_zero fun x hx => ?_⟩
  · rw [p.far x (q x hx) (a0 x (q x hx)) (a1 x (q x hx))]; exact a0 x (q x hx)
  · rw [p.far x (q x hx) (a0 x (q x hx)) (a1 x (q x hx))]; exact a1 x (q x hx)
end
/-- What the law finds behind its swap. -/
structure One2 (M M' : Mdl) (a : Nat) (G : Nat → Bool) : Prop where
  n : M'.n = 8
  v : M'.v = swv (Od.idn 8) 6
  len : M'.hs.length = M.hs.length
  l6 : atLev M' 6 = 0
  l7 : atLev M' 7 = 0
  node : M'.isNode a
  tbl : Eqt (M'.tbl a) G
theorem one2 {M M' : Mdl} {a : Nat} {G : Nat → Bool} (o : M.Ok) (m : MadeIs (Mdl.empty 8 400) 0 G a M) (p : Plan M 6 M') (hl : M'.hs.length ≤ M.hs.length) (h6 : atLev M 6 = 0) (h7 : atLev M 7 = 0) : One2 M M' a G := by
  have kp := p.kept o
  have q := plan_none o p hl h6 h7
  exact ⟨p.n.trans m.grew.n, by rw [p.v, m.grew.v]; rfl, (plan_same o p hl).1, q.1, q.2, kp.node a m.node, by rw [kp.tbl m.node]; exact m.tbl⟩
set_option maxRecDepth 100000 in
set_option maxHeartbeats 2000000 in
theorem one_walk (F : Nat → Bool) (z : Int) (W : World) (z0 : 0 ≤ z) (z1 : z ≤ 255) :
    Calls Tryz.prog 7 #[tab F, .int .u8 z] W fun e w' => e = .returned (.bool true) ∧ Below W.heap.size W w' := by
  have hz1 : IntKind.i64.wrap z = z := by rw [IntKind.wrap_i64]; omega
  have hz2 : IntKind.i64.wrap (-1 - z) = -1 - z := by rw [IntKind.wrap_i64]; omega
  have hz3 : wrap64 (-1 - z) = -1 - z := by unfold wrap64; omega
  have hzn : Aside (-1 - z < 0) := by show -1 - z < 0; omega
  clear z0 z1
  obtain ⟨G, hG⟩ : ∃ G, lowF F = G := ⟨_, rfl⟩
  have iA : Aside (Indep 6 G ∧ Indep 7 G) := by rw [← hG]; exact ⟨lowF_indep F (by omega) (by omega), lowF_indep F (by omega) (by omega)⟩
  have gwA : Aside (∀ k, word G k = word F 0) := by rw [← hG]; exact lowF_word F
  clear hG
  conv in #[tab F, Value.int .u8 z] => unfold tab
  go_enter Tryz.func7, Tryz.ntmps7
  go_upto_region 1 with fail
  have TF := IsTab.new W F
  have B0 := nb W (.cells #[.int .u64 (word F 0 : Int), .int .u64 (word F 1 : Int), .int .u64 (word F 2 : Int), .int .u64 (word F 3 : Int)] 24)
  generalize W.alloc (.cells #[.int .u64 (word F 0 : Int), .int .u64 (word F 1 : Int), .int .u64 (word F 2 : Int), .int .u64 (word F 3 : Int)] 24) = w0 at TF B0 ⊢
  generalize W.heap.size = bf at TF ⊢
  have Kk := known_any w0
  go_upto_region 3 with (first
    | (go_at_call 8; refine Kk.mono ?_; clear Kk; rintro e w1 ⟨rfl, b1⟩))
  have Kn : Calls Tryz.prog 9 #[.int .i64 8, .int .i64 400] w1 _ := s_new 8 400 w1 (by omega) (by omega) (by omega) (by omega)
  go_upto_region 6 with (first
    | (go_at_call 9; refine Kn.mono ?_; clear Kn; rintro e w2 ⟨S, F2, rfl, h2, b2, f2⟩))
  have B2 := Rf.below_far (Rf.below_far B0 b1) b2
  have f2' : ∀ k, F2 k → W.heap.size ≤ k := fun k hk => Nat.le_trans (Nat.le_trans B0.size b1.size) (f2 k hk)
  obtain ⟨c0, _, _, _⟩ := ((TF.kept b1).kept b2).copy
  clear TF B0 b1 b2 f2
  go_upto_region 7 with fail
  have h3 := h2.new (.cells #[.int .u64 (word F 0 : Int), .int .u64 (word F 0 : Int), .int .u64 (word F 0 : Int), .int .u64 (word F 0 : Int)] 24)
  have TG := Rf.IsTab.wordsAt (w := w2) rfl G (gwA.out 0) (gwA.out 1) (gwA.out 2) (gwA.out 3)
  have B3 := Rf.below_far B2 (nb w2 (.cells #[.int .u64 (word F 0 : Int), .int .u64 (word F 0 : Int), .int .u64 (word F 0 : Int), .int .u64 (word F 0 : Int)] 24))
  generalize w2.alloc (.cells #[.int .u64 (word F 0 : Int), .int .u64 (word F 0 : Int), .int .u64 (word F 0 : Int), .int .u64 (word F 0 : Int)] 24) = w3 at h3 TG B3 ⊢
  generalize w2.heap.size = bg at TG ⊢
  clear c0 h2 B2
  have K1 := make_any h3 (Dep.all h3.ok rfl G) (by decide)
  unfold tab at K1
  obtain ⟨d0, d1, d2, d3⟩ := TG.copy
  go_upto_region 8 with (first
    | (go_at_call 13; refine K1.mono ?_; clear K1; rintro e w4 ⟨a, M, rfl, ⟨F4, s4, g4⟩, m4⟩))
  have T4 := tab_kept TG h3 g4
  have B4A : Aside (Below W.heap.size W w4 ∧ ∀ k, F4 k → W.heap.size ≤ k) := ⟨Wf.far B3 g4 B3.size f2', g4.after B3.size f2'⟩
  have m4A : Aside (MadeIs (Mdl.empty 8 400) 0 G a M) := m4
  clear d0 d1 d2 d3 m4 g4 TG h3 B3 f2'
  have K2 := s_len s4
  go_upto_region 9 with (first
    | (go_at_call 16; refine K2.mono ?_; clear K2; rintro e w5 ⟨rfl, q5, rfl⟩))
  have s5 : St (w4.drewN q5) S F4 M := s4.drewN q5
  have T5 : IsTab (w4.drewN q5) bg G := T4
  have B5A : Aside (Below W.heap.size W (w4.drewN q5)) := ⟨B4A.out.1.os, B4A.out.1.tape, B4A.out.1.output, B4A.out.1.size, B4A.out.1.block⟩
  generalize w4.drewN q5 = w5 at s5 T5 B5A ⊢
  clear s4 T4
  have oe := Mdl.empty_ok (n := 8) (room := 400) (by omega) (by omega)
  have z6 : atLev M 6 = 0 := made_zero (k := 6) oe s5.ok m4A.out rfl (by decide) iA.out.1
  have z7 : atLev M 7 = 0 := made_zero (k := 7) oe s5.ok m4A.out rfl (by decide) iA.out.2
  have zA : Aside (atLev M 6 = 0 ∧ atLev M 7 = 0) := ⟨z6, z7⟩
  have K3 : Calls Tryz.prog 18 #[.pointer (some ⟨S, 0, none⟩), .int .i64 6] w5 _ := swap_ok (k := 6) s5 (by have : M.n = 8 := m4A.out.grew.n; omega) (by have := s5.ok.len; omega)
  clear oe z6 z7
  go_upto_region 10 with (first
    | (go_at_call 18; refine K3.mono ?_; clear K3; rintro e w6 ⟨rfl, F6, M6, p6, l6, s6, g6⟩))
  have T6 := tab_kept T5 s5 g6
  have B6A : Aside (Below W.heap.size W w6) := Wf.far B5A.out g6 B5A.out.size B4A.out.2
  have o2A : Aside (One2 M M6 a G) := one2 s5.ok m4A.out p6 (by have := zA.out.1; omega) zA.out.1 zA.out.2
  clear p6 l6 g6 s5 T5 B5A B4A zA m4A iA
  have K4 := s_len s6
  rw [o2A.out.len] at K4
  have KO := fun {u : World} (b : Below w6.heap.size w6 u) => s_order (s6.below b)
  simp only [o2A.out.n, o2A.out.v] at KO
  have N7 : Aside (∀ u, Below w6.heap.size w6 u → Calls Tryz.prog 17 #[.pointer (some ⟨S, 0, none⟩), .int .i64 7] u fun e w' => e = .returned (.int .i64 0) ∧ Below u.heap.size u w') := fun u b => by
    have := needs_any (s6.below b) ((7 : Nat) : Int)
    rw [atZ_nat, o2A.out.l7] at this
    exact this
  have N6 : Aside (∀ u, Below w6.heap.size w6 u → Calls Tryz.prog 17 #[.pointer (some ⟨S, 0, none⟩), .int .i64 6] u fun e w' => e = .returned (.int .i64 0) ∧ Below u.heap.size u w') := fun u b => by
    have := needs_any (s6.below b) ((6 : Nat) : Int)
    rw [atZ_nat, o2A.out.l6] at this
    exact this
  have KOA : Aside (∀ u, Below w6.heap.size w6 u → Calls Tryz.prog 10 #[.pointer (some ⟨S, 0, none⟩)] u fun e w' => ∃ P l, e = .returned (.pointer (some ⟨P, 0, none⟩)) ∧ Od.IsOrd w' P 8 (swv (Od.idn 8) 6) l ∧ Below u.heap.size u w' ∧ u.heap.size ≤ P) := fun u b => KO b
  have KIA : Aside (∀ u, Below w6.heap.size w6 u → Calls Tryz.prog 22 #[.pointer (some ⟨S, 0, none⟩), .int .u32 (a : Int), tab G] u fun e w' => e = .returned (.bool true) ∧ Below u.heap.size u w') := fun u b => by
    have := isf_any (G := G) (s6.below b) o2A.out.node
    rwa [same_true o2A.out.tbl] at this
  have KSA : Aside (∀ u, Below w6.heap.size w6 u → ∀ y : Int, y < 0 ∨ 7 ≤ y → Calls Tryz.prog 18 #[.pointer (some ⟨S, 0, none⟩), .int .i64 y] u fun e w' => e = .returned (.int .i64 40) ∧ Below u.heap.size u w') := fun u b y hy => swap_bad (s6.below b) y (hy.imp id fun h => by rw [o2A.out.n]; omega)
  unfold tab at KIA
  have T6A : Aside (IsTab w6 bg G) := T6
  clear KO s6 o2A T6
  go_wp2_with (first
    | (go_at_call 16; refine K4.mono ?_; clear K4; rintro e w7 ⟨rfl, q7, e7⟩; have b7 : Below w6.heap.size w6 w7 := (by rw [e7]; exact ⟨rfl, rfl, rfl, Nat.le_refl _, fun _ _ => rfl⟩); clear e7; have K5 := N7.out w7 b7)
    | (go_at_call 17; refine K5.mono ?_; clear K5; rintro e w8 ⟨rfl, b8⟩; have b9 := b7.trans (b8.mono b7.size); clear b7 b8; have K6 := N6.out w8 b9)
    | (go_at_call 17; refine K6.mono ?_; clear K6; rintro e w9 ⟨rfl, b10⟩; have b11 := b9.trans (b10.mono b9.size); clear b9 b10; have K7 := KOA.out w9 b11)
    | (go_at_call 10; refine K7.mono ?_; clear K7; rintro e w10 ⟨P, l, rfl, o10, b12, _⟩; have b13 := b11.trans (b12.mono b11.size); clear b11 b12; have K8 := Od.all_any o10 (by omega))
    | (go_at_call 11; refine K8.mono ?_; clear K8; rintro e w11 ⟨rfl, r11, b14⟩; have b15 := b13.trans (b14.mono b13.size); clear b13 b14; have b16 := b15.trans ((nb w11 (.cells #[.int .i64 0, .int .i64 1, .int .i64 2, .int .i64 3, .int .i64 4, .int .i64 5, .int .i64 7, .int .i64 6] 3)).mono b15.size); clear b15; have K9 : Calls Tryz.prog 20 #[.slice (some ⟨w10.heap.size, 0, none⟩) 8 8, .slice (some ⟨w11.heap.size, 0, none⟩) 8 8] (w11.alloc (.cells #[.int .i64 0, .int .i64 1, .int .i64 2, .int .i64 3, .int .i64 4, .int .i64 5, .int .i64 7, .int .i64 6] 3)) _ := ints_true (n := 8) (r11.alloc _) (one_row w11) (by omega))
    | (go_at_call 20; refine K9.mono ?_; clear K9; rintro e w12 ⟨rfl, b17⟩; have b18 := b16.trans (b17.mono b16.size); clear b16 b17; have K10 := KIA.out w12 b18; obtain ⟨d0, d1, d2, d3⟩ := (T6A.out.kept b18).copy)
    | (go_at_call 22; refine K10.mono ?_; clear K10; rintro e w13 ⟨rfl, b19⟩; have b20 := b18.trans (b19.mono b18.size); clear b18 b19; have K11 := KSA.out w13 b20 7 (.inr (by omega)))
    | (go_at_call 18; refine K11.mono ?_; clear K11; rintro e w14 ⟨rfl, b21⟩; have b22 := b20.trans (b21.mono b20.size); clear b20 b21; have K12 := KSA.out w14 b22 (-1 - z) (.inl hzn.out))
    | (go_at_call 18; refine K12.mono ?_; clear K12; rintro e w15 ⟨rfl, b23⟩))
  go_ret
  exact ⟨rfl, Rf.below_far (Rf.below_far B6A.out b22) b23⟩
end Go.Proofs.YteickckgljlacaaGreat.Sw
