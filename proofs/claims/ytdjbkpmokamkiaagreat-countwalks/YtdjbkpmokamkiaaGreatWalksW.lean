/-
  CountWalks, walked.
-/
import Derived.Test.YtdjbkpmokamkiaaGreatCtK
namespace Go.Proofs.YtdjbkpmokamkiaaGreat
open Go Go.RowKit
open Rf (tab word IsTab)

set_option maxRecDepth 100000 in
set_option maxHeartbeats 4000000 in
theorem walks_walk (F : Nat → Bool) (z : Int) (W : World) (z0 : 0 ≤ z) (z1 : z < 256) :
    Calls Tryz.prog 8 #[tab F, .int .u8 z] W fun e w' => e = .returned (.bool true) ∧ Below W.heap.size W w' := by
  obtain ⟨x, rfl⟩ : ∃ x : Nat, z = (x : Int) := ⟨z.toNat, by omega⟩
  have hx : x < 256 := by omega
  clear z0 z1
  conv in #[tab F, Value.int .u8 (x : Int)] => unfold tab
  go_enter Tryz.func8, Tryz.ntmps8
  go_upto_region 1 with fail
  have TF := IsTab.new W F
  have B3 := nb W (.cells #[.int .u64 (word F 0 : Int), .int .u64 (word F 1 : Int), .int .u64 (word F 2 : Int), .int .u64 (word F 3 : Int)] 24)
  generalize W.alloc (.cells #[.int .u64 (word F 0 : Int), .int .u64 (word F 1 : Int), .int .u64 (word F 2 : Int), .int .u64 (word F 3 : Int)] 24) = v3 at TF B3 ⊢
  have B3A : Aside (Below W.heap.size W v3) := B3
  clear B3
  generalize W.heap.size = bf at TF ⊢
  have Kk := nknown_any v3
  go_upto_region 3 with (first
    | (go_at_call 9; refine Kk.mono ?_; clear Kk; rintro e v4 ⟨rfl, b4⟩))
  have TF4 := kept TF b4
  have Kn : Calls Tryz.prog 10 #[.int .i64 8, .int .i64 200] v4 _ := new_x W v4 8 200 (by omega) (by omega) (by omega) (by omega) (Rf.below_far B3A.out b4)
  clear TF B3A b4
  go_upto_region 6 with (first
    | (go_at_call 10; refine Kn.mono ?_; clear Kn; rintro e w5 ⟨S, rfl, f5, x5, b5⟩))
  have TF5 := kept TF4 b5
  have K1 := make_x x5 (by omega) F
  clear TF4 b5 f5
  unfold tab at K1
  obtain ⟨y0, y1, y2, y3⟩ := TF5.copy
  go_upto_region 8 with (first
    | (go_at_call 12; refine K1.mono ?_; clear K1; rintro e w6 ⟨a, rfl, x6, u6⟩))
  have TF6 := u6.tab TF5
  clear y0 y1 y2 y3 TF5 x5 u6
  have x6A : Aside (Sx W w6 S 8 200 ((a, F) :: [(0, c0), (1, c1)]) (0 + 63)) := x6
  obtain ⟨F0, M, s, e1, e2, e3, q, B, f⟩ := x6
  obtain ⟨na, ta⟩ := q _ (.head _)
  have TF6A : Aside (IsTab w6 bf F) := TF6
  have sA : Aside (St w6 S F0 M) := s
  have naA : Aside (M.isNode a) := na
  have taA : Aside (M.tbl a x = F x) := ta x hx
  have n8 : Aside (M.n = 8) := e1
  clear TF6 s na ta e2 e3 q B f e1
  go_wp2_with fail
  go_loopg [9, 10] 9 (fun gg sh si wr => ∃ (c i : Nat), i + gg = 9 ∧ sh = .int .u32 (c : Int) ∧ si = .int .i64 (i : Int) ∧ Aside (M.isNode c) ∧ Aside (M.tbl c x = F x) ∧ Aside (i ≤ M.lev c) ∧ Aside (Below w6.heap.size w6 wr))
  case atStart => exact ⟨a, 0, rfl, rfl, rfl, naA, taA, Nat.zero_le _, Below.refl _ _⟩
  case round =>
    obtain ⟨c, i, hi, rfl, rfl, hn, ht, hl, hB⟩ := hrel
    have hI : Aside (i + gk = 9) := hi
    have sr := sA.out.below hB.out
    have ok := sr.ok
    have cb := Mdl.isNode_lt ok hn.out
    have lc := Mdl.lev_le ok hn.out
    have i8 : i ≤ 8 := by have := hl.out; have := n8.out; simp only [Aside] at *; omega
    have i9 : (i : Int) < 9 := by omega
    by_cases c2 : c < 2
    · have c1 : ¬ (1 : Int) < (c : Int) := by omega
      have c3 : (c : Int) ≤ 1 := by omega
      have c3' : c ≤ 1 := by omega
      have KE := eval_x (x6A.out.below hB.out) (x := a) (X := F) (.head _) x hx
      have e : F x = decide (c = 1) := by rw [← ht.out]; exact Mdl.val_const c2 _
      have e1 : ((c : Int) == 1) = F x := by
        rw [e]
        by_cases q : c = 1
        · subst q; rfl
        · rw [decide_eq_false q, beq_eq_false_iff_ne]; omega
      have TB : Aside (∀ u, Below wr.heap.size wr u → IsTab u bf F) := fun u k => kept (kept TF6A.out hB.out) k
      have bs : Aside (∀ u, Below wr.heap.size wr u → Below W.heap.size W u) := fun u k => ((x6A.out.below hB.out).below k).base
      have q64 : x / 64 < 4 := by omega
      have rdx := Rf.read_bit F (x / 64) (x % 64) (by omega)
      rw [show 64 * (x / 64) + x % 64 = x by omega] at rdx
      have d1 : Int.tdiv (x : Int) 64 = ((x / 64 : Nat) : Int) := rfl
      have d2 : Int.tmod (x : Int) 64 = ((x % 64 : Nat) : Int) := rfl
      have d3 : (x : Int) / 64 = ((x / 64 : Nat) : Int) := rfl
      have d4 : (x : Int) % 64 = ((x % 64 : Nat) : Int) := rfl
      have r64 : x % 64 < 64 := by omega
      generalize F x = r at KE e1 rdx
      have T7 : Aside (∀ u, Below wr.heap.size wr u → u.cell? ⟨bf, x / 64, none⟩ = some (.int .u64 (word F (x / 64) : Int))) := fun u k => (TB.out u k).cell q64
      have q64i : ((x / 64 : Nat) : Int) < 4 := by omega
      have q0 : (((x / 64 : Nat) : Int)).toNat = x / 64 := by omega
      have r64i : ((x % 64 : Nat) : Int) < 64 := by omega
      generalize x / 64 = xq at rdx d1 d3 T7 q64 q64i q0
      generalize x % 64 = xr at rdx d2 d4 r64 r64i
      generalize word F xq = wq at rdx T7
      have w8 : IntKind.u8.wrap (xq : Int) = (xq : Int) := by rw [IntKind.wrap_u8]; omega
      have w8' : IntKind.u8.wrap (xr : Int) = (xr : Int) := by rw [IntKind.wrap_u8]; omega
      have m64 : min xr 64 = xr := by omega
      clear hi c2 e ok sr lc i8 hl hn ht TB
      go_wp2_with (first
        | (go_at_call 15; refine KE.mono ?_; clear KE; rintro e w7 ⟨rfl, b7⟩; have t7 := T7.out w7 b7))
      go_ret
      exact ⟨by simp, bs.out w7 b7⟩
    · have cm := hn.out.resolve_left c2
      have c1 : (1 : Int) < (c : Int) := by omega
      have lvn := ok.lv c cm
      have K2 := s_order sr
      have KL : Aside (∀ u, Below wr.heap.size wr u → Calls Tryz.prog 34 #[.pointer (some ⟨S, 0, none⟩), .int .u32 (c : Int)] u fun e w' => e = .returned (.int .i64 ((M.nd c).1 : Int)) ∧ w' = u) := fun u k => by
        have := lv_any (sr.below k) hn.out
        rwa [Mdl.lev_in ok cm] at this
      have KA : Aside (∀ u, Below wr.heap.size wr u → Calls Tryz.prog 36 #[.pointer (some ⟨S, 0, none⟩), .int .u32 (c : Int)] u fun e w' => e = .returned (.int .u32 ((M.nd c).2.1 : Int)) ∧ w' = u) := fun u k => by
        have := s_low (sr.below k) c (by omega)
        rwa [Mdl.lowN_in ok cm] at this
      have KB : Aside (∀ u, Below wr.heap.size wr u → Calls Tryz.prog 35 #[.pointer (some ⟨S, 0, none⟩), .int .u32 (c : Int)] u fun e w' => e = .returned (.int .u32 ((M.nd c).2.2 : Int)) ∧ w' = u) := fun u k => by
        have := s_high (sr.below k) c (by omega)
        rwa [Mdl.highN_in ok cm] at this
      have KV : Aside (∀ (u : World) (P : Nat) (lv : Nat → Nat), Od.IsOrd u P M.n M.v lv → Calls Tryz.prog 33 #[.pointer (some ⟨P, 0, none⟩), .int .i64 ((M.nd c).1 : Int)] u fun e w' => e = .returned (.int .i64 (M.v (M.nd c).1 : Int)) ∧ w' = u) := fun u P lv o => Od.var_in o ok.le8 (M.nd c).1 lvn
      have v8 : M.v (M.nd c).1 < 8 := v8 ok lvn
      have rd := read8 x (M.v (M.nd c).1) hx
      have ht' := ht.out
      rw [tbl_at ok cm] at ht'
      have ll : Aside (i + 1 ≤ M.lev (M.nd c).2.1) := by
        have h1 := (ok.lo c cm).2
        have h2 := hl.out
        rw [Mdl.lev_in ok cm] at h2
        exact Nat.lt_of_le_of_lt h2 h1
      have lh : Aside (i + 1 ≤ M.lev (M.nd c).2.2) := by
        have h1 := (ok.hi c cm).2
        have h2 := hl.out
        rw [Mdl.lev_in ok cm] at h2
        exact Nat.lt_of_le_of_lt h2 h1
      have nl : Aside (M.isNode (M.nd c).2.1) := (ok.lo c cm).1
      have nh : Aside (M.isNode (M.nd c).2.2) := (ok.hi c cm).1
      have i8A : Aside (i ≤ 8) := i8
      generalize M.v (M.nd c).1 = v at KV v8 rd ht'
      generalize (M.nd c).1 = L at KL KV lvn
      generalize (M.nd c).2.1 = lo at KA ht' ll nl
      generalize (M.nd c).2.2 = hi' at KB ht' lh nh
      have m1 : min v 8 = v := by omega
      have vw : IntKind.u64.wrap (v : Int) = (v : Int) := by rw [IntKind.wrap_u64]; omega
      have v8i : (v : Int) < 8 := by omega
      clear ok cm c2 hn ht hl lc sr hi i8
      cases q : x.testBit v with
      | true =>
        rw [q] at rd ht'
        rw [if_pos rfl] at ht'
        have tA : Aside (M.tbl hi' x = F x) := ht'
        clear ht' q KA
        go_wp2_with (first
          | (go_at_call 20; refine K2.mono ?_; clear K2; rintro e w7 ⟨P, lv, rfl, o7, b7, p7⟩; have K3 := KL.out w7 b7; have K4 := KV.out w7 P lv o7; have K5 := KB.out w7 b7; clear p7 o7)
          | (go_at_call 34; refine K3.mono ?_; clear K3; rintro e w7 ⟨rfl, rfl⟩)
          | (go_at_call 33; refine K4.mono ?_; clear K4; rintro e w7 ⟨rfl, rfl⟩)
          | (go_at_call 35; refine K5.mono ?_; clear K5; rintro e w7 ⟨rfl, rfl⟩))
        go_roundg (gk - 1)
        case measure => have := hI.out; have := i8A.out; omega
        case rel =>
          have := hI.out
          have := i8A.out
          exact ⟨hi', i + 1, by omega, rfl, by go_num, nh, tA, lh, Rf.below_far hB.out b7⟩
      | false =>
        rw [q] at rd ht'
        rw [if_neg (by simp)] at ht'
        have tA : Aside (M.tbl lo x = F x) := ht'
        clear ht' q KB
        go_wp2_with (first
          | (go_at_call 20; refine K2.mono ?_; clear K2; rintro e w7 ⟨P, lv, rfl, o7, b7, p7⟩; have K3 := KL.out w7 b7; have K4 := KV.out w7 P lv o7; have K5 := KA.out w7 b7; clear p7 o7)
          | (go_at_call 34; refine K3.mono ?_; clear K3; rintro e w7 ⟨rfl, rfl⟩)
          | (go_at_call 33; refine K4.mono ?_; clear K4; rintro e w7 ⟨rfl, rfl⟩)
          | (go_at_call 36; refine K5.mono ?_; clear K5; rintro e w7 ⟨rfl, rfl⟩))
        go_roundg (gk - 1)
        case measure => have := hI.out; have := i8A.out; omega
        case rel =>
          have := hI.out
          have := i8A.out
          exact ⟨lo, i + 1, by omega, rfl, by go_num, nl, tA, ll, Rf.below_far hB.out b7⟩
end Go.Proofs.YtdjbkpmokamkiaaGreat
