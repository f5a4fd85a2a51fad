/-
  The statements' own helps: the number of paths by walking; a cube's table.
-/
import Derived.Test.YtfaccdnnjkkcfaaGreatDoorBdU
namespace Go.Proofs.YtfaccdnnjkkcfaaGreatDoor
open Go Go.RowKit
open Rf (fixAt fixF tab word same IsTab Cols)

/-! ## How many paths, by walking -/
set_option maxHeartbeats 1000000 in
theorem lpaths_step {w : World} {S d x : Nat} {F0 : Nat → Prop} {M : Mdl} (h : St w S F0 M) (xn : M.isNode x) (hd : d ≤ 9)
    (ih : x ∈ M.hs → ∀ {y : Nat}, M.isNode y → M.lev x < M.lev y → Calls Tryz.prog 33 #[.pointer (some ⟨S, 0, none⟩), .int .u32 (y : Int)] w fun e w' => e = .returned (.int .i64 ((pathsN M d y 0 0).length : Int)) ∧ w' = w) :
    Calls Tryz.prog 33 #[.pointer (some ⟨S, 0, none⟩), .int .u32 (x : Int)] w fun e w' => e = .returned (.int .i64 ((pathsN M (d + 1) x 0 0).length : Int)) ∧ w' = w := by
  have o := h.ok
  by_cases h2 : x < 2
  · have e : (pathsN M (d + 1) x 0 0).length = x := by
      rcases two_of h2 with rfl | rfl
      · rw [pathsN_zero]; rfl
      · rw [pathsN_one]; rfl
    rw [e]
    have x2 : (x : Int) ≤ 1 := by omega
    have x2' : x ≤ 1 := by omega
    clear ih e
    go_enter Tryz.func33, Tryz.ntmps33
    go_wp2_with fail
    go_ret
    exact ⟨by go_num, rfl⟩
  · have xm : x ∈ M.hs := xn.resolve_left h2
    have hx : x < 4294967296 := by have := (o.range x xm).2; omega
    have e : (pathsN M (d + 1) x 0 0).length = (pathsN M d (M.nd x).2.1 0 0).length + (pathsN M d (M.nd x).2.2 0 0).length := by
      rw [pathsN_in _ _ _ _ _ h2, List.length_append, paths_from M d (M.nd x).2.1, paths_from M d (M.nd x).2.2, List.length_map, List.length_map]
    have KLow := s_low h x hx
    have KHigh := s_high h x hx
    rw [Mdl.lowN_in o xm] at KLow
    rw [Mdl.highN_in o xm] at KHigh
    have K1 := ih xm (o.lo x xm).1 (by rw [Mdl.lev_in o xm]; exact (o.lo x xm).2)
    have K2 := ih xm (o.hi x xm).1 (by rw [Mdl.lev_in o xm]; exact (o.hi x xm).2)
    have l1 := pathsN_le M d (M.nd x).2.1 0 0
    have l2 := pathsN_le M d (M.nd x).2.2 0 0
    have pd : 2 ^ d ≤ 2 ^ 9 := Nat.pow_le_pow_right (by omega) hd
    rw [e]
    generalize (pathsN M d (M.nd x).2.1 0 0).length = a at K1 l1 ⊢
    generalize (pathsN M d (M.nd x).2.2 0 0).length = c at K2 l2 ⊢
    generalize (M.nd x).2.1 = lo at KLow K1
    generalize (M.nd x).2.2 = hi at KHigh K2
    have ea : IntKind.i64.wrap ((a : Int) + (c : Int)) = ((a + c : Nat) : Int) := by rw [IntKind.wrap_i64]; omega
    have x2 : ¬ (x : Int) ≤ 1 := by omega
    have x2' : ¬ x ≤ 1 := by omega
    have e2 : ((a + c : Nat) : Int) = (a : Int) + (c : Int) := by omega
    rw [e2] at ea ⊢
    clear ih e l1 l2 pd e2
    go_enter Tryz.func33, Tryz.ntmps33
    go_wp2_with (first
      | (go_at_call 57; refine KLow.mono ?_; clear KLow; rintro e w1 ⟨rfl, e1⟩; subst w1)
      | (go_at_call 58; refine KHigh.mono ?_; clear KHigh; rintro e w1 ⟨rfl, e1⟩; subst w1)
      | (go_at_call_of 33 (Value.int .u32 (lo : Int)); refine K1.mono ?_; clear K1; rintro e w1 ⟨rfl, e1⟩; subst w1)
      | (go_at_call_of 33 (Value.int .u32 (hi : Int)); refine K2.mono ?_; clear K2; rintro e w1 ⟨rfl, e1⟩; subst w1))
    go_ret
    exact ⟨rfl, rfl⟩
theorem lpaths_any (d : Nat) (hd : d ≤ 9) : ∀ {w : World} {S x : Nat} {F0 : Nat → Prop} {M : Mdl}, St w S F0 M → M.isNode x → M.n - M.lev x ≤ d →
    Calls Tryz.prog 33 #[.pointer (some ⟨S, 0, none⟩), .int .u32 (x : Int)] w fun e w' => e = .returned (.int .i64 ((pathsN M d x 0 0).length : Int)) ∧ w' = w := by
  induction d with
  | zero =>
    intro w S x F0 M h xn hf
    have x2 := const_of h.ok xn hf
    have e : pathsN M 0 x 0 0 = pathsN M (0 + 1) x 0 0 := by
      rcases two_of x2 with rfl | rfl
      · rw [pathsN_zero, pathsN_zero]
      · rw [pathsN_one, pathsN_one]
    rw [e]
    exact lpaths_step h xn (by omega) fun xm => by have := (h.ok.range x xm).1; omega
  | succ d ih =>
    intro w S x F0 M h xn hf
    exact lpaths_step h xn (by omega) fun xm {y} yn hy => ih (by omega) h yn (by have := Mdl.lev_le h.ok yn; omega)

/-! ## A cube's table -/
def cubeV (m q n : Nat) : Nat → Bool := fun x => (List.range n).all fun v => !m.testBit v || (x.testBit v == q.testBit v)
theorem cubeV_succ (m q n x : Nat) : cubeV m q (n + 1) x = (cubeV m q n x && (!m.testBit n || (x.testBit n == q.testBit n))) := by
  unfold cubeV
  rw [List.range_succ, List.all_append]
  simp
theorem tabE {F G : Nat → Bool} (h : ∀ x, F x = G x) : F = G := funext h
set_option maxRecDepth 100000 in
set_option maxHeartbeats 4000000 in
theorem lcube_any (m q : Nat) (hm : m < 256) (hq : q < 256) (w : World) :
    Calls Tryz.prog 21 #[.int .u8 (m : Int), .int .u8 (q : Int)] w fun e w' => e = .returned (tab (cubeF m q)) ∧ Below w.heap.size w w' := by
  have B0 := nb w (.cells #[.int .u64 0, .int .u64 0, .int .u64 0, .int .u64 0] 24)
  have TZ := IsTab.zeroAt (w := w) (n := w.heap.size) rfl
  go_enter Tryz.func21, Tryz.ntmps21
  go_upto_region 1 with fail
  generalize w.alloc (.cells #[.int .u64 0, .int .u64 0, .int .u64 0, .int .u64 0] 24) = w4 at B0 TZ ⊢
  obtain ⟨b4, hb4⟩ : ∃ b, w.heap.size = b := ⟨_, rfl⟩
  have hbA : Aside (w.heap.size = b4) := hb4
  rw [hb4] at TZ ⊢
  clear hb4
  have KC := Rf.const_any true w4
  unfold tab at KC
  go_upto_region 3 with (first
    | (go_at_call 50; refine KC.mono ?_; clear KC; rintro e w5 ⟨rfl, b5⟩))
  have N6 := nb w5 (.cells #[.int .u64 (word (fun _ => true) 0 : Int), .int .u64 (word (fun _ => true) 1 : Int), .int .u64 (word (fun _ => true) 2 : Int), .int .u64 (word (fun _ => true) 3 : Int)] 24)
  have T6 := IsTab.new w5 (fun _ => true)
  have lt5 : b4 < w5.heap.size := Nat.lt_of_lt_of_le TZ.lt b5.size
  have TZ6 := kept TZ (Rf.below_far b5 N6)
  have B6 := Rf.below_far B0 (Rf.below_far b5 N6)
  generalize w5.alloc (.cells #[.int .u64 (word (fun _ => true) 0 : Int), .int .u64 (word (fun _ => true) 1 : Int), .int .u64 (word (fun _ => true) 2 : Int), .int .u64 (word (fun _ => true) 3 : Int)] 24) = w6 at N6 T6 TZ6 B6 ⊢
  generalize w5.heap.size = bf at T6 lt5 ⊢
  have hneA : Aside (b4 ≠ bf) := by show b4 ≠ bf; omega
  have hgeA : Aside (w.heap.size ≤ bf) := by have := hbA.out; show w.heap.size ≤ bf; omega
  have I0 : Aside (IsTab w6 bf (cubeV m q 0) ∧ IsTab w6 b4 (fun _ => false) ∧ Below w.heap.size w w6) := ⟨T6, TZ6, B6⟩
  clear N6 T6 TZ6 B6 TZ B0 b5 lt5
  go_loopg [6, 7] 8 (fun gg s6 _ wr => ∃ v : Nat, v + gg = 8 ∧ s6 = .int .i64 (v : Int) ∧ Aside (IsTab wr bf (cubeV m q v) ∧ IsTab wr b4 (fun _ => false) ∧ Below w.heap.size w wr))
  case atStart => exact ⟨0, rfl, rfl, I0⟩
  case round =>
    clear I0
    obtain ⟨v, hv, rfl, I⟩ := hrel
    have hV : Aside (v + gk = 8) := hv
    by_cases hlt : v < 8
    · have hlt' : (v : Int) < 8 := by omega
      have bm := bit8 m v hm hlt
      have bq := bit8 q v hq hlt
      have mv : min v 8 = v := by omega
      have hltA : Aside (v < 8) := hlt
      cases hbm : m.testBit v with
      | false =>
        rw [hbm] at bm
        simp only [Bool.false_eq_true, if_false, Int.ofNat_zero] at bm
        have e : cubeV m q (v + 1) = cubeV m q v := funext fun x => by rw [cubeV_succ, hbm]; simp
        have I' : Aside (IsTab wr bf (cubeV m q (v + 1)) ∧ IsTab wr b4 (fun _ => false) ∧ Below w.heap.size w wr) := by rw [e]; exact I
        clear hbm bq I e hv hlt
        go_wp2_with fail
        go_roundg (gk - 1)
        case measure => have := hV.out; have := hltA.out; omega
        case rel =>
          have := hV.out
          have := hltA.out
          exact ⟨v + 1, by omega, by go_num, I'⟩
      | true =>
        rw [hbm] at bm
        simp only [if_true] at bm
        have KV := Rf.var_any v hlt wr
        unfold tab at KV
        obtain ⟨T, TZ, B⟩ := I.out
        clear I
        go_upto_region 7 with (first
          | (go_at_call 35; refine KV.mono ?_; clear KV; rintro e w7 ⟨rfl, b7⟩))
        have N8 := nb w7 (.cells #[.int .u64 (word (Rf.M v) 0 : Int), .int .u64 (word (Rf.M v) 1 : Int), .int .u64 (word (Rf.M v) 2 : Int), .int .u64 (word (Rf.M v) 3 : Int)] 24)
        have TX := IsTab.new w7 (Rf.M v)
        have T8 := kept T (Rf.below_far b7 N8)
        have TZ8 := kept TZ (Rf.below_far b7 N8)
        have B8 := Rf.below_far B (Rf.below_far b7 N8)
        have ltx : bf < w7.heap.size ∧ b4 < w7.heap.size ∧ w.heap.size ≤ w7.heap.size := ⟨Nat.lt_of_lt_of_le T.lt b7.size, Nat.lt_of_lt_of_le TZ.lt b7.size, Nat.le_trans B.size b7.size⟩
        generalize w7.alloc (.cells #[.int .u64 (word (Rf.M v) 0 : Int), .int .u64 (word (Rf.M v) 1 : Int), .int .u64 (word (Rf.M v) 2 : Int), .int .u64 (word (Rf.M v) 3 : Int)] 24) = w8 at TX T8 TZ8 B8 N8 ⊢
        generalize w7.heap.size = bx at TX ltx ⊢
        have ltA : Aside (bf < bx ∧ b4 < bx ∧ w.heap.size ≤ bx) := ltx
        clear T TZ B b7 N8 ltx
        cases hbq : q.testBit v with
        | true =>
          rw [hbq] at bq
          simp only [if_true] at bq
          have e : (fun x => cubeV m q v x && Rf.M v x) = cubeV m q (v + 1) := funext fun x => by rw [cubeV_succ, hbm, hbq, ← Rf.M_bit]; simp
          have eA : Aside ((fun x => cubeV m q v x && Rf.M v x) = cubeV m q (v + 1)) := e
          obtain ⟨x0, x1, x2, x3⟩ := TX.copy
          obtain ⟨t0, t1, t2, t3⟩ := T8.copy
          have KA := Rf.and_any (cubeV m q v) (Rf.M v) w8
          unfold tab at KA
          clear hbm hbq e
          go_wp2_with (first
            | (go_at_call 28; refine KA.mono ?_; clear KA; rintro e w9 ⟨rfl, b9⟩; have T9 := kept T8 b9; have y0 := T9.cell (k := 0) (by decide); have y1 := T9.cell (k := 1) (by decide); have y2 := T9.cell (k := 2) (by decide); have y3 := T9.cell (k := 3) (by decide); have z0 := T9.free 0; have z1 := T9.free 1; have z2 := T9.free 2; have z3 := T9.free 3))
          go_roundg (gk - 1)
          case measure => have := hV.out; have := hltA.out; omega
          case rel =>
            have := hV.out
            have := hltA.out
            have B9 := Rf.below_far B8 b9
            refine ⟨v + 1, by omega, by go_num, ?_⟩
            rw [← eA.out]
            exact ⟨Rf.laid_tab T9 _, (Rf.laid_turned _ _ _).tab (kept TZ8 b9) hneA.out, B9.trans ((Rf.laid_turned _ _ _).below B9.size hgeA.out)⟩
        | false =>
          rw [hbq] at bq
          simp only [Bool.false_eq_true, if_false, Int.ofNat_zero] at bq
          have e : (fun x => cubeV m q v x && !Rf.M v x) = cubeV m q (v + 1) := funext fun x => by rw [cubeV_succ, hbm, hbq, ← Rf.M_bit]; simp
          have eA : Aside ((fun x => cubeV m q v x && !Rf.M v x) = cubeV m q (v + 1)) := e
          obtain ⟨x0, x1, x2, x3⟩ := TX.copy
          have KN := Rf.not_any (Rf.M v) w8
          unfold tab at KN
          clear hbm hbq e
          go_upto_region 9 with (first
            | (go_at_call 32; refine KN.mono ?_; clear KN; rintro e w9 ⟨rfl, b9⟩; have T9 := kept TX b9; have y0 := T9.cell (k := 0) (by decide); have y1 := T9.cell (k := 1) (by decide); have y2 := T9.cell (k := 2) (by decide); have y3 := T9.cell (k := 3) (by decide); have z0 := T9.free 0; have z1 := T9.free 1; have z2 := T9.free 2; have z3 := T9.free 3))
          have TN := Rf.laid_tab T9 (fun x => !Rf.M v x)
          have tu := Rf.laid_turned w9 bx (fun x => !Rf.M v x)
          have TF9 := tu.tab (kept T8 b9) (by have := ltA.out; omega)
          have TZ9 := tu.tab (kept TZ8 b9) (by have := ltA.out; omega)
          have B9 : Aside (Below w.heap.size w (Rf.laid w9 bx (fun x => !Rf.M v x))) := (Rf.below_far B8 b9).trans (tu.below (Rf.below_far B8 b9).size ltA.out.2.2)
          clear y0 y1 y2 y3 z0 z1 z2 z3 x0 x1 x2 x3 T9 tu
          unfold Rf.laid at TN TF9 TZ9 B9
          generalize (((w9.setCell ⟨bx, 0, none⟩ (.int .u64 (word (fun x => !Rf.M v x) 0 : Int))).setCell ⟨bx, 1, none⟩ (.int .u64 (word (fun x => !Rf.M v x) 1 : Int))).setCell ⟨bx, 2, none⟩ (.int .u64 (word (fun x => !Rf.M v x) 2 : Int))).setCell ⟨bx, 3, none⟩ (.int .u64 (word (fun x => !Rf.M v x) 3 : Int)) = wa at TN TF9 TZ9 B9 ⊢
          obtain ⟨x0, x1, x2, x3⟩ := TN.copy
          obtain ⟨t0, t1, t2, t3⟩ := TF9.copy
          have KA := Rf.and_any (cubeV m q v) (fun x => !Rf.M v x) wa
          unfold tab at KA
          go_wp2_with (first
            | (go_at_call 28; refine KA.mono ?_; clear KA; rintro e wb ⟨rfl, bb⟩; have T9 := kept TF9 bb; have y0 := T9.cell (k := 0) (by decide); have y1 := T9.cell (k := 1) (by decide); have y2 := T9.cell (k := 2) (by decide); have y3 := T9.cell (k := 3) (by decide); have z0 := T9.free 0; have z1 := T9.free 1; have z2 := T9.free 2; have z3 := T9.free 3))
          go_roundg (gk - 1)
          case measure => have := hV.out; have := hltA.out; omega
          case rel =>
            have := hV.out
            have := hltA.out
            have Bb := Rf.below_far B9.out bb
            refine ⟨v + 1, by omega, by go_num, ?_⟩
            rw [← eA.out]
            exact ⟨Rf.laid_tab T9 _, (Rf.laid_turned _ _ _).tab (kept TZ9 bb) hneA.out, Bb.trans ((Rf.laid_turned _ _ _).below Bb.size hgeA.out)⟩
    · obtain rfl : v = 8 := by have := hV.out; omega
      obtain ⟨T, TZ, B⟩ := I.out
      have T' : IsTab wr bf (cubeF m q) := T
      obtain ⟨t0, t1, t2, t3⟩ := T'.copy
      have y0 := TZ.cell (k := 0) (by decide)
      have y1 := TZ.cell (k := 1) (by decide)
      have y2 := TZ.cell (k := 2) (by decide)
      have y3 := TZ.cell (k := 3) (by decide)
      have z0 := TZ.free 0
      have z1 := TZ.free 1
      have z2 := TZ.free 2
      have z3 := TZ.free 3
      have ge : Aside (w.heap.size ≤ b4) := Nat.le_of_eq hbA.out
      clear hv hlt
      go_wp2_with fail
      exact bodyPost_ret (Rf.results_tab rfl rfl (Rf.laid_tab TZ _)) rfl ⟨rfl, B.trans ((Rf.laid_turned _ _ _).below B.size ge.out)⟩
end Go.Proofs.YtfaccdnnjkkcfaaGreatDoor
