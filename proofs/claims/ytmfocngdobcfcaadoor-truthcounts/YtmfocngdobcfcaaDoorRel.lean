/-
  What the reference's Compose, Next and Prev return.
-/
import Derived.Test.YtmfocngdobcfcaaDoorMoreb
namespace Go.Proofs.YtmfocngdobcfcaaDoor
open Go Go.RowKit

theorem compose_none (F G : Nat → Bool) (v : Int) (hv : v < 0 ∨ 8 ≤ v) (w : World) :
    Calls Tryd.prog 35 #[tab F, .int .i64 v, tab G] w fun e w' => e = .returned (tab F) ∧ Below w.heap.size w w' := by
  conv in #[tab F, Value.int IntKind.i64 v, tab G] => unfold tab
  go_enter Tryd.func35, Tryd.ntmps35
  go_wp2_with fail
  all_goals exact bodyPost_ret (results_tab rfl rfl (IsTab.newAt (by simp) F)) rfl ⟨rfl, (((Below.refl _ w).alloc (Nat.le_refl _) _).alloc (by simp) _).alloc (by simp; omega) _⟩

set_option maxHeartbeats 800000 in
theorem compose_any (F G : Nat → Bool) (v : Nat) (hv : v < 8) (w : World) :
    Calls Tryd.prog 35 #[tab F, .int .i64 (v : Int), tab G] w fun e w' => e = .returned (tab (fun x => (G x && fixF F v true x) || (!G x && fixF F v false x))) ∧ Below w.heap.size w w' := by
  have hd : decide ((8 : Int) ≤ (v : Int)) = false := by simp; omega
  conv in #[tab F, Value.int IntKind.i64 (v : Int), tab G] => unfold tab
  go_enter Tryd.func35, Tryd.ntmps35
  go_wp2_with fail
  have TF := (((IsTab.new w F).alloc (.cells #[.int .u64 (word G 0 : Int), .int .u64 (word G 1 : Int), .int .u64 (word G 2 : Int), .int .u64 (word G 3 : Int)] 24)).alloc (.cells #[.int .u64 0, .int .u64 0, .int .u64 0, .int .u64 0] 24))
  have TG := ((IsTab.newAt (w := (w.alloc (.cells #[.int .u64 (word F 0 : Int), .int .u64 (word F 1 : Int), .int .u64 (word F 2 : Int), .int .u64 (word F 3 : Int)] 24))) (n := w.heap.size + 1) (by simp) G).alloc (.cells #[.int .u64 0, .int .u64 0, .int .u64 0, .int .u64 0] 24))
  have TZ := (IsTab.zeroAt (w := ((w.alloc (.cells #[.int .u64 (word F 0 : Int), .int .u64 (word F 1 : Int), .int .u64 (word F 2 : Int), .int .u64 (word F 3 : Int)] 24)).alloc (.cells #[.int .u64 (word G 0 : Int), .int .u64 (word G 1 : Int), .int .u64 (word G 2 : Int), .int .u64 (word G 3 : Int)] 24))) (n := w.heap.size + 2) (by simp))
  have B0 := ((((Below.refl _ w).alloc (Nat.le_refl _) (.cells #[.int .u64 (word F 0 : Int), .int .u64 (word F 1 : Int), .int .u64 (word F 2 : Int), .int .u64 (word F 3 : Int)] 24)).alloc (by simp) (.cells #[.int .u64 (word G 0 : Int), .int .u64 (word G 1 : Int), .int .u64 (word G 2 : Int), .int .u64 (word G 3 : Int)] 24)).alloc (by simp; omega) (.cells #[.int .u64 0, .int .u64 0, .int .u64 0, .int .u64 0] 24))
  generalize (((w.alloc (.cells #[.int .u64 (word F 0 : Int), .int .u64 (word F 1 : Int), .int .u64 (word F 2 : Int), .int .u64 (word F 3 : Int)] 24)).alloc (.cells #[.int .u64 (word G 0 : Int), .int .u64 (word G 1 : Int), .int .u64 (word G 2 : Int), .int .u64 (word G 3 : Int)] 24)).alloc (.cells #[.int .u64 0, .int .u64 0, .int .u64 0, .int .u64 0] 24)) = w4 at TF TG B0 TZ ⊢
  have lF0 : ∀ u, Sit w4 (w.heap.size + 2) u → u.cell? ⟨w.heap.size, 0, none⟩ = some (.int .u64 (word F 0 : Int)) := fun u s => s.cell TF (by omega) (by decide)
  have lF1 : ∀ u, Sit w4 (w.heap.size + 2) u → u.cell? ⟨w.heap.size, 1, none⟩ = some (.int .u64 (word F 1 : Int)) := fun u s => s.cell TF (by omega) (by decide)
  have lF2 : ∀ u, Sit w4 (w.heap.size + 2) u → u.cell? ⟨w.heap.size, 2, none⟩ = some (.int .u64 (word F 2 : Int)) := fun u s => s.cell TF (by omega) (by decide)
  have lF3 : ∀ u, Sit w4 (w.heap.size + 2) u → u.cell? ⟨w.heap.size, 3, none⟩ = some (.int .u64 (word F 3 : Int)) := fun u s => s.cell TF (by omega) (by decide)
  have lG0 : ∀ u, Sit w4 (w.heap.size + 2) u → u.cell? ⟨w.heap.size + 1, 0, none⟩ = some (.int .u64 (word G 0 : Int)) := fun u s => s.cell TG (by omega) (by decide)
  have lG1 : ∀ u, Sit w4 (w.heap.size + 2) u → u.cell? ⟨w.heap.size + 1, 1, none⟩ = some (.int .u64 (word G 1 : Int)) := fun u s => s.cell TG (by omega) (by decide)
  have lG2 : ∀ u, Sit w4 (w.heap.size + 2) u → u.cell? ⟨w.heap.size + 1, 2, none⟩ = some (.int .u64 (word G 2 : Int)) := fun u s => s.cell TG (by omega) (by decide)
  have lG3 : ∀ u, Sit w4 (w.heap.size + 2) u → u.cell? ⟨w.heap.size + 1, 3, none⟩ = some (.int .u64 (word G 3 : Int)) := fun u s => s.cell TG (by omega) (by decide)
  have r0 : ∀ u, Sit w4 (w.heap.size + 2) u → u.cell? ⟨w.heap.size + 2, 0, none⟩ = some (valAt u (w.heap.size + 2) 0) := fun u s => s.place (by decide)
  have r1 : ∀ u, Sit w4 (w.heap.size + 2) u → u.cell? ⟨w.heap.size + 2, 1, none⟩ = some (valAt u (w.heap.size + 2) 1) := fun u s => s.place (by decide)
  have r2 : ∀ u, Sit w4 (w.heap.size + 2) u → u.cell? ⟨w.heap.size + 2, 2, none⟩ = some (valAt u (w.heap.size + 2) 2) := fun u s => s.place (by decide)
  have r3 : ∀ u, Sit w4 (w.heap.size + 2) u → u.cell? ⟨w.heap.size + 2, 3, none⟩ = some (valAt u (w.heap.size + 2) 3) := fun u s => s.place (by decide)
  have rf : ∀ k u, Sit w4 (w.heap.size + 2) u → u.frozen? ⟨w.heap.size + 2, k, none⟩ = false := fun k u s => s.free k
  go_region_held3 (fun u => Sit w4 (w.heap.size + 2) u) (first | exact Sit.start TZ | exact Sit.call (by assumption) (by assumption) | exact Sit.laid (by assumption) _) (first
    | (go_at_call_of 27 (Value.bool true); refine (fix_any F v hv true _).mono ?_; rintro e w6 ⟨rfl, b6⟩)
    | (go_at_call_of 27 (Value.bool false); refine (fix_any F v hv false _).mono ?_; rintro e w6 ⟨rfl, b6⟩)
    | (go_at_call 23; refine (ite_any G (fixF F v true) (fixF F v false) _).mono ?_; unfold tab; rintro e w6 ⟨rfl, b6⟩))
  have S6 : Sit w4 (w.heap.size + 2) w6 := Sit.call b6 (Sit.call (by assumption) (Sit.call (by assumption) (Sit.start TZ)))
  obtain ⟨F', hF'⟩ := S6.room
  go_wp2_with fail
  exact bodyPost_ret (results_tab rfl rfl (laid_tab hF' _)) rfl ⟨rfl, B0.trans ((S6.laid _).turned.below B0.size (by omega))⟩
theorem half_at (z : Int) (x : Nat) (hz : z = (x : Int)) (hx : x < 256) (w : World) :
    Calls Tryd.prog 52 #[.int .i64 z] w fun e w' => e = .returned (.int .i64 (halfN x : Int)) ∧ w' = w := by
  subst hz
  exact half_any x hx w

theorem odd_set {w : World} {b : Nat} {f : Nat → Bool} (h : w.rowIs b 56 16 (fun i => .bool (f i))) (j : Nat) : (w.setCell ⟨b, j, none⟩ (.bool true)).rowIs b 56 16 (fun i => .bool (f i || decide (i = j))) :=
  (h.set j (.bool true)).congr fun i _ => by by_cases e : i = j <;> simp [e]

set_option maxHeartbeats 1600000 in
theorem next_any (F G : Nat → Bool) (w : World) :
    Calls Tryd.prog 37 #[tab F, tab G] w fun e w' => e = .returned (tab (nextF F G)) ∧ Below w.heap.size w w' := by
  have R : Hid (tab (nextF F G) = tab (fun y => decide (y < 256) && nextF F G y)) := (tab_ext fun y hy => upto_all (nextF F G) y hy).symm
  rw [R.out]
  clear R
  conv in #[tab F, tab G] => unfold tab
  go_enter Tryd.func37, Tryd.ntmps37
  go_wp2_with fail
  have TF := (((IsTab.new w F).alloc (.cells #[.int .u64 (word G 0 : Int), .int .u64 (word G 1 : Int), .int .u64 (word G 2 : Int), .int .u64 (word G 3 : Int)] 24)).alloc (.cells #[.int .u64 0, .int .u64 0, .int .u64 0, .int .u64 0] 24)).alloc (.cells #[.bool false, .bool false, .bool false, .bool false, .bool false, .bool false, .bool false, .bool false, .bool false, .bool false, .bool false, .bool false, .bool false, .bool false, .bool false, .bool false] 56)
  have TG := ((IsTab.newAt (w := (w.alloc (.cells #[.int .u64 (word F 0 : Int), .int .u64 (word F 1 : Int), .int .u64 (word F 2 : Int), .int .u64 (word F 3 : Int)] 24))) (n := w.heap.size + 1) (by simp) G).alloc (.cells #[.int .u64 0, .int .u64 0, .int .u64 0, .int .u64 0] 24)).alloc (.cells #[.bool false, .bool false, .bool false, .bool false, .bool false, .bool false, .bool false, .bool false, .bool false, .bool false, .bool false, .bool false, .bool false, .bool false, .bool false, .bool false] 56)
  have TZ := (IsTab.zeroAt (w := ((w.alloc (.cells #[.int .u64 (word F 0 : Int), .int .u64 (word F 1 : Int), .int .u64 (word F 2 : Int), .int .u64 (word F 3 : Int)] 24)).alloc (.cells #[.int .u64 (word G 0 : Int), .int .u64 (word G 1 : Int), .int .u64 (word G 2 : Int), .int .u64 (word G 3 : Int)] 24))) (n := w.heap.size + 2) (by simp)).alloc (.cells #[.bool false, .bool false, .bool false, .bool false, .bool false, .bool false, .bool false, .bool false, .bool false, .bool false, .bool false, .bool false, .bool false, .bool false, .bool false, .bool false] 56)
  have TO : ((((w.alloc (.cells #[.int .u64 (word F 0 : Int), .int .u64 (word F 1 : Int), .int .u64 (word F 2 : Int), .int .u64 (word F 3 : Int)] 24)).alloc (.cells #[.int .u64 (word G 0 : Int), .int .u64 (word G 1 : Int), .int .u64 (word G 2 : Int), .int .u64 (word G 3 : Int)] 24)).alloc (.cells #[.int .u64 0, .int .u64 0, .int .u64 0, .int .u64 0] 24)).alloc (.cells #[.bool false, .bool false, .bool false, .bool false, .bool false, .bool false, .bool false, .bool false, .bool false, .bool false, .bool false, .bool false, .bool false, .bool false, .bool false, .bool false] 56)).rowIs (w.heap.size + 3) 56 16 (fun i => .bool (oddUpto F G 0 i)) := by
    have h := World.rowIs_alloc (((w.alloc (.cells #[.int .u64 (word F 0 : Int), .int .u64 (word F 1 : Int), .int .u64 (word F 2 : Int), .int .u64 (word F 3 : Int)] 24)).alloc (.cells #[.int .u64 (word G 0 : Int), .int .u64 (word G 1 : Int), .int .u64 (word G 2 : Int), .int .u64 (word G 3 : Int)] 24)).alloc (.cells #[.int .u64 0, .int .u64 0, .int .u64 0, .int .u64 0] 24)) #[.bool false, .bool false, .bool false, .bool false, .bool false, .bool false, .bool false, .bool false, .bool false, .bool false, .bool false, .bool false, .bool false, .bool false, .bool false, .bool false] 56 (fun _ => .bool false) (fun i hi => by
      have : i < 16 := by simpa using hi
      show (Array.replicate 16 (Value.bool false))[i]? = some (.bool false)
      rw [Array.getElem?_replicate, if_pos this])
    rw [show (((w.alloc (.cells #[.int .u64 (word F 0 : Int), .int .u64 (word F 1 : Int), .int .u64 (word F 2 : Int), .int .u64 (word F 3 : Int)] 24)).alloc (.cells #[.int .u64 (word G 0 : Int), .int .u64 (word G 1 : Int), .int .u64 (word G 2 : Int), .int .u64 (word G 3 : Int)] 24)).alloc (.cells #[.int .u64 0, .int .u64 0, .int .u64 0, .int .u64 0] 24)).heap.size = w.heap.size + 3 by simp] at h
    exact h
  have B0 := ((((Below.refl _ w).alloc (Nat.le_refl _) (.cells #[.int .u64 (word F 0 : Int), .int .u64 (word F 1 : Int), .int .u64 (word F 2 : Int), .int .u64 (word F 3 : Int)] 24)).alloc (by simp) (.cells #[.int .u64 (word G 0 : Int), .int .u64 (word G 1 : Int), .int .u64 (word G 2 : Int), .int .u64 (word G 3 : Int)] 24)).alloc (by simp; omega) (.cells #[.int .u64 0, .int .u64 0, .int .u64 0, .int .u64 0] 24)).alloc (by simp; omega) (.cells #[.bool false, .bool false, .bool false, .bool false, .bool false, .bool false, .bool false, .bool false, .bool false, .bool false, .bool false, .bool false, .bool false, .bool false, .bool false, .bool false] 56)
  generalize ((((w.alloc (.cells #[.int .u64 (word F 0 : Int), .int .u64 (word F 1 : Int), .int .u64 (word F 2 : Int), .int .u64 (word F 3 : Int)] 24)).alloc (.cells #[.int .u64 (word G 0 : Int), .int .u64 (word G 1 : Int), .int .u64 (word G 2 : Int), .int .u64 (word G 3 : Int)] 24)).alloc (.cells #[.int .u64 0, .int .u64 0, .int .u64 0, .int .u64 0] 24)).alloc (.cells #[.bool false, .bool false, .bool false, .bool false, .bool false, .bool false, .bool false, .bool false, .bool false, .bool false, .bool false, .bool false, .bool false, .bool false, .bool false, .bool false] 56)) = w4 at TF TG TZ TO B0 ⊢
  go_loopg [6] 256 (fun g si wr => ∃ k : Nat, k + g = 256 ∧ si = .int .i64 (k : Int) ∧ wr.rowIs (w.heap.size + 3) 56 16 (fun i => .bool (oddUpto F G k i)) ∧ IsTab wr w.heap.size F ∧ IsTab wr (w.heap.size + 1) G ∧ IsTab wr (w.heap.size + 2) (fun _ => false) ∧ Below w.heap.size w wr)
  case atStart => exact ⟨0, by omega, rfl, TO, TF, TG, TZ, B0⟩
  case round =>
    obtain ⟨k, hk, rfl, hO, hF, hG, hZ, hB⟩ := hrel
    have hK : Aside (k + gk = 256) := hk
    clear hk
    by_cases hk9 : k < 256
    · have hk9' : (k : Int) < 256 := by omega
      have hw : IntKind.u8.wrap (k : Int) = (k : Int) := by rw [IntKind.wrap_u8]; omega
      obtain ⟨c0, c1, c2, c3⟩ := hF.copy
      cases hf : F k with
      | false =>
        have hf' : Aside (F k = false) := hf
        clear hf
        go_wp2_with (first
          | (go_at_call_of 25 (Value.int IntKind.u64 (word F 0 : Int)); refine (eval_any F k hk9 _).mono ?_; rw [hf'.out]; rintro e w6 ⟨rfl, b6⟩))
        go_roundg (gk - 1)
        case measure => have := hK.out; omega
        case rel =>
          have := hK.out
          exact ⟨k + 1, by omega, rfl, (hO.of_block (b6.block _ hO.lt)).congr fun i _ => by rw [oddUpto, hf'.out]; simp, hF.kept b6, hG.kept b6, hZ.kept b6, below_far hB b6⟩
      | true =>
        have hf' : Aside (F k = true) := hf
        clear hf
        obtain ⟨y, hy⟩ : ∃ y, G k = y := ⟨_, rfl⟩
        have hg' : Aside (G k = y) := hy
        clear hy
        have hh := halfN_lt (k / 2)
        have hS : Aside (∀ i, oddUpto F G (k + 1) i = (oddUpto F G k i || (y && decide (i = halfN (k / 2))))) := fun i => by rw [oddUpto, hf'.out, hg'.out]; simp
        cases y with
        | false =>
          go_wp2_with (first
            | (go_at_call_of 25 (Value.int IntKind.u64 (word F 0 : Int)); refine (eval_any F k hk9 _).mono ?_; rw [hf'.out]; rintro e w6 ⟨rfl, b6⟩; have G6 := hG.kept b6; obtain ⟨d0, d1, d2, d3⟩ := G6.copy)
            | (go_at_call 25; refine (eval_any G k hk9 _).mono ?_; rw [hg'.out]; rintro e w7 ⟨rfl, b7⟩))
          go_roundg (gk - 1)
          case measure => have := hK.out; omega
          case rel =>
            have := hK.out
            have b9 := below_far b6 b7
            exact ⟨k + 1, by omega, rfl, (hO.of_block (b9.block _ hO.lt)).congr fun i _ => by rw [hS.out]; simp, hF.kept b9, hG.kept b9, hZ.kept b9, below_far hB b9⟩
        | true =>
          generalize hj : halfN (k / 2) = j at hh hS
          have hj' : Aside (halfN (k / 2) = j) := hj
          clear hj
          have hh' : (j : Int) < 16 := by omega
          go_wp2_with (first
            | (go_at_call_of 25 (Value.int IntKind.u64 (word F 0 : Int)); refine (eval_any F k hk9 _).mono ?_; rw [hf'.out]; rintro e w6 ⟨rfl, b6⟩; have G6 := hG.kept b6; obtain ⟨d0, d1, d2, d3⟩ := G6.copy)
            | (go_at_call 25; refine (eval_any G k hk9 _).mono ?_; rw [hg'.out]; rintro e w7 ⟨rfl, b7⟩; have b9 := below_far b6 b7; have O7 := hO.of_block (b9.block _ hO.lt); have o7 := O7.cell hh; have of7 := O7.frozen j)
            | (go_at_call 52; refine (half_at _ (k / 2) (by omega) (by omega) _).mono ?_; rw [hj'.out]; rintro e w8 ⟨rfl, rfl⟩))
          go_roundg (gk - 1)
          case measure => have := hK.out; omega
          case rel =>
            have := hK.out
            exact ⟨k + 1, by omega, rfl, (odd_set O7 j).congr fun i _ => by rw [hS.out]; simp, (hF.kept b9).other (by simp <;> omega) _, (hG.kept b9).other (by simp <;> omega) _, (hZ.kept b9).other (by simp <;> omega) _, (below_far hB b9).setCell (by simp; omega) _⟩
    · obtain rfl : k = 256 := by have := hK.out; omega
      go_wp2_with fail
      have hN : Aside (nextF F G = fun x => oddUpto F G 256 (halfN x)) := rfl
      have O5 := hO.alloc (.cells #[.int .u64 0, .int .u64 0, .int .u64 0, .int .u64 0] 24)
      have Z5 := hZ.alloc (.cells #[.int .u64 0, .int .u64 0, .int .u64 0, .int .u64 0] 24)
      have T5 := IsTab.zeroAt (w := wr) (n := wr.heap.size) rfl
      have B5 := hB.alloc hB.size (.cells #[.int .u64 0, .int .u64 0, .int .u64 0, .int .u64 0] 24)
      have hn1 : Aside (w.heap.size + 3 < wr.heap.size) := hO.lt
      generalize oddUpto F G 256 = od at hN O5
      generalize wr.alloc (.cells #[.int .u64 0, .int .u64 0, .int .u64 0, .int .u64 0] 24) = w5 at O5 Z5 T5 B5 ⊢
      generalize wr.heap.size = n4 at T5 hn1 ⊢
      go_loopg [8] 256 (fun g si ws => ∃ k : Nat, k + g = 256 ∧ si = .int .i64 (k : Int) ∧ IsTab ws n4 (fun y => decide (y < k) && nextF F G y) ∧ ws.rowIs (w.heap.size + 3) 56 16 (fun i => .bool (od i)) ∧ IsTab ws (w.heap.size + 2) (fun _ => false) ∧ Below w.heap.size w ws)
      case atStart => exact ⟨0, by omega, rfl, T5.ext fun y _ => by simp, O5, Z5, B5⟩
      case round =>
        obtain ⟨k, hk, rfl, hT, hO, hZ, hB⟩ := hrel
        have hK : Aside (k + gk = 256) := hk
        clear hk
        by_cases hk9 : k < 256
        · have hk9' : (k : Int) < 256 := by omega
          have hw : IntKind.u8.wrap (k : Int) = (k : Int) := by rw [IntKind.wrap_u8]; omega
          have hh := halfN_lt k
          have hv : Aside (nextF F G k = od (halfN k)) := by simp only [Aside]; rw [hN.out]
          have o7 := hO.cell hh
          obtain ⟨j, hj⟩ : ∃ j, halfN k = j := ⟨_, rfl⟩
          have hj' : Aside (halfN k = j) := hj
          simp only [Aside] at hv
          rw [hj] at hh hv o7
          clear hj
          have hh' : (j : Int) < 16 := by omega
          have hS := upto_step (nextF F G) k
          rw [hv] at hS
          generalize od j = m at o7 hS
          have hS' : Aside (∀ y, (decide (y < k) && nextF F G y || decide (y = k) && m) = (decide (y < k + 1) && nextF F G y)) := hS
          clear hS hv
          go_wp2_with (first
            | (go_at_call 52; refine (half_any k hk9 _).mono ?_; rw [hj'.out]; rintro e w8 ⟨rfl, rfl⟩)
            | (go_at_call 48; refine (set_any n4 _ k hk9 m _ hT).mono ?_; rintro e w6 ⟨rfl, h6, t6⟩))
          go_roundg (gk - 1)
          case measure => have := hK.out; omega
          case rel =>
            have hk := hK.out
            have hn := hn1.out
            exact ⟨k + 1, by omega, rfl, h6.ext fun y _ => hS'.out y, hO.of_block (t6.block _ hO.lt (by omega)), t6.tab hZ (by omega), hB.trans (t6.below hB.size (by omega))⟩
        · obtain rfl : k = 256 := by have := hK.out; omega
          obtain ⟨c0, c1, c2, c3⟩ := hT.copy
          obtain ⟨z0, z1, z2, z3⟩ := hZ.copy
          have y0 := hZ.free 0
          have y1 := hZ.free 1
          have y2 := hZ.free 2
          have y3 := hZ.free 3
          go_wp2_with fail
          exact bodyPost_ret (results_tab rfl rfl (laid_tab hZ _)) rfl ⟨rfl, hB.trans ((laid_turned _ _ _).below hB.size (by omega))⟩

set_option maxHeartbeats 3200000 in
theorem prev_any (F G : Nat → Bool) (w : World) :
    Calls Tryd.prog 39 #[tab F, tab G] w fun e w' => e = .returned (tab (prevF F G)) ∧ Below w.heap.size w w' := by
  have R : Hid (tab (prevF F G) = tab (fun y => decide (y < 256) && prevF F G y)) := (tab_ext fun y hy => upto_all (prevF F G) y hy).symm
  rw [R.out]
  clear R
  conv in #[tab F, tab G] => unfold tab
  go_enter Tryd.func39, Tryd.ntmps39
  go_wp2_with fail
  have TF := ((((IsTab.new w F).alloc (.cells #[.int .u64 (word G 0 : Int), .int .u64 (word G 1 : Int), .int .u64 (word G 2 : Int), .int .u64 (word G 3 : Int)] 24)).alloc (.cells #[.int .u64 0, .int .u64 0, .int .u64 0, .int .u64 0] 24)).alloc (.cells #[.int .u64 0, .int .u64 0, .int .u64 0, .int .u64 0] 24))
  have TG := (((IsTab.newAt (w := (w.alloc (.cells #[.int .u64 (word F 0 : Int), .int .u64 (word F 1 : Int), .int .u64 (word F 2 : Int), .int .u64 (word F 3 : Int)] 24))) (n := w.heap.size + 1) (by simp) G).alloc (.cells #[.int .u64 0, .int .u64 0, .int .u64 0, .int .u64 0] 24)).alloc (.cells #[.int .u64 0, .int .u64 0, .int .u64 0, .int .u64 0] 24))
  have TZ := ((IsTab.zeroAt (w := ((w.alloc (.cells #[.int .u64 (word F 0 : Int), .int .u64 (word F 1 : Int), .int .u64 (word F 2 : Int), .int .u64 (word F 3 : Int)] 24)).alloc (.cells #[.int .u64 (word G 0 : Int), .int .u64 (word G 1 : Int), .int .u64 (word G 2 : Int), .int .u64 (word G 3 : Int)] 24))) (n := w.heap.size + 2) (by simp)).alloc (.cells #[.int .u64 0, .int .u64 0, .int .u64 0, .int .u64 0] 24))
  have TZ1 := (IsTab.zeroAt (w := (((w.alloc (.cells #[.int .u64 (word F 0 : Int), .int .u64 (word F 1 : Int), .int .u64 (word F 2 : Int), .int .u64 (word F 3 : Int)] 24)).alloc (.cells #[.int .u64 (word G 0 : Int), .int .u64 (word G 1 : Int), .int .u64 (word G 2 : Int), .int .u64 (word G 3 : Int)] 24)).alloc (.cells #[.int .u64 0, .int .u64 0, .int .u64 0, .int .u64 0] 24))) (n := w.heap.size + 3) (by simp))
  have B0 := (((((Below.refl _ w).alloc (Nat.le_refl _) (.cells #[.int .u64 (word F 0 : Int), .int .u64 (word F 1 : Int), .int .u64 (word F 2 : Int), .int .u64 (word F 3 : Int)] 24)).alloc (by simp) (.cells #[.int .u64 (word G 0 : Int), .int .u64 (word G 1 : Int), .int .u64 (word G 2 : Int), .int .u64 (word G 3 : Int)] 24)).alloc (by simp; omega) (.cells #[.int .u64 0, .int .u64 0, .int .u64 0, .int .u64 0] 24)).alloc (by simp; omega) (.cells #[.int .u64 0, .int .u64 0, .int .u64 0, .int .u64 0] 24))
  generalize ((((w.alloc (.cells #[.int .u64 (word F 0 : Int), .int .u64 (word F 1 : Int), .int .u64 (word F 2 : Int), .int .u64 (word F 3 : Int)] 24)).alloc (.cells #[.int .u64 (word G 0 : Int), .int .u64 (word G 1 : Int), .int .u64 (word G 2 : Int), .int .u64 (word G 3 : Int)] 24)).alloc (.cells #[.int .u64 0, .int .u64 0, .int .u64 0, .int .u64 0] 24)).alloc (.cells #[.int .u64 0, .int .u64 0, .int .u64 0, .int .u64 0] 24)) = w4 at TF TG B0 TZ TZ1 ⊢
  go_loopg [6] 256 (fun g si wr => ∃ x : Nat, x + g = 256 ∧ si = .int .i64 (x : Int) ∧ IsTab wr (w.heap.size + 3) (fun y => decide (y < x) && prevF F G y) ∧ IsTab wr w.heap.size F ∧ IsTab wr (w.heap.size + 1) G ∧ IsTab wr (w.heap.size + 2) (fun _ => false) ∧ Below w.heap.size w wr)
  case atStart => exact ⟨0, by omega, rfl, TZ1.ext fun y _ => by simp, TF, TG, TZ, B0⟩
  case round =>
    obtain ⟨x, hx, rfl, hT, hF, hG, hZ, hB⟩ := hrel
    have hX : Aside (x + gk = 256) := hx
    clear hx
    by_cases hx9 : x < 256
    · have hx9' : (x : Int) < 256 := by omega
      have hwx : IntKind.u8.wrap (x : Int) = (x : Int) := by rw [IntKind.wrap_u8]; omega
      obtain ⟨q, hq0⟩ : ∃ q, halfN x = q := ⟨_, rfl⟩
      have hq : Aside (halfN x = q) := hq0
      clear hq0
      go_wp2_with fail
      go_loopg [7, 8] 256 (fun g so sy ws => ∃ y : Nat, y + g = 256 ∧ sy = .int .i64 (y : Int) ∧ so = .bool (prUpto F G x y) ∧ IsTab ws (w.heap.size + 3) (fun y => decide (y < x) && prevF F G y) ∧ IsTab ws w.heap.size F ∧ IsTab ws (w.heap.size + 1) G ∧ IsTab ws (w.heap.size + 2) (fun _ => false) ∧ Below w.heap.size w ws)
      case atStart => exact ⟨0, by omega, rfl, rfl, hT, hF, hG, hZ, hB⟩
      case round =>
        clear hT hF hG hZ hB
        obtain ⟨y, hy, rfl, rfl, hT, hF, hG, hZ, hB⟩ := hrel
        have hY : Aside (y + gk = 256) := hy
        clear hy
        by_cases hy9 : y < 256
        · have hy9' : (y : Int) < 256 := by omega
          have hwy : IntKind.u8.wrap (y : Int) = (y : Int) := by rw [IntKind.wrap_u8]; omega
          obtain ⟨p, hp0⟩ : ∃ p, halfN y = p := ⟨_, rfl⟩
          have hp : Aside (halfN y = p) := hp0
          have hev := ev_form y hy9
          have hel := evN_lt y
          obtain ⟨z, hz0⟩ : ∃ z, evN y = z := ⟨_, rfl⟩
          rw [hz0] at hev hel
          have hwz : IntKind.u8.wrap (z : Int) = (z : Int) := by rw [IntKind.wrap_u8]; omega
          have hS : Aside (prUpto F G x (y + 1) = (prUpto F G x y || (decide (p = q) && G y && F z))) := by simp only [Aside]; rw [prUpto, hp0, hq.out, hz0]
          clear hp0 hz0
          generalize prUpto F G x y = m at hS
          obtain ⟨d0, d1, d2, d3⟩ := hG.copy
          by_cases hpq : p = q
          · subst hpq
            have hpp : ((p : Int) == (p : Int)) = true := by simp
            obtain ⟨g0, hg0⟩ : ∃ g0, G y = g0 := ⟨_, rfl⟩
            have hg : Aside (G y = g0) := hg0
            simp only [Aside] at hS
            rw [hg0] at hS
            clear hg0
            cases g0 with
            | false =>
              have hS' : Aside (prUpto F G x (y + 1) = m) := by simp only [Aside]; rw [hS]; simp
              clear hS
              go_wp2_with (first
                | (go_at_call_of 52 (Value.int IntKind.i64 (y : Int)); refine (half_any y hy9 _).mono ?_; rw [hp.out]; rintro e w8 ⟨rfl, rfl⟩)
                | (go_at_call_of 52 (Value.int IntKind.i64 (x : Int)); refine (half_any x hx9 _).mono ?_; rw [hq.out]; rintro e w8 ⟨rfl, rfl⟩)
                | (go_at_call 25; refine (eval_any G y hy9 _).mono ?_; rw [hg.out]; rintro e w6 ⟨rfl, b6⟩))
              go_roundg (gk - 1)
              case measure => have := hY.out; omega
              case rel =>
                have := hY.out
                exact ⟨y + 1, by omega, rfl, by rw [hS'.out], hT.kept b6, hF.kept b6, hG.kept b6, hZ.kept b6, below_far hB b6⟩
            | true =>
              obtain ⟨f0, hf0⟩ : ∃ f0, F z = f0 := ⟨_, rfl⟩
              have hf : Aside (F z = f0) := hf0
              rw [hf0] at hS
              clear hf0
              cases f0 with
              | false =>
                have hS' : Aside (prUpto F G x (y + 1) = m) := by simp only [Aside]; rw [hS]; simp
                clear hS
                go_wp2_with (first
                  | (go_at_call_of 52 (Value.int IntKind.i64 (y : Int)); refine (half_any y hy9 _).mono ?_; rw [hp.out]; rintro e w8 ⟨rfl, rfl⟩)
                  | (go_at_call_of 52 (Value.int IntKind.i64 (x : Int)); refine (half_any x hx9 _).mono ?_; rw [hq.out]; rintro e w8 ⟨rfl, rfl⟩)
                  | (go_at_call_of 25 (Value.int IntKind.u64 (word G 0 : Int)); refine (eval_any G y hy9 _).mono ?_; rw [hg.out]; rintro e w6 ⟨rfl, b6⟩; have F6 := hF.kept b6; obtain ⟨c0, c1, c2, c3⟩ := F6.copy)
                  | (go_at_call 25; refine (eval_any F z hel _).mono ?_; rw [hf.out]; rintro e w7 ⟨rfl, b7⟩))
                go_roundg (gk - 1)
                case measure => have := hY.out; omega
                case rel =>
                  have := hY.out
                  have b9 := below_far b6 b7
                  exact ⟨y + 1, by omega, rfl, by rw [hS'.out], hT.kept b9, hF.kept b9, hG.kept b9, hZ.kept b9, below_far hB b9⟩
              | true =>
                have hS' : Aside (prUpto F G x (y + 1) = true) := by simp only [Aside]; rw [hS]; simp
                clear hS
                go_wp2_with (first
                  | (go_at_call_of 52 (Value.int IntKind.i64 (y : Int)); refine (half_any y hy9 _).mono ?_; rw [hp.out]; rintro e w8 ⟨rfl, rfl⟩)
                  | (go_at_call_of 52 (Value.int IntKind.i64 (x : Int)); refine (half_any x hx9 _).mono ?_; rw [hq.out]; rintro e w8 ⟨rfl, rfl⟩)
                  | (go_at_call_of 25 (Value.int IntKind.u64 (word G 0 : Int)); refine (eval_any G y hy9 _).mono ?_; rw [hg.out]; rintro e w6 ⟨rfl, b6⟩; have F6 := hF.kept b6; obtain ⟨c0, c1, c2, c3⟩ := F6.copy)
                  | (go_at_call 25; refine (eval_any F z hel _).mono ?_; rw [hf.out]; rintro e w7 ⟨rfl, b7⟩))
                go_roundg (gk - 1)
                case measure => have := hY.out; omega
                case rel =>
                  have := hY.out
                  have b9 := below_far b6 b7
                  exact ⟨y + 1, by omega, rfl, by rw [hS'.out], hT.kept b9, hF.kept b9, hG.kept b9, hZ.kept b9, below_far hB b9⟩
          · have hpp : ((p : Int) == (q : Int)) = false := by simp; omega
            have hS' : Aside (prUpto F G x (y + 1) = m) := by simp only [Aside]; rw [hS.out]; simp [hpq]
            clear hS
            go_wp2_with (first
              | (go_at_call_of 52 (Value.int IntKind.i64 (y : Int)); refine (half_any y hy9 _).mono ?_; rw [hp.out]; rintro e w8 ⟨rfl, rfl⟩)
              | (go_at_call_of 52 (Value.int IntKind.i64 (x : Int)); refine (half_any x hx9 _).mono ?_; rw [hq.out]; rintro e w8 ⟨rfl, rfl⟩))
            go_roundg (gk - 1)
            case measure => have := hY.out; omega
            case rel =>
              have := hY.out
              exact ⟨y + 1, by omega, rfl, by rw [hS'.out], hT, hF, hG, hZ, hB⟩
        · obtain rfl : y = 256 := by have := hY.out; omega
          have hv : Aside (prevF F G x = prUpto F G x 256) := rfl
          have hS := upto_step (prevF F G) x
          rw [hv.out] at hS
          generalize prUpto F G x 256 = m at hS
          have hS' : Aside (∀ y, (decide (y < x) && prevF F G y || decide (y = x) && m) = (decide (y < x + 1) && prevF F G y)) := hS
          clear hS hv
          go_wp2_with (first
            | (go_at_call 48; refine (set_any (w.heap.size + 3) _ x hx9 m _ hT).mono ?_; rintro e w6 ⟨rfl, h6, t6⟩))
          go_roundg (255 - x)
          case measure => have := hX.out; omega
          case rel =>
            have := hX.out
            exact ⟨x + 1, by omega, rfl, h6.ext fun y _ => hS'.out y, t6.tab hF (by omega), t6.tab hG (by omega), t6.tab hZ (by omega), hB.trans (t6.below hB.size (by omega))⟩
    · obtain rfl : x = 256 := by have := hX.out; omega
      obtain ⟨c0, c1, c2, c3⟩ := hT.copy
      obtain ⟨z0, z1, z2, z3⟩ := hZ.copy
      have y0 := hZ.free 0
      have y1 := hZ.free 1
      have y2 := hZ.free 2
      have y3 := hZ.free 3
      go_wp2_with fail
      exact bodyPost_ret (results_tab rfl rfl (laid_tab hZ _)) rfl ⟨rfl, hB.trans ((laid_turned _ _ _).below hB.size (by omega))⟩
end Go.Proofs.YtmfocngdobcfcaaDoor
