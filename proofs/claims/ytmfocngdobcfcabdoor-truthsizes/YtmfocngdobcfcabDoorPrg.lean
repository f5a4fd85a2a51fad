/-
  What the functions of the program's tables return: constants, connectives, values.
-/
import Derived.Test.YtmfocngdobcfcabDoorRefb
import Derived.Handy
namespace Go.Proofs.YtmfocngdobcfcabDoor
open Go Go.RowKit

theorem isVar_any (v : Int) (w : World) :
    Calls Tryd.prog 21 #[.int .i64 v] w fun e w' => e = .returned (.bool (decide (0 ≤ v ∧ v < 8))) ∧ w' = w := by
  by_cases h0 : 0 ≤ v
  · by_cases h8 : v < 8
    · have h1 : decide (v ≥ 0) = true := by simpa using h0
      have h2 : decide (v < 8) = true := by simpa using h8
      rw [show decide (0 ≤ v ∧ v < 8) = true by simp [h0, h8]]
      go_enter Tryd.func21, Tryd.ntmps21
      go_wp2
      go_ret
      exact ⟨rfl, rfl⟩
    · have h2 : decide (v < 8) = false := by simpa using h8
      rw [show decide (0 ≤ v ∧ v < 8) = false by simp [h8]]
      go_enter Tryd.func21, Tryd.ntmps21
      go_wp2
      go_ret
      exact ⟨rfl, rfl⟩
  · have h1 : decide (v ≥ 0) = false := by simpa using h0
    rw [show decide (0 ≤ v ∧ v < 8) = false by simp [h0]]
    go_enter Tryd.func21, Tryd.ntmps21
    go_wp2
    go_ret
    exact ⟨rfl, rfl⟩

theorem inMask_any (m v : Nat) (hm : m < 256) (hv : v < 8) (w : World) :
    Calls Tryd.prog 26 #[.int .u8 (m : Int), .int .i64 (v : Int)] w fun e w' => e = .returned (.bool (M v m)) ∧ w' = w := by
  rw [← read_mask m v hm]
  go_enter Tryd.func26, Tryd.ntmps26
  go_wp2
  go_ret
  exact ⟨rfl, rfl⟩

theorem full_word (k : Nat) : word (fun _ => true) k = 18446744073709551615 := by
  have := word_not (fun _ => false) k
  rw [word_zero] at this
  exact this.symm
theorem full_int (k : Nat) : ((word (fun _ => true) k : Nat) : Int) = 18446744073709551615 := by rw [full_word]; rfl
theorem zero_int (k : Nat) : ((word (fun _ => false) k : Nat) : Int) = 0 := by rw [word_zero]; rfl

theorem pconst_any (b : Bool) (w : World) :
    Calls Tryd.prog 19 #[.bool b] w fun e w' => e = .returned (tab (fun _ => b)) ∧ Below w.heap.size w w' := by
  have hT := IsTab.newAt (w := w) (n := w.heap.size) rfl (fun _ => b)
  cases b with
  | true =>
    simp only [full_int] at hT
    go_enter Tryd.func19, Tryd.ntmps19
    go_wp2_with fail
    exact bodyPost_ret (results_tab rfl rfl hT) rfl ⟨rfl, (Below.refl w.heap.size w).alloc (Nat.le_refl _) _⟩
  | false =>
    simp only [zero_int] at hT
    go_enter Tryd.func19, Tryd.ntmps19
    go_wp2_with fail
    exact bodyPost_ret (results_tab rfl rfl hT) rfl ⟨rfl, (Below.refl w.heap.size w).alloc (Nat.le_refl _) _⟩

theorem pnot_any (F : Nat → Bool) (w : World) :
    Calls Tryd.prog 10 #[tab F] w fun e w' => e = .returned (tab (fun x => !F x)) ∧ Below w.heap.size w w' := by
  have R : Hid (tab (fun x => !F x) = tab (mix 4 F fun x => !F x)) := (tab_ext fun x hx => mix_all F (fun x => !F x) x hx).symm
  rw [R.out]
  clear R
  conv in #[tab F] => unfold tab
  go_enter Tryd.func10, Tryd.ntmps10
  go_wp2_with fail
  go_loopg [4] 4 (fun g si wr => ∃ k : Nat, k + g = 4 ∧ si = .int .i64 (k : Int) ∧ IsTab wr w.heap.size (mix k F fun x => !F x) ∧ IsTab wr (w.heap.size + 1) (fun _ => false) ∧ Below w.heap.size w wr)
  case atStart =>
    exact ⟨0, by omega, rfl, ((IsTab.new w F).alloc _).ext fun y _ => mix_none F _ y, IsTab.zeroAt (by simp), ((Below.refl _ w).alloc (Nat.le_refl _) _).alloc (by simp) _⟩
  case round =>
    obtain ⟨k, hk, rfl, hT, hZ, hB⟩ := hrel
    have hK : Aside (k + gk = 4) := hk
    clear hk
    by_cases hk9 : k < 4
    · have hk9' : (k : Int) < 4 := by omega
      have c0 := hT.cell hk9
      rw [mix_now] at c0
      have f0 := hT.free k
      go_wp2_with fail
      rw [not_words F k]
      go_roundg (gk - 1)
      case measure => have := hK.out; omega
      case rel =>
        have hk := hK.out
        exact ⟨k + 1, by omega, rfl, hT.mixed hk9, hZ.other (by simp) _, hB.setCell (Nat.le_refl _) _⟩
    · obtain rfl : k = 4 := by have := hK.out; omega
      have c0 := hT.cell (show 0 < 4 by decide)
      have c1 := hT.cell (show 1 < 4 by decide)
      have c2 := hT.cell (show 2 < 4 by decide)
      have c3 := hT.cell (show 3 < 4 by decide)
      have z0 := hZ.cell (show 0 < 4 by decide)
      have z1 := hZ.cell (show 1 < 4 by decide)
      have z2 := hZ.cell (show 2 < 4 by decide)
      have z3 := hZ.cell (show 3 < 4 by decide)
      have y0 := hZ.free 0
      have y1 := hZ.free 1
      have y2 := hZ.free 2
      have y3 := hZ.free 3
      go_wp2_with fail
      exact bodyPost_ret (results_tab rfl rfl (laid_tab hZ _)) rfl ⟨rfl, hB.trans ((laid_turned _ _ _).below hB.size (by omega))⟩

theorem pand_any (F G : Nat → Bool) (w : World) :
    Calls Tryd.prog 8 #[tab F, tab G] w fun e w' => e = .returned (tab (fun x => F x && G x)) ∧ Below w.heap.size w w' := by
  have R : Hid (tab (fun x => F x && G x) = tab (mix 4 F fun x => F x && G x)) := (tab_ext fun x hx => mix_all F (fun x => F x && G x) x hx).symm
  rw [R.out]
  clear R
  conv in #[tab F, tab G] => unfold tab
  go_enter Tryd.func8, Tryd.ntmps8
  go_wp2_with fail
  go_loopg [6] 4 (fun g si wr => ∃ k : Nat, k + g = 4 ∧ si = .int .i64 (k : Int) ∧ IsTab wr w.heap.size (mix k F fun x => F x && G x) ∧ IsTab wr (w.heap.size + 1) G ∧ IsTab wr (w.heap.size + 2) (fun _ => false) ∧ Below w.heap.size w wr)
  case atStart =>
    exact ⟨0, by omega, rfl, (((IsTab.new w F).alloc _).alloc _).ext fun y _ => mix_none F _ y, (IsTab.newAt (by simp) G).alloc _, IsTab.zeroAt (by simp), (((Below.refl _ w).alloc (Nat.le_refl _) _).alloc (by simp) _).alloc (by simp; omega) _⟩
  case round =>
    obtain ⟨k, hk, rfl, hT, hU, hZ, hB⟩ := hrel
    have hK : Aside (k + gk = 4) := hk
    clear hk
    by_cases hk9 : k < 4
    · have hk9' : (k : Int) < 4 := by omega
      have c0 := hT.cell hk9
      rw [mix_now] at c0
      have d0 := hU.cell hk9
      have f0 := hT.free k
      go_wp2_with fail
      go_region
      rw [and_words F G k]
      go_wp2_with fail
      go_roundg (gk - 1)
      case measure => have := hK.out; omega
      case rel =>
        have hk := hK.out
        exact ⟨k + 1, by omega, rfl, (hT.mixed hk9).drew, (hU.other (by simp) _).drew, (hZ.other (by simp) _).drew, (hB.setCell (Nat.le_refl _) _).drew⟩
    · obtain rfl : k = 4 := by have := hK.out; omega
      have c0 := hT.cell (show 0 < 4 by decide)
      have c1 := hT.cell (show 1 < 4 by decide)
      have c2 := hT.cell (show 2 < 4 by decide)
      have c3 := hT.cell (show 3 < 4 by decide)
      have z0 := hZ.cell (show 0 < 4 by decide)
      have z1 := hZ.cell (show 1 < 4 by decide)
      have z2 := hZ.cell (show 2 < 4 by decide)
      have z3 := hZ.cell (show 3 < 4 by decide)
      have y0 := hZ.free 0
      have y1 := hZ.free 1
      have y2 := hZ.free 2
      have y3 := hZ.free 3
      go_wp2_with fail
      exact bodyPost_ret (results_tab rfl rfl (laid_tab hZ _)) rfl ⟨rfl, hB.trans ((laid_turned _ _ _).below hB.size (by omega))⟩

theorem por_any (F G : Nat → Bool) (w : World) :
    Calls Tryd.prog 11 #[tab F, tab G] w fun e w' => e = .returned (tab (fun x => F x || G x)) ∧ Below w.heap.size w w' := by
  have R : Hid (tab (fun x => F x || G x) = tab (mix 4 F fun x => F x || G x)) := (tab_ext fun x hx => mix_all F (fun x => F x || G x) x hx).symm
  rw [R.out]
  clear R
  conv in #[tab F, tab G] => unfold tab
  go_enter Tryd.func11, Tryd.ntmps11
  go_wp2_with fail
  go_loopg [6] 4 (fun g si wr => ∃ k : Nat, k + g = 4 ∧ si = .int .i64 (k : Int) ∧ IsTab wr w.heap.size (mix k F fun x => F x || G x) ∧ IsTab wr (w.heap.size + 1) G ∧ IsTab wr (w.heap.size + 2) (fun _ => false) ∧ Below w.heap.size w wr)
  case atStart =>
    exact ⟨0, by omega, rfl, (((IsTab.new w F).alloc _).alloc _).ext fun y _ => mix_none F _ y, (IsTab.newAt (by simp) G).alloc _, IsTab.zeroAt (by simp), (((Below.refl _ w).alloc (Nat.le_refl _) _).alloc (by simp) _).alloc (by simp; omega) _⟩
  case round =>
    obtain ⟨k, hk, rfl, hT, hU, hZ, hB⟩ := hrel
    have hK : Aside (k + gk = 4) := hk
    clear hk
    by_cases hk9 : k < 4
    · have hk9' : (k : Int) < 4 := by omega
      have c0 := hT.cell hk9
      rw [mix_now] at c0
      have d0 := hU.cell hk9
      have f0 := hT.free k
      go_wp2_with fail
      go_region
      rw [or_words F G k]
      go_wp2_with fail
      go_roundg (gk - 1)
      case measure => have := hK.out; omega
      case rel =>
        have hk := hK.out
        exact ⟨k + 1, by omega, rfl, (hT.mixed hk9).drew, (hU.other (by simp) _).drew, (hZ.other (by simp) _).drew, (hB.setCell (Nat.le_refl _) _).drew⟩
    · obtain rfl : k = 4 := by have := hK.out; omega
      have c0 := hT.cell (show 0 < 4 by decide)
      have c1 := hT.cell (show 1 < 4 by decide)
      have c2 := hT.cell (show 2 < 4 by decide)
      have c3 := hT.cell (show 3 < 4 by decide)
      have z0 := hZ.cell (show 0 < 4 by decide)
      have z1 := hZ.cell (show 1 < 4 by decide)
      have z2 := hZ.cell (show 2 < 4 by decide)
      have z3 := hZ.cell (show 3 < 4 by decide)
      have y0 := hZ.free 0
      have y1 := hZ.free 1
      have y2 := hZ.free 2
      have y3 := hZ.free 3
      go_wp2_with fail
      exact bodyPost_ret (results_tab rfl rfl (laid_tab hZ _)) rfl ⟨rfl, hB.trans ((laid_turned _ _ _).below hB.size (by omega))⟩

theorem ite_words (F G H : Nat → Bool) (k : Nat) : bits .or .u64 (bits .and .u64 (word F k : Int) (word G k : Int)) (bits .and .u64 (bits .xor .u64 (if IntKind.u64.signed = true then -1 else IntKind.u64.max) (word F k : Int)) (word H k : Int)) = (word (fun x => (F x && G x) || (!F x && H x)) k : Int) := by
  rw [show (if IntKind.u64.signed = true then (-1 : Int) else IntKind.u64.max) = IntKind.u64.max from rfl, and_words, not_words, and_words, or_words]

theorem pite_any (F G H : Nat → Bool) (w : World) :
    Calls Tryd.prog 22 #[tab F, tab G, tab H] w fun e w' => e = .returned (tab (fun x => (F x && G x) || (!F x && H x))) ∧ Below w.heap.size w w' := by
  have R : Hid (tab (fun x => (F x && G x) || (!F x && H x)) = tab (mix 4 F fun x => (F x && G x) || (!F x && H x))) := (tab_ext fun x hx => mix_all F (fun x => (F x && G x) || (!F x && H x)) x hx).symm
  rw [R.out]
  clear R
  conv in #[tab F, tab G, tab H] => unfold tab
  go_enter Tryd.func22, Tryd.ntmps22
  go_wp2_with fail
  go_loopg [8] 4 (fun g si wr => ∃ k : Nat, k + g = 4 ∧ si = .int .i64 (k : Int) ∧ IsTab wr w.heap.size (mix k F fun x => (F x && G x) || (!F x && H x)) ∧ IsTab wr (w.heap.size + 1) G ∧ IsTab wr (w.heap.size + 2) H ∧ IsTab wr (w.heap.size + 3) (fun _ => false) ∧ Below w.heap.size w wr)
  case atStart =>
    exact ⟨0, by omega, rfl, ((((IsTab.new w F).alloc _).alloc _).alloc _).ext fun y _ => mix_none F _ y, ((IsTab.newAt (by simp) G).alloc _).alloc _, (IsTab.newAt (by simp) H).alloc _, IsTab.zeroAt (by simp), ((((Below.refl _ w).alloc (Nat.le_refl _) _).alloc (by simp) _).alloc (by simp; omega) _).alloc (by simp; omega) _⟩
  case round =>
    obtain ⟨k, hk, rfl, hT, hU, hV, hZ, hB⟩ := hrel
    have hK : Aside (k + gk = 4) := hk
    clear hk
    by_cases hk9 : k < 4
    · have hk9' : (k : Int) < 4 := by omega
      have c0 := hT.cell hk9
      rw [mix_now] at c0
      have d0 := hU.cell hk9
      have e0 := hV.cell hk9
      have f0 := hT.free k
      go_wp2_with fail
      go_region
      rw [ite_words F G H k]
      go_wp2_with fail
      go_roundg (gk - 1)
      case measure => have := hK.out; omega
      case rel =>
        have hk := hK.out
        exact ⟨k + 1, by omega, rfl, (hT.mixed hk9).drew, (hU.other (by simp) _).drew, (hV.other (by simp) _).drew, (hZ.other (by simp) _).drew, (hB.setCell (Nat.le_refl _) _).drew⟩
    · obtain rfl : k = 4 := by have := hK.out; omega
      have c0 := hT.cell (show 0 < 4 by decide)
      have c1 := hT.cell (show 1 < 4 by decide)
      have c2 := hT.cell (show 2 < 4 by decide)
      have c3 := hT.cell (show 3 < 4 by decide)
      have z0 := hZ.cell (show 0 < 4 by decide)
      have z1 := hZ.cell (show 1 < 4 by decide)
      have z2 := hZ.cell (show 2 < 4 by decide)
      have z3 := hZ.cell (show 3 < 4 by decide)
      have y0 := hZ.free 0
      have y1 := hZ.free 1
      have y2 := hZ.free 2
      have y3 := hZ.free 3
      go_wp2_with fail
      exact bodyPost_ret (results_tab rfl rfl (laid_tab hZ _)) rfl ⟨rfl, hB.trans ((laid_turned _ _ _).below hB.size (by omega))⟩
end Go.Proofs.YtmfocngdobcfcabDoor
