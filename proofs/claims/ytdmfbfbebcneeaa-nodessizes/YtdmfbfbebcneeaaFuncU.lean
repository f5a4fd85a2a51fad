/-
  A node held against a function (Is).
-/
import Derived.Test.YtdmfbfbebcneeaaFuncV
namespace Go.Proofs.Ytdmfbfbebcneeaa
open Go Go.RowKit
open Rf (tab word same IsTab TabsAt Own blockOf append_tab block_after)
open Rf (gval gval_pos gval_neg does_val does_call does_if vok_plain vok_sure vok_maybe x_move x_load x_bin x_call x_pick x_assign run_load24)

set_option maxRecDepth 100000 in
set_option maxHeartbeats 2000000 in
/-- Is tells whether a node is a function's. -/
theorem isf_any {w : World} {S : Nat} {F0 : Nat → Prop} {M : Mdl} {x : Nat} {G : Nat → Bool} (h : St w S F0 M) (xn : M.isNode x) :
    Calls Try.prog 32 #[.pointer (some ⟨S, 0, none⟩), .int .u32 (x : Int), tab G] w fun e w' => e = .returned (.bool (same (M.tbl x) G)) ∧ Below w.heap.size w w' := by
  obtain ⟨X, hX⟩ : ∃ X, M.tbl x = X := ⟨_, rfl⟩
  have KF : ∀ {w' : World}, St w' S F0 M → Calls Try.prog 47 #[.pointer (some ⟨S, 0, none⟩), .int .u32 (x : Int)] w' fun e w'' => e = .returned (.tuple #[tab X, .bool true]) ∧ Below w'.heap.size w' w'' := fun h' => by rw [← hX]; exact func_any h' xn
  rw [hX]
  obtain ⟨z, hz⟩ : ∃ z, same X G = z := ⟨_, rfl⟩
  have rz : ∀ w, (binOp .eql 46 (tab X) (tab G)).run Try.prog w = .ok (.bool z) w := fun w => by rw [← hz]; exact run_eqT _ _ w
  rw [hz]
  clear hX hz
  conv in #[Value.pointer (some ⟨S, 0, none⟩), .int .u32 (x : Int), tab G] => unfold tab
  go_enter Try.func32, Try.ntmps32
  go_upto_region 1 with fail
  have TG := IsTab.new w G
  have B0 := (Below.refl _ w).alloc (Nat.le_refl _) (.cells #[.int .u64 (word G 0 : Int), .int .u64 (word G 1 : Int), .int .u64 (word G 2 : Int), .int .u64 (word G 3 : Int)] 46)
  generalize w.alloc (.cells #[.int .u64 (word G 0 : Int), .int .u64 (word G 1 : Int), .int .u64 (word G 2 : Int), .int .u64 (word G 3 : Int)] 46) = w4 at TG B0 ⊢
  have K1 := KF (h.below B0)
  clear KF
  go_upto_region 2 with (first
    | (go_at_call 47; refine K1.mono ?_; clear K1; unfold tab; rintro e w5 ⟨rfl, b5⟩))
  have TX := IsTab.new w5 X
  have B5 := (Below.refl _ w5).alloc (Nat.le_refl _) (.cells #[.int .u64 (word X 0 : Int), .int .u64 (word X 1 : Int), .int .u64 (word X 2 : Int), .int .u64 (word X 3 : Int)] 46)
  have B6 := Rf.below_far (Rf.below_far B0 b5) B5
  have TG6 := kept (kept TG b5) B5
  generalize w5.alloc (.cells #[.int .u64 (word X 0 : Int), .int .u64 (word X 1 : Int), .int .u64 (word X 2 : Int), .int .u64 (word X 3 : Int)] 46) = w6 at TX B6 TG6 ⊢
  generalize w5.heap.size = bx at TX ⊢
  refine Rf.wp_region_valsq (fun u => u = w6) [(15, .bool true), (16, .bool true), (17, tab X), (18, tab G), (19, .bool z), (20, .bool z), (6, .bool z)] [15, 16, 17, 18, 19, 20, 6] 21 (by kernel_rfl) rfl rfl (by decide) rfl (by decide) rfl ?_ ?_
  · intro i kk hkk
    match i, hkk with
    | 0, hk => obtain rfl := Option.some.inj hk; exact vok_plain _ rfl rfl rfl (does_val rfl fun ac u hG hL => x_move rfl ((hG.other 8 (by decide)).trans rfl))
    | 1, hk => obtain rfl := Option.some.inj hk; exact vok_plain _ rfl rfl rfl (does_val rfl fun ac u hG hL => x_move rfl (hL ⟨0, .data⟩ (by simp) rfl _ rfl))
    | 2, hk => obtain rfl := Option.some.inj hk; exact vok_sure _ rfl rfl 1 true 16 rfl ⟨⟨1, .guard⟩, by simp, rfl, rfl⟩ rfl (does_val rfl fun ac u hG hL => x_load rfl ((hG.other 7 (by decide)).trans rfl) (by obtain rfl := hG.here; exact run_load24 TX))
    | 3, hk => obtain rfl := Option.some.inj hk; exact vok_sure _ rfl rfl 1 true 16 rfl ⟨⟨1, .guard⟩, by simp, rfl, rfl⟩ rfl (does_val rfl fun ac u hG hL => x_load rfl ((hG.other 5 (by decide)).trans rfl) (by obtain rfl := hG.here; exact run_load24 TG6))
    | 4, hk => obtain rfl := Option.some.inj hk; exact vok_sure _ rfl rfl 1 true 16 rfl ⟨⟨1, .guard⟩, by simp, rfl, rfl⟩ rfl (does_val rfl fun ac u hG hL => x_bin rfl (hL ⟨2, .data⟩ (by simp) rfl _ rfl) (hL ⟨3, .data⟩ (by simp) rfl _ rfl) (guard_eqT _ _ _ _ _) (rz u))
    | 5, hk => obtain rfl := Option.some.inj hk; exact vok_plain _ rfl rfl rfl (does_val rfl fun ac u hG hL => x_pick (b := true) rfl (hL ⟨1, .data⟩ (by simp) rfl _ rfl) (hL ⟨4, .data⟩ (by simp) rfl _ rfl))
    | 6, hk => obtain rfl := Option.some.inj hk; exact vok_plain _ rfl rfl rfl (does_val rfl fun ac u hG hL => x_assign rfl (hL ⟨5, .data⟩ (by simp) rfl _ rfl))
    | i + 7, hk => simp at hk
  · intro w7 hw7
    obtain rfl := hw7
    simp only [Rf.vfin, Act.put, List.setIfInBounds_toArray, List.set_cons_succ, List.set_cons_zero]
    go_wp2_with fail
    go_ret
    exact ⟨rfl, B6⟩
end Go.Proofs.Ytdmfbfbebcneeaa
