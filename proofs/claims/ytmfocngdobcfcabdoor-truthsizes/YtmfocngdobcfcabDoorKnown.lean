/-
  The statements' own check of known answers: true.
-/
import Derived.Test.YtmfocngdobcfcabDoorPsize
import Derived.Test.YtmfocngdobcfcabDoorPnext
import Derived.Test.YtmfocngdobcfcabDoorPone
namespace Go.Proofs.YtmfocngdobcfcabDoor
open Go Go.RowKit
def Fk : Nat → Bool := fun x => M 0 x && !M 3 x
def Vk : Nat → Int := fun i => (i : Int)
theorem k1 : countUpto (M 3) 256 = 128 := by kernel_rfl
theorem k2 : countUpto Fk 256 = 64 := by kernel_rfl
theorem k3 : supUpto Fk 8 = 9 := by kernel_rfl
theorem k4 : sizeN (fun _ => Fk) 1 Vk 4 = 2 := by kernel_rfl
theorem k5 : same (exUpto Fk 9 8) (fun _ => true) = true := by kernel_rfl
theorem k6 (x : Nat) (h1 : Fk x = true) (h2 : ∀ y, y < x → Fk y = false) : x = 1 := by
  have h0 : x ≠ 0 := fun e => by rw [e] at h1; exact absurd h1 (by decide)
  have h3 : ¬ 1 < x := fun h => by have := h2 1 h; exact absurd this (by decide)
  omega
theorem pone_k (w : World) (hG : Grp w) : Calls Tryd.prog 17 #[tab Fk] w fun e w' => e = .returned (.tuple #[.int .u8 1, .bool true]) ∧ Below w.heap.size w w' := by
  refine (pone_any Fk w hG).mono ?_
  rintro e w' ⟨⟨x, _, h1, h2, rfl⟩ | ⟨h, _⟩, b⟩
  · obtain rfl := k6 x h1 h2
    exact ⟨rfl, b⟩
  · exact absurd (h 1 (by decide)) (by decide)

theorem tabs_one (w : World) (F : Nat → Bool) (o : Obj) : TabsAt ((w.alloc (.cells #[.int .u64 (word F 0 : Int), .int .u64 (word F 1 : Int), .int .u64 (word F 2 : Int), .int .u64 (word F 3 : Int)] 24)).alloc o) (some ⟨w.heap.size, 0, none⟩) 1 (fun _ => F) := by
  have T := (IsTab.new w F).alloc o
  refine Or.inr ⟨w.heap.size, 0, rfl, T.lt, fun i hi k hk => ?_⟩
  obtain rfl : i = 0 := by omega
  simpa using T.cell hk
theorem ints_four (w : World) (n : Nat) (hn : w.heap.size = n) : IntsAt (w.alloc (.cells #[.int .i64 0, .int .i64 1, .int .i64 2, .int .i64 3] 3)) (some ⟨n, 0, none⟩) 4 Vk := by
  subst hn
  refine Or.inr ⟨w.heap.size, 0, rfl, by simp, fun i hi => ?_⟩
  have h : i = 0 ∨ i = 1 ∨ i = 2 ∨ i = 3 := by omega
  have hb := Go.Deep.blk_alloc_new w (.cells #[.int .i64 0, .int .i64 1, .int .i64 2, .int .i64 3] 3)
  generalize w.alloc (.cells #[.int .i64 0, .int .i64 1, .int .i64 2, .int .i64 3] 3) = u at hb ⊢
  rcases h with rfl | rfl | rfl | rfl <;> simp [World.cell?, hb, Vk]

set_option maxRecDepth 100000 in
set_option maxHeartbeats 400000 in
theorem known_gen (G0 G3 Gn F E O : Nat → Bool)
    (H1 : ∀ u, Cols u → Calls Tryd.prog 9 #[.int .i64 0] u fun e w' => e = .returned (tab G0) ∧ Below u.heap.size u w')
    (H2 : ∀ u, Cols u → Calls Tryd.prog 9 #[.int .i64 3] u fun e w' => e = .returned (tab G3) ∧ Below u.heap.size u w')
    (H3 : ∀ u, Calls Tryd.prog 10 #[tab G3] u fun e w' => e = .returned (tab Gn) ∧ Below u.heap.size u w')
    (H4 : ∀ u, Calls Tryd.prog 8 #[tab G0, tab Gn] u fun e w' => e = .returned (tab F) ∧ Below u.heap.size u w')
    (H5 : ∀ u, Grp u → Calls Tryd.prog 17 #[tab F] u fun e w' => e = .returned (.tuple #[.int .u8 1, .bool true]) ∧ Below u.heap.size u w')
    (H6 : ∀ u, Grp u → Calls Tryd.prog 7 #[tab G3] u fun e w' => e = .returned (.int .i64 128) ∧ Below u.heap.size u w')
    (H7 : ∀ u, Grp u → Calls Tryd.prog 7 #[tab F] u fun e w' => e = .returned (.int .i64 64) ∧ Below u.heap.size u w')
    (H8 : ∀ u, Cols u → Calls Tryd.prog 13 #[tab F] u fun e w' => e = .returned (.int .u8 9) ∧ Below u.heap.size u w')
    (H9 : ∀ u adl adv cl cv, Cols u → TabsAt u adl 1 (fun _ => F) → IntsAt u adv 4 Vk → 4 ≤ cv → Calls Tryd.prog 14 #[.slice adl 1 cl, .slice adv 4 cv] u fun e w' => e = .returned (.int .i64 2) ∧ Below u.heap.size u w')
    (H10 : ∀ u, Cols u → Calls Tryd.prog 18 #[tab F, .int .u8 9] u fun e w' => e = .returned (tab E) ∧ Below u.heap.size u w')
    (H11 : ∀ u, Calls Tryd.prog 19 #[.bool true] u fun e w' => e = .returned (tab O) ∧ Below u.heap.size u w')
    (H12 : same E O = true) (w : World) (hC : Cols w) (hG : Grp w) :
    Calls Tryd.prog 6 #[] w fun e w' => e = .returned (.bool true) ∧ Below w.heap.size w w' := by
  unfold tab at H1 H2 H3 H4 H5 H6 H7 H8 H10 H11
  go_enter Tryd.func6, Tryd.ntmps6
  go_wp2_with (first
    | (go_at_call_of 9 (Value.int IntKind.i64 0); refine (H1 _ hC).mono ?_; rintro e wa ⟨rfl, ba⟩)
    | (go_at_call_of 9 (Value.int IntKind.i64 3); refine (H2 _ (hC.kept ba)).mono ?_; rintro e wb ⟨rfl, bb⟩)
    | (go_at_call 10; refine (H3 _).mono ?_; rintro e wc ⟨rfl, bc⟩)
    | (go_at_call 8; refine (H4 _).mono ?_; rintro e wd ⟨rfl, bd⟩; have Bd := below_far (below_far (below_far ba bb) bc) bd; clear ba bb bc bd))
  have Te := IsTab.newAt (w := wd) (n := wd.heap.size) rfl F
  have Be := Bd.alloc Bd.size (.cells #[.int .u64 (word F 0 : Int), .int .u64 (word F 1 : Int), .int .u64 (word F 2 : Int), .int .u64 (word F 3 : Int)] 24)
  generalize wd.alloc (.cells #[.int .u64 (word F 0 : Int), .int .u64 (word F 1 : Int), .int .u64 (word F 2 : Int), .int .u64 (word F 3 : Int)] 24) = we at Te Be ⊢
  go_wp2_with (first
    | (go_at_call 17; refine (H5 _ (hG.kept Be)).mono ?_; rintro e wf ⟨rfl, bf⟩; have Tf := Te.kept bf; have Bf := below_far Be bf; obtain ⟨cf0, cf1, cf2, cf3⟩ := Tf.copy; clear H5)
    | (go_at_call 9; refine (H2 _ (hC.kept Bf)).mono ?_; rintro e wg ⟨rfl, bg⟩; have Tg := Tf.kept bg; have Bg := below_far Bf bg; obtain ⟨cg0, cg1, cg2, cg3⟩ := Tg.copy; clear H2)
    | (go_at_call 7; refine (H6 _ (hG.kept Bg)).mono ?_; rintro e wh ⟨rfl, bh⟩; have Th := Tg.kept bh; have Bh := below_far Bg bh; obtain ⟨ch0, ch1, ch2, ch3⟩ := Th.copy; clear H6)
    | (go_at_call 7; refine (H7 _ (hG.kept Bh)).mono ?_; rintro e wi ⟨rfl, bi⟩; have Ti := Th.kept bi; have Bi := below_far Bh bi; obtain ⟨ci0, ci1, ci2, ci3⟩ := Ti.copy; clear H7)
    | (go_at_call 13; refine (H8 _ (hC.kept Bi)).mono ?_; rintro e wj ⟨rfl, bj⟩; have Tj := Ti.kept bj; have Bj := below_far Bi bj; obtain ⟨cj0, cj1, cj2, cj3⟩ := Tj.copy; clear H8))
  have bk := ((Below.refl wj.heap.size wj).alloc (Nat.le_refl _) (.cells #[.int .u64 (word F 0 : Int), .int .u64 (word F 1 : Int), .int .u64 (word F 2 : Int), .int .u64 (word F 3 : Int)] 24)).alloc (by simp) (.cells #[.int .i64 0, .int .i64 1, .int .i64 2, .int .i64 3] 3)
  have TL := tabs_one wj F (.cells #[.int .i64 0, .int .i64 1, .int .i64 2, .int .i64 3] 3)
  have IL := ints_four (wj.alloc (.cells #[.int .u64 (word F 0 : Int), .int .u64 (word F 1 : Int), .int .u64 (word F 2 : Int), .int .u64 (word F 3 : Int)] 24)) (wj.heap.size + 1) (by simp)
  generalize (wj.alloc (.cells #[.int .u64 (word F 0 : Int), .int .u64 (word F 1 : Int), .int .u64 (word F 2 : Int), .int .u64 (word F 3 : Int)] 24)).alloc (.cells #[.int .i64 0, .int .i64 1, .int .i64 2, .int .i64 3] 3) = wk at bk TL IL ⊢
  have Tk := Tj.kept bk
  have Bk := below_far Bj bk
  obtain ⟨ck0, ck1, ck2, ck3⟩ := Tk.copy
  refine (H9 _ _ _ _ _ (hC.kept Bk) TL IL (by decide)).mono ?_
  rintro e wl ⟨rfl, bl⟩
  have Tl := Tk.kept bl
  have Bl := below_far Bk bl
  obtain ⟨cl0, cl1, cl2, cl3⟩ := Tl.copy
  have heq : ∀ u, (Op.equalIn 10000 24 (tab E) (tab O)).run Tryd.prog u = .ok (same E O) u := fun u => equal_tab _ _ u
  rw [H12] at heq
  unfold tab at heq
  clear H9 H12 TL IL
  go_wp2_with (first
    | (go_at_call 18; refine (H10 _ (hC.kept Bl)).mono ?_; rintro e wm ⟨rfl, bm⟩)
    | (go_at_call 19; refine (H11 _).mono ?_; rintro e wn ⟨rfl, bn⟩))
  go_ret
  exact ⟨rfl, below_far Bl (below_far bm bn)⟩

theorem known_any (w : World) (hC : Cols w) (hG : Grp w) :
    Calls Tryd.prog 6 #[] w fun e w' => e = .returned (.bool true) ∧ Below w.heap.size w w' :=
  known_gen (M 0) (M 3) (fun x => !M 3 x) Fk (exUpto Fk 9 8) (fun _ => true) (fun u h => pvar_at 0 0 rfl (by decide) u h) (fun u h => pvar_at 3 3 rfl (by decide) u h) (fun u => pnot_any _ u) (fun u => pand_any _ _ u) pone_k (fun u h => by have := pcount_any (M 3) u h; rwa [k1] at this) (fun u h => by have := pcount_any Fk u h; rwa [k2] at this) (fun u h => by have := psupport_any Fk u h; rwa [k3] at this)
    (fun u adl adv cl cv h1 h2 h3 h4 => by have := psize_any adl adv 1 cl 4 cv (fun _ => Fk) Vk u h1 h2 h3 (by decide) (by decide) h4; rwa [show min 4 8 = 4 from rfl, k4] at this) (fun u h => pexists_any Fk 9 (by decide) u h) (fun u => pconst_any true u) k5 w hC hG
end Go.Proofs.YtmfocngdobcfcabDoor
