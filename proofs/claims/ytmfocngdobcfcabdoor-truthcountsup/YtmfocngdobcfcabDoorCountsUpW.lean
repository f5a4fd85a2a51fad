/-
  The statement TruthCountsUp, walked.
-/
import Derived.Test.YtmfocngdobcfcabDoorKnown
namespace Go.Proofs.YtmfocngdobcfcabDoor
open Go Go.RowKit Num

theorem count_not (F : Nat → Bool) : ∀ n, countUpto F n + countUpto (fun x => !F x) n = n
  | 0 => rfl
  | n + 1 => by have := count_not F n; rw [countUpto, countUpto]; cases F n <;> simp <;> omega
theorem count_and_or (F G : Nat → Bool) : ∀ n, countUpto (fun x => F x && G x) n + countUpto (fun x => F x || G x) n = countUpto F n + countUpto G n
  | 0 => rfl
  | n + 1 => by have := count_and_or F G n; rw [countUpto, countUpto, countUpto, countUpto]; cases F n <;> cases G n <;> simp <;> omega
theorem count_split (F G : Nat → Bool) : ∀ n, countUpto (fun x => F x && G x) n + countUpto (fun x => F x && !G x) n = countUpto F n
  | 0 => rfl
  | n + 1 => by have := count_split F G n; rw [countUpto, countUpto, countUpto]; cases F n <;> cases G n <;> simp <;> omega
theorem count_list (F : Nat → Bool) : ∀ n, countUpto F n = (List.range n).countP F
  | 0 => rfl
  | n + 1 => by rw [countUpto, count_list F n, List.range_succ, List.countP_append]; cases h : F n <;> simp [h]
theorem count_congr {F G : Nat → Bool} : ∀ n, (∀ x, x < n → F x = G x) → countUpto F n = countUpto G n
  | 0, _ => rfl
  | n + 1, h => by rw [countUpto, countUpto, count_congr n fun x hx => h x (by omega), h n (by omega)]
theorem flip_perm (k : Nat) (hk : k < 8) : ((List.range 256).map (· ^^^ 2 ^ k)).Perm (List.range 256) := by
  rw [List.perm_ext_iff_of_nodup ?_ List.nodup_range]
  · intro a
    rw [List.mem_map, List.mem_range]
    constructor
    · rintro ⟨x, hx, rfl⟩
      exact flip_lt k x hk (List.mem_range.1 hx)
    · intro ha
      exact ⟨a ^^^ 2 ^ k, List.mem_range.2 (flip_lt k a hk ha), by rw [Nat.xor_assoc, Nat.xor_self, Nat.xor_zero]⟩
  · rw [List.nodup_iff_pairwise_ne, List.pairwise_map]
    refine (List.nodup_iff_pairwise_ne.1 List.nodup_range).imp ?_
    intro a b hab e
    apply hab
    have := congrArg (· ^^^ 2 ^ k) e
    simpa [Nat.xor_assoc] using this
theorem count_flip (P : Nat → Bool) (k : Nat) (hk : k < 8) : countUpto (fun x => P (x ^^^ 2 ^ k)) 256 = countUpto P 256 := by
  rw [count_list, count_list, ← (flip_perm k hk).countP_eq P, List.countP_map]
  rfl
theorem count_fix (F : Nat → Bool) (k : Nat) (hk : k < 8) : countUpto (fixF F k true) 256 = 2 * countUpto (fun x => F x && M k x) 256 := by
  have h1 : countUpto (fixF F k true) 256 = countUpto (fun x => (fixF F k true x && M k x)) 256 + countUpto (fun x => (fixF F k true x && !M k x)) 256 := (count_split _ _ 256).symm
  have h2 : countUpto (fun x => (fixF F k true x && M k x)) 256 = countUpto (fun x => F x && M k x) 256 := count_congr 256 fun x hx => by
    rw [← fix_true F k x hk hx]
    cases M k x <;> simp
  have h3 : countUpto (fun x => (fixF F k true x && !M k x)) 256 = countUpto (fun x => F x && M k x) 256 := by
    rw [← count_flip (fun x => F x && M k x) k hk]
    refine count_congr 256 fun x hx => ?_
    rw [← fix_true F k x hk hx, flip_M k x hk hx]
    unfold turnF
    cases M k x <;> simp
  omega
theorem sup_bit (F : Nat → Bool) (k : Nat) : ∀ n, (supUpto F n).testBit k = (decide (k < n) && !Go.Proofs.YtmfocngdobcfcabDoor.same (fixF F k false) (fixF F k true))
  | 0 => by simp [supUpto]
  | n + 1 => by
    rw [supUpto]
    by_cases e : n = k
    · subst e
      cases hs : Go.Proofs.YtmfocngdobcfcabDoor.same (fixF F n false) (fixF F n true) with
      | true => simp [sup_bit F n n, hs]
      | false => simp [Nat.testBit_or]
    · have hlt : decide (k < n + 1) = decide (k < n) := by congr 1; simp; omega
      split
      · rw [sup_bit F k n, hlt]
      · rw [Nat.testBit_or, Nat.testBit_two_pow, sup_bit F k n, hlt]; simp [e]

/-- A count, as the program holds it. -/
def cnt (F : Nat → Bool) : Int := (countUpto F 256 : Int)
theorem cnt_lo (F : Nat → Bool) : 0 ≤ cnt F := Int.natCast_nonneg _
theorem cnt_hi (F : Nat → Bool) : cnt F ≤ 256 := by have := count_le F 256; unfold cnt; omega
theorem pcnt_any (F : Nat → Bool) (w : World) (hG : Grp w) : Calls Tryd.prog 7 #[tab F] w fun e w' => e = .returned (.int .i64 (cnt F)) ∧ Below w.heap.size w w' := pcount_any F w hG
theorem neq_tab (F G : Nat → Bool) (w : World) : (binOp .neq 24 (tab F) (tab G)).run Tryd.prog w = .ok (.bool (!Go.Proofs.YtmfocngdobcfcabDoor.same F G)) w := by
  show (binOp .neq 24 (.agg _) (.agg _)).run Tryd.prog w = _
  rw [run_neq_struct]
  have := equal_tab F G w
  unfold tab at this
  rw [this]
  rfl
theorem guard_neq (x y : Operand) (F G : Nat → Bool) (w : World) : (eqGuard .neq 24 x y (tab F) (tab G)).run Tryd.prog w = .ok () w := run_eqGuard_agg (P := Tryd.prog) w .neq 24 x y _ _ (by kernel_rfl)

set_option maxRecDepth 100000 in
set_option maxHeartbeats 6400000 in
theorem countsUp_any (F G : Nat → Bool) (v : Nat) (hv : v < 256) (w : World) (hC : Cols w) (hg : Grp w) :
    Calls Tryd.prog 3 #[tab F, tab G, .int .u8 (v : Int)] w fun e w' => e = .returned (.bool true) ∧ Below w.heap.size w w' := by
  conv in #[tab F, tab G, _] => unfold tab
  obtain ⟨k, hk⟩ : ∃ k : Nat, k = v % 8 := ⟨_, rfl⟩
  have hk8 : k < 8 := by omega
  have hkv : (v : Int) % 8 = (k : Int) := by omega
  have a1 : cnt F + cnt (fun x => !F x) = 256 := by have := count_not F 256; unfold cnt; omega
  have a2 : cnt (fun x => F x && G x) + cnt (fun x => F x || G x) = cnt F + cnt G := by have := count_and_or F G 256; unfold cnt; omega
  have a3 : cnt (fun x => F x && M k x) + cnt (fun x => F x && !M k x) = cnt F := by have := count_split F (M k) 256; unfold cnt; omega
  have a4 : 2 * cnt (fun x => F x && M k x) = cnt (fixF F k true) := by have := count_fix F k hk8; unfold cnt; omega
  have hS8 : supUpto F 8 < 256 := sup_lt F 8 (Nat.le_refl _)
  have a5 : (bits .and .u8 ((supUpto F 8 : Int) / 2 ^ k) 1 == 1) = !Go.Proofs.YtmfocngdobcfcabDoor.same (fixF F k false) (fixF F k true) := by rw [read_mask _ k hS8, ← M_bit, sup_bit]; simp [hk8]
  have hsy : Go.Proofs.YtmfocngdobcfcabDoor.same (fixF F k true) (fixF F k false) = Go.Proofs.YtmfocngdobcfcabDoor.same (fixF F k false) (fixF F k true) := by
    rw [Bool.eq_iff_iff, same_iff, same_iff]
    exact ⟨fun h x hx => (h x hx).symm, fun h x hx => (h x hx).symm⟩
  have hneq : ∀ w, (binOp .neq 24 (tab (fixF F k true)) (tab (fixF F k false))).run Tryd.prog w = .ok (.bool (!Go.Proofs.YtmfocngdobcfcabDoor.same (fixF F k false) (fixF F k true))) w := fun w => by rw [neq_tab, hsy]
  have hgrd : ∀ (x y : Operand) (F G : Nat → Bool) (w : World), (eqGuard .neq 24 x y (tab F) (tab G)).run Tryd.prog w = .ok () w := guard_neq
  generalize (!Go.Proofs.YtmfocngdobcfcabDoor.same (fixF F k false) (fixF F k true)) = sm at a5 hneq
  clear hsy
  have b1 := cnt_lo F
  have b2 := cnt_hi F
  have b3 := cnt_lo G
  have b4 := cnt_hi G
  have b5 := cnt_lo (fun x => !F x)
  have b6' := cnt_hi (fun x => !F x)
  have b7 := cnt_lo (fun x => F x && G x)
  have b8 := cnt_hi (fun x => F x && G x)
  have b9 := cnt_lo (fun x => F x || G x)
  have ba := cnt_hi (fun x => F x || G x)
  have bb := cnt_lo (fun x => F x && M k x)
  have bc := cnt_hi (fun x => F x && M k x)
  have bd := cnt_lo (fun x => F x && !M k x)
  have be := cnt_hi (fun x => F x && !M k x)
  clear hk
  have hw1 : IntKind.i64.wrap (cnt F) = cnt F := by rw [IntKind.wrap_i64]; omega
  have hw2 : IntKind.i64.wrap (cnt (fixF F k true)) = cnt (fixF F k true) := by have h1 := cnt_lo (fixF F k true); have h2 := cnt_hi (fixF F k true); rw [IntKind.wrap_i64]; omega
  have TF := ((IsTab.newAt (w := w) (n := w.heap.size) (by simp) F).alloc (.cells #[.int .u64 (word G 0 : Int), .int .u64 (word G 1 : Int), .int .u64 (word G 2 : Int), .int .u64 (word G 3 : Int)] 24))
  have TG := (IsTab.newAt (w := (w.alloc (.cells #[.int .u64 (word F 0 : Int), .int .u64 (word F 1 : Int), .int .u64 (word F 2 : Int), .int .u64 (word F 3 : Int)] 24))) (n := w.heap.size + 1) (by simp) G)
  have B0 := (((Below.refl _ w).alloc (Nat.le_refl _) (.cells #[.int .u64 (word F 0 : Int), .int .u64 (word F 1 : Int), .int .u64 (word F 2 : Int), .int .u64 (word F 3 : Int)] 24)).alloc (by simp) (.cells #[.int .u64 (word G 0 : Int), .int .u64 (word G 1 : Int), .int .u64 (word G 2 : Int), .int .u64 (word G 3 : Int)] 24))
  go_enter Tryd.func3, Tryd.ntmps3
  go_wp2_with (first
    | (go_at_call 6; generalize ((w.alloc (.cells #[.int .u64 (word F 0 : Int), .int .u64 (word F 1 : Int), .int .u64 (word F 2 : Int), .int .u64 (word F 3 : Int)] 24)).alloc (.cells #[.int .u64 (word G 0 : Int), .int .u64 (word G 1 : Int), .int .u64 (word G 2 : Int), .int .u64 (word G 3 : Int)] 24)) = w4 at TF TG B0 ⊢; refine (known_any _ (hC.kept B0) (hg.kept B0)).mono ?_; rintro e w5 ⟨rfl, b5⟩; have B5 := below_far B0 b5; have C5 := hC.kept B5; have G5 := hg.kept B5; have TF := TF.kept b5; have TG := TG.kept b5; clear b5 B0))
  have lF0 : ∀ u, Below w5.heap.size w5 u → u.cell? ⟨w.heap.size, 0, none⟩ = some (.int .u64 (word F 0 : Int)) := fun u s => (TF.kept s).cell (by decide)
  have lF1 : ∀ u, Below w5.heap.size w5 u → u.cell? ⟨w.heap.size, 1, none⟩ = some (.int .u64 (word F 1 : Int)) := fun u s => (TF.kept s).cell (by decide)
  have lF2 : ∀ u, Below w5.heap.size w5 u → u.cell? ⟨w.heap.size, 2, none⟩ = some (.int .u64 (word F 2 : Int)) := fun u s => (TF.kept s).cell (by decide)
  have lF3 : ∀ u, Below w5.heap.size w5 u → u.cell? ⟨w.heap.size, 3, none⟩ = some (.int .u64 (word F 3 : Int)) := fun u s => (TF.kept s).cell (by decide)
  have lG0 : ∀ u, Below w5.heap.size w5 u → u.cell? ⟨w.heap.size + 1, 0, none⟩ = some (.int .u64 (word G 0 : Int)) := fun u s => (TG.kept s).cell (by decide)
  have lG1 : ∀ u, Below w5.heap.size w5 u → u.cell? ⟨w.heap.size + 1, 1, none⟩ = some (.int .u64 (word G 1 : Int)) := fun u s => (TG.kept s).cell (by decide)
  have lG2 : ∀ u, Below w5.heap.size w5 u → u.cell? ⟨w.heap.size + 1, 2, none⟩ = some (.int .u64 (word G 2 : Int)) := fun u s => (TG.kept s).cell (by decide)
  have lG3 : ∀ u, Below w5.heap.size w5 u → u.cell? ⟨w.heap.size + 1, 3, none⟩ = some (.int .u64 (word G 3 : Int)) := fun u s => (TG.kept s).cell (by decide)
  have hcu : ∀ u, Below w5.heap.size w5 u → Cols u := fun u s => C5.kept s
  have hgu : ∀ u, Below w5.heap.size w5 u → Grp u := fun u s => G5.kept s
  go_region_held3 (fun u => Below w5.heap.size w5 u) (first | assumption | exact (Below.refl _ _).drew | exact below_far (by assumption) (by assumption)) (first
    | (go_at_call 9; refine (pvar_any k hk8 _ (hcu _ (by assumption))).mono ?_; rintro e w6 ⟨rfl, b6⟩)
    | (go_at_call 8; refine (pand_any _ _ _).mono ?_; rintro e w6 ⟨rfl, b6⟩)
    | (go_at_call 7; refine (pcnt_any _ _ (hgu _ (by assumption))).mono ?_; rintro e w6 ⟨rfl, b6⟩)
    | (go_at_call 10; refine (pnot_any _ _).mono ?_; rintro e w6 ⟨rfl, b6⟩)
    | (go_at_call 11; refine (por_any _ _ _).mono ?_; rintro e w6 ⟨rfl, b6⟩)
    | (go_at_call 12; refine (pfix_any F k hk8 _ _ (hcu _ (by assumption))).mono ?_; rintro e w6 ⟨rfl, b6⟩)
    | (go_at_call 13; refine (psupport_any F _ (hcu _ (by assumption))).mono ?_; rintro e w6 ⟨rfl, b6⟩))
  have S6 : Below w5.heap.size w5 w6 := by repeat (first | assumption | exact (Below.refl _ _).drew | refine below_far ?_ (by assumption))
  go_wp2_with fail
  go_region_held3 (fun u => Below w5.heap.size w5 u) (first | assumption | exact S6.drew | exact below_far (by assumption) (by assumption)) (first
    | (go_at_call 9; refine (pvar_any k hk8 _ (hcu _ (by assumption))).mono ?_; rintro e w7 ⟨rfl, b7⟩)
    | (go_at_call 8; refine (pand_any _ _ _).mono ?_; rintro e w7 ⟨rfl, b7⟩)
    | (go_at_call 7; refine (pcnt_any _ _ (hgu _ (by assumption))).mono ?_; rintro e w7 ⟨rfl, b7⟩)
    | (go_at_call 10; refine (pnot_any _ _).mono ?_; rintro e w7 ⟨rfl, b7⟩)
    | (go_at_call 11; refine (por_any _ _ _).mono ?_; rintro e w7 ⟨rfl, b7⟩)
    | (go_at_call 12; refine (pfix_any F k hk8 _ _ (hcu _ (by assumption))).mono ?_; rintro e w7 ⟨rfl, b7⟩)
    | (go_at_call 13; refine (psupport_any F _ (hcu _ (by assumption))).mono ?_; rintro e w7 ⟨rfl, b7⟩))
  have S7 : Below w5.heap.size w5 w7 := by repeat (first | assumption | exact S6.drew | refine below_far ?_ (by assumption))
  go_wp2_with fail
  go_ret
  exact ⟨rfl, below_far B5 S7⟩
end Go.Proofs.YtmfocngdobcfcabDoor
