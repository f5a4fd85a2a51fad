/-
  What Level, Low, High, Order and All of a store tell.
-/
import Derived.Test.YtdmfbfbebcneeaaStore
namespace Go.Proofs.Ytdmfbfbebcneeaa
open Go Go.RowKit

namespace Mdl
def levI (M : Mdl) (x : Nat) : Int := if M.isNode x then (M.lev x : Int) else -1
def lowN (M : Mdl) (x : Nat) : Nat := if x < 2 then x else if x ∈ M.hs then (M.nd x).2.1 else 0
def highN (M : Mdl) (x : Nat) : Nat := if x < 2 then x else if x ∈ M.hs then (M.nd x).2.2 else 0
section
variable {M : Mdl} {x : Nat}
theorem levI_const (h : x < 2) : M.levI x = (M.n : Int) := by unfold levI; rw [if_pos (.inl h), lev_const h]
theorem levI_in (o : M.Ok) (h : x ∈ M.hs) : M.levI x = ((M.nd x).1 : Int) := by unfold levI; rw [if_pos (.inr h), lev_in o h]
theorem levI_none (h : ¬ M.isNode x) : M.levI x = -1 := by unfold levI; rw [if_neg h]
theorem levI_node (h : M.isNode x) : M.levI x = (M.lev x : Int) := by unfold levI; rw [if_pos h]
theorem lowN_const (h : x < 2) : M.lowN x = x := by unfold lowN; rw [if_pos h]
theorem highN_const (h : x < 2) : M.highN x = x := by unfold highN; rw [if_pos h]
theorem lowN_in (o : M.Ok) (h : x ∈ M.hs) : M.lowN x = (M.nd x).2.1 := by
  unfold lowN; rw [if_neg (by have := (o.range x h).1; omega), if_pos h]
theorem highN_in (o : M.Ok) (h : x ∈ M.hs) : M.highN x = (M.nd x).2.2 := by
  unfold highN; rw [if_neg (by have := (o.range x h).1; omega), if_pos h]
theorem lowN_none (h : ¬ M.isNode x) : M.lowN x = 0 := by unfold lowN; rw [if_neg (fun e => h (.inl e)), if_neg (fun e => h (.inr e))]
theorem highN_none (h : ¬ M.isNode x) : M.highN x = 0 := by unfold highN; rw [if_neg (fun e => h (.inl e)), if_neg (fun e => h (.inr e))]
end
end Mdl

section
variable {w w' : World} {S : Nat} {M : Mdl} {I : Ins}
theorem Pu.word (p : Pu M I) {j : Nat} (hj : j < M.hs.length) : j + 2 ∈ M.hs ∧ 0 < I.wd j ∧ I.wd j ≤ 18446744073709551615 ∧ I.wd j / 72057594037927936 = ((M.nd (j + 2)).1 : Int) ∧ I.wd j / 268435456 % 268435456 = ((M.nd (j + 2)).2.1 : Int) ∧ I.wd j % 268435456 = ((M.nd (j + 2)).2.2 : Int) := by
  have hm : j + 2 ∈ M.hs := p.mem_iff.2 (by omega)
  have o := p.ok
  have hl := o.lv _ hm
  have h8 := o.le8
  have h1 := Mdl.isNode_lt o (o.lo _ hm).1
  have h2 := Mdl.isNode_lt o (o.hi _ hm).1
  have hne := o.ne _ hm
  rw [p.wd j hj]
  unfold ndZ
  refine ⟨hm, nodeZ_pos h1 h2 hne, (nodeZ_bd _ _ _ (by omega)).2, part0 _ _ _, ?_, ?_⟩
  · rw [part1]; omega
  · rw [part2]; omega
theorem parts_any (h : StI w S M I) (x : Nat) (hx : x < 4294967296) :
    Calls Try.prog 40 #[.pointer (some ⟨S, 0, none⟩), .int .u32 (x : Int)] w fun e w' => e = .returned (.tuple #[.int .i64 (M.levI x), .int .u32 (M.lowN x : Int), .int .u32 (M.highN x : Int)]) ∧ w' = w := by
  by_cases hc : x < 2
  · rw [Mdl.levI_const hc, Mdl.lowN_const hc, Mdl.highN_const hc]
    have K := vars_any h
    have hc' : (x : Int) < 2 := by omega
    clear hc
    go_enter Try.func40, Try.ntmps40
    go_wp2_with (first
      | (go_at_call 10; refine K.mono ?_; clear K; rintro e w ⟨rfl, rfl⟩))
    go_ret3
    exact ⟨rfl, rfl⟩
  · have K := is_any h x hx
    have hc' : ¬ (x : Int) < 2 := by omega
    by_cases hn : M.isNode x
    · have hm : x ∈ M.hs := hn.resolve_left hc
      obtain ⟨j, rfl⟩ : ∃ j, x = j + 2 := ⟨x - 2, by omega⟩
      have hj : j < M.hs.length := by have := h.pu.node_iff.1 hn; omega
      rw [decide_eq_true hn] at K
      rw [Mdl.levI_in h.pu.ok hm, Mdl.lowN_in h.pu.ok hm, Mdl.highN_in h.pu.ok hm]
      obtain ⟨_, w0, w1, e0, e1, e2⟩ := h.pu.word hj
      have c18 := h.c18
      obtain ⟨g, hg⟩ := h.own.form (by omega)
      have own := h.own
      rw [hg] at c18 own
      have cw := own.cell hj
      have Kb := bparts_any (I.wd j) w (by omega) w1
      rw [e0, e1, e2] at Kb
      have hl8 : ((M.nd (j + 2)).1 : Int) ≤ 255 := by have := h.pu.ok.lv _ hm; have := h.pu.ok.le8; omega
      generalize (M.nd (j + 2)).1 = lv at Kb hl8
      generalize (M.nd (j + 2)).2.1 = lo at Kb
      generalize (M.nd (j + 2)).2.2 = hi at Kb
      have hln := h.pu.len
      generalize M.hs.length = L at c18 hj hln
      clear hn hm e0 e1 e2 own hc
      go_enter Try.func40, Try.ntmps40
      go_wp2_with (first
        | (go_at_call 27; refine K.mono ?_; clear K; rintro e w ⟨rfl, rfl⟩)
        | (go_at_call 52; refine Kb.mono ?_; clear Kb; rintro e w ⟨rfl, rfl⟩))
      go_ret3
      exact ⟨rfl, rfl⟩
    · rw [decide_eq_false hn] at K
      rw [Mdl.levI_none hn, Mdl.lowN_none hn, Mdl.highN_none hn]
      clear hn hc
      go_enter Try.func40, Try.ntmps40
      go_wp2_with (first
        | (go_at_call 27; refine K.mono ?_; clear K; rintro e w ⟨rfl, rfl⟩))
      go_ret3
      exact ⟨rfl, rfl⟩
theorem level_any (h : StI w S M I) (x : Nat) (hx : x < 4294967296) :
    Calls Try.prog 15 #[.pointer (some ⟨S, 0, none⟩), .int .u32 (x : Int)] w fun e w' => e = .returned (.int .i64 (M.levI x)) ∧ w' = w := by
  have K := parts_any h x hx
  go_enter Try.func15, Try.ntmps15
  go_wp2_with (first
    | (go_at_call 40; refine K.mono ?_; clear K; rintro e w ⟨rfl, rfl⟩))
  go_ret
  exact ⟨rfl, rfl⟩
theorem low_any (h : StI w S M I) (x : Nat) (hx : x < 4294967296) :
    Calls Try.prog 16 #[.pointer (some ⟨S, 0, none⟩), .int .u32 (x : Int)] w fun e w' => e = .returned (.int .u32 (M.lowN x : Int)) ∧ w' = w := by
  have K := parts_any h x hx
  go_enter Try.func16, Try.ntmps16
  go_wp2_with (first
    | (go_at_call 40; refine K.mono ?_; clear K; rintro e w ⟨rfl, rfl⟩))
  go_ret
  exact ⟨rfl, rfl⟩
theorem high_any (h : StI w S M I) (x : Nat) (hx : x < 4294967296) :
    Calls Try.prog 17 #[.pointer (some ⟨S, 0, none⟩), .int .u32 (x : Int)] w fun e w' => e = .returned (.int .u32 (M.highN x : Int)) ∧ w' = w := by
  have K := parts_any h x hx
  go_enter Try.func17, Try.ntmps17
  go_wp2_with (first
    | (go_at_call 40; refine K.mono ?_; clear K; rintro e w ⟨rfl, rfl⟩))
  go_ret
  exact ⟨rfl, rfl⟩
theorem order_any (h : StI w S M I) :
    Calls Try.prog 21 #[.pointer (some ⟨S, 0, none⟩)] w fun e w' => e = .returned (.pointer (some ⟨w.heap.size, 0, none⟩)) ∧ Od.IsOrd w' w.heap.size M.n M.v I.l ∧ Below w.heap.size w w' := by
  have K := Od.scopy_any (fun i hi => h.ordc hi)
  go_enter Try.func21, Try.ntmps21
  go_wp2_with (first
    | (go_at_call 41; refine K.mono ?_; clear K; rintro e w1 ⟨rfl, o1, b1⟩))
  go_ret
  exact ⟨rfl, o1, b1⟩
/-- All handles, rising. -/
theorem infoH : (Try.prog.info? 30).map (fun i => (i.zero, i.size, i.bytes)) = some (some (.int .u32 0), 1, 4) := by kernel_rfl
theorem make_hs (n : Nat) (hn : n ≤ 1000000) (w : World) :
    (Instr.makeSlice 31 (.int .i64 (n : Int)) (.int .i64 (n : Int))).run Try.prog w = .ok (.slice (some ⟨w.heap.size, 0, none⟩) n n) (w.alloc (.cells (madeCells #[.int .u32 0] n) 30)) := by
  obtain ⟨i, hi, hz, hs, hb⟩ := info_parts infoH
  exact run_make_row 31 30 i _ Try.underlying31 hi hz hs rfl .i64 .i64 n (by rw [hb]; omega) (by omega) w
theorem all_any (h : StI w S M I) :
    Calls Try.prog 28 #[.pointer (some ⟨S, 0, none⟩)] w fun e w' => e = .returned (.slice (some ⟨w.heap.size, 0, none⟩) M.hs.length M.hs.length) ∧ w'.rowIs w.heap.size 30 M.hs.length (fun i => .int .u32 ((i : Int) + 2)) ∧ Below w.heap.size w w' := by
  have c18 := h.c18
  have hl := h.pu.len
  generalize M.hs.length = L at c18 hl
  have hmk := make_hs L (by omega) w
  have row0 : (w.alloc (.cells (madeCells #[.int .u32 0] L) 30)).rowIs w.heap.size 30 L (fun i => if i < 0 then .int .u32 ((i : Int) + 2) else .int .u32 0) := by
    exact (World.rowIs_made w _ L _).congr fun i _ => (if_neg (Nat.not_lt_zero i)).symm
  have b0 : Below w.heap.size w (w.alloc (.cells (madeCells #[.int .u32 0] L) 30)) := (Below.refl _ w).alloc (Nat.le_refl _) _
  generalize w.alloc (.cells (madeCells #[.int .u32 0] L) 30) = w1 at hmk row0 b0
  go_enter Try.func28, Try.ntmps28
  go_wp2
  go_loopg [13] L (fun g si wr => ∃ j : Nat, j + g = L ∧ si = .int .i64 (j : Int) ∧ wr.rowIs w.heap.size 30 L (fun i => if i < j then .int .u32 ((i : Int) + 2) else .int .u32 0) ∧ Below w.heap.size w wr)
  case atStart => exact ⟨0, by omega, rfl, row0, b0⟩
  case round =>
    obtain ⟨j, hj, rfl, R, B⟩ := hrel
    have hJ : Aside (j + gk = L) := hj
    clear row0 b0 hmk hj
    by_cases hlt : j < L
    · have hlt' : (j : Int) < (L : Int) := by omega
      have cj := R.cell hlt
      have fj := R.frozen j
      have hw : IntKind.u32.wrap (j : Int) = (j : Int) := by rw [IntKind.wrap_u32]; omega
      have R2 := R.set j (.int .u32 (2 + (j : Int)))
      go_wp2
      go_roundg (gk - 1)
      case measure => have := hJ.out; omega
      case rel =>
        have hj := hJ.out
        refine ⟨j + 1, by omega, by go_num, R2.congr fun i _ => ?_, B.setCell (Nat.le_refl _) _⟩
        by_cases e : i = j
        · subst e
          rw [if_pos rfl, if_pos (by omega), Int.add_comm]
        · rw [if_neg e]
          by_cases e2 : i < j
          · rw [if_pos e2, if_pos (by omega)]
          · rw [if_neg e2, if_neg (by omega)]
    · obtain rfl : j = L := by have := hJ.out; omega
      go_wp2
      go_ret
      exact ⟨rfl, R.congr fun i hi => by rw [if_pos hi], B⟩
end
end Go.Proofs.Ytdmfbfbebcneeaa
