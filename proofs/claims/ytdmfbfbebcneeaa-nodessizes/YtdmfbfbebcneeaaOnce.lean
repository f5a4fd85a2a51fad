/-
  The statements' look at all nodes of a store: each once, children deeper, handles rising.
-/
import Derived.Test.YtdmfbfbebcneeaaKnown
import Derived.Deep.LoopGhost
namespace Go.Proofs.Ytdmfbfbebcneeaa
open Go Go.RowKit

theorem getD_mem {l : List Nat} {i : Nat} (h : i < l.length) : l.getD i 0 ∈ l := by
  rw [List.getD_eq_getElem?_getD, List.getElem?_eq_getElem h]
  exact List.getElem_mem h
theorem sorted_getD {l : List Nat} (s : l.Pairwise (· < ·)) {i j : Nat} (h : j < l.length) (hij : i < j) : l.getD i 0 < l.getD j 0 := by
  rw [List.getD_eq_getElem?_getD, List.getD_eq_getElem?_getD, List.getElem?_eq_getElem h, List.getElem?_eq_getElem (by omega)]
  exact List.pairwise_iff_getElem.1 s i j (by omega) h hij
set_option maxRecDepth 100000 in
set_option maxHeartbeats 2000000 in
theorem once_any {w : World} {S : Nat} {F : Nat → Prop} {M : Mdl} (h : St w S F M) :
    Calls Try.prog 19 #[.pointer (some ⟨S, 0, none⟩)] w fun e w' => e = .returned (.bool true) ∧ Below w.heap.size w w' := by
  have K1 := s_all h
  have o := h.ok
  have hlen := o.len
  have hroom := h.room
  obtain ⟨L, hL⟩ : ∃ L, M.hs.length = L := ⟨_, rfl⟩
  have hLA : Aside (M.hs.length = L) := hL
  rw [hL] at K1 hlen
  clear hL
  have hlen' : (L : Int) ≤ (M.room : Int) := by omega
  have hd1 : decide (M.room < L) = false := by simpa using hlen
  have hd2 : decide ((M.room : Int) < (L : Int)) = false := by simpa using hlen
  go_enter Try.func19, Try.ntmps19
  go_wp2_with (first
    | (go_at_call 28; refine K1.mono ?_; clear K1; rintro e w1 ⟨g, rfl, row, b1, g1⟩; have h1 := h.below b1; have Kz := s_len h1; rw [hLA.out] at Kz; have Kr := s_room h1)
    | (go_at_call 18; refine Kz.mono ?_; clear Kz; rintro e w1 ⟨rfl, rfl⟩)
    | (go_at_call 11; refine Kr.mono ?_; clear Kr; rintro e w1 ⟨rfl, rfl⟩))
  have b1A : Aside (Below w.heap.size w w1) := b1
  clear b1 g1 h
  go_loopg [2, 4, 5, 6, 7, 8, 9] L (fun gk s2 si s5 s6 s7 s8 s9 wr => ∃ i : Nat, i + gk = L ∧ s2 = .bool false ∧ si = .int .i64 (i : Int) ∧ wr = w1)
  case atStart => exact ⟨0, by omega, rfl, rfl, rfl⟩
  case round =>
    obtain ⟨i, hi, rfl, rfl, rfl⟩ := hrel
    obtain ⟨go, rfl⟩ : ∃ go, go = gk := ⟨gk, rfl⟩
    have hI : Aside (i + go = L) := hi
    clear hi
    by_cases hlt : i < L
    · have hlt' : (i : Int) < (L : Int) := by omega
      obtain ⟨x, hx⟩ : ∃ x, M.hs.getD i 0 = x := ⟨_, rfl⟩
      have hxA : Aside (M.hs.getD i 0 = x) := hx
      have cx := row.cell hlt
      rw [hx] at cx
      have xm : x ∈ M.hs := by rw [← hx]; exact getD_mem (by rw [hLA.out]; exact hlt)
      have xr := o.range x xm
      obtain ⟨la, na, loA⟩ : ∃ la, M.lev (M.nd x).2.1 = la ∧ (M.nd x).1 < la := ⟨_, rfl, (o.lo x xm).2⟩
      obtain ⟨lb, nb, hiA⟩ : ∃ lb, M.lev (M.nd x).2.2 = lb ∧ (M.nd x).1 < lb := ⟨_, rfl, (o.hi x xm).2⟩
      have q1 := Mdl.isNode_lt o (o.lo x xm).1
      have q2 := Mdl.isNode_lt o (o.hi x xm).1
      have KL := s_level h1 x (by omega)
      rw [Mdl.levI_in o xm] at KL
      have KA := s_low h1 x (by omega)
      rw [Mdl.lowN_in o xm] at KA
      have KB := s_high h1 x (by omega)
      rw [Mdl.highN_in o xm] at KB
      have KI := s_is h1 x (by omega)
      rw [decide_eq_true (show M.isNode x from .inr xm)] at KI
      have KIa := s_is h1 (M.nd x).2.1 (by omega)
      rw [decide_eq_true (o.lo x xm).1] at KIa
      have KIb := s_is h1 (M.nd x).2.2 (by omega)
      rw [decide_eq_true (o.hi x xm).1] at KIb
      have KLa := s_level h1 (M.nd x).2.1 (by omega)
      rw [Mdl.levI_node (o.lo x xm).1, na] at KLa
      have KLb := s_level h1 (M.nd x).2.2 (by omega)
      rw [Mdl.levI_node (o.hi x xm).1, nb] at KLb
      have KV := s_vars h1
      have lvn := o.lv x xm
      have nen := o.ne x xm
      have one : Aside (∀ y ∈ M.hs, y ≠ x → M.nd y ≠ M.nd x) := fun y hy hne e => hne (o.one y hy x xm e)
      have ndA : Aside (M.nd x = ((M.nd x).1, (M.nd x).2.1, (M.nd x).2.2)) := rfl
      clear hx na nb
      generalize (M.nd x).1 = lv at KL loA hiA lvn ndA
      generalize (M.nd x).2.1 = lo at KA KIa KLa nen ndA q1
      generalize (M.nd x).2.2 = hh at KB KIb KLb nen ndA q2
      have e1 : ¬ (x : Int) ≤ 1 := by omega
      have e2 : ¬ (lv : Int) < 0 := by omega
      have e3 : ¬ (M.n : Int) ≤ (lv : Int) := by omega
      have e3' : ¬ M.n ≤ lv := by omega
      have e4 : ¬ (lo : Int) = (hh : Int) := by omega
      have e4' : ((lo : Int) == (hh : Int)) = false := by simpa using e4
      have e5 : ¬ (la : Int) ≤ (lv : Int) := by omega
      have e5' : ¬ la ≤ lv := by omega
      have e6 : ¬ (lb : Int) ≤ (lv : Int) := by omega
      have e6' : ¬ lb ≤ lv := by omega
      by_cases hi0 : i = 0
      · have f1 : ¬ (0 : Int) < (i : Int) := by omega
        have f1' : ¬ 0 < i := by omega
        clear hi0
        go_wp2_with (first
          | (go_at_call 15; refine KL.mono ?_; clear KL; rintro e w1 ⟨rfl, rfl⟩)
          | (go_at_call 16; refine KA.mono ?_; clear KA; rintro e w1 ⟨rfl, rfl⟩)
          | (go_at_call 17; refine KB.mono ?_; clear KB; rintro e w1 ⟨rfl, rfl⟩)
          | (go_at_call 27; refine KI.mono ?_; clear KI; rintro e w1 ⟨rfl, rfl⟩)
          | (go_at_call 10; refine KV.mono ?_; clear KV; rintro e w1 ⟨rfl, rfl⟩)
          | (go_at_call 27; refine KIa.mono ?_; clear KIa; rintro e w1 ⟨rfl, rfl⟩)
          | (go_at_call 27; refine KIb.mono ?_; clear KIb; rintro e w1 ⟨rfl, rfl⟩)
          | (go_at_call 15; refine KLa.mono ?_; clear KLa; rintro e w1 ⟨rfl, rfl⟩)
          | (go_at_call 15; refine KLb.mono ?_; clear KLb; rintro e w1 ⟨rfl, rfl⟩))
        go_loopg [2, 9] i (fun gj s2 s9 wr => ∃ j : Nat, j + gj = i ∧ s2 = .bool false ∧ s9 = .int .i64 (j : Int) ∧ wr = w1)
        case atStart => exact ⟨0, by omega, rfl, rfl, rfl⟩
        case round =>
          obtain ⟨j, hj, rfl, rfl, rfl⟩ := hrel
          have hJ : Aside (j + gk = i) := hj
          clear hj
          by_cases hjl : j < i
          · have hjl' : (j : Int) < (i : Int) := by omega
            have hjL : j < L := by omega
            obtain ⟨y, hy⟩ : ∃ y, M.hs.getD j 0 = y := ⟨_, rfl⟩
            have cy := row.cell hjL
            rw [hy] at cy
            have ym : y ∈ M.hs := by rw [← hy]; exact getD_mem (by rw [hLA.out]; exact hjL)
            have yx : y ≠ x := by
              have := sorted_getD o.sorted (by rw [hLA.out]; exact hlt) hjl
              rw [hy, hxA.out] at this
              omega
            have yr := o.range y ym
            have une := one.out y ym yx
            have JL := s_level h1 y (by omega)
            rw [Mdl.levI_in o ym] at JL
            have JA := s_low h1 y (by omega)
            rw [Mdl.lowN_in o ym] at JA
            have JB := s_high h1 y (by omega)
            rw [Mdl.highN_in o ym] at JB
            rw [ndA.out] at une
            have uneA : Aside (¬ ((M.nd y).1 = lv ∧ (M.nd y).2.1 = lo ∧ (M.nd y).2.2 = hh)) := fun e => une (Prod.ext e.1 (Prod.ext e.2.1 e.2.2))
            clear une hy yx
            generalize (M.nd y).1 = ly at JL uneA
            generalize (M.nd y).2.1 = a at JA uneA
            generalize (M.nd y).2.2 = b at JB uneA
            by_cases c1 : ly = lv
            · subst c1
              by_cases c2 : a = lo
              · subst c2
                have c3 : ¬ b = hh := fun e => uneA.out ⟨rfl, rfl, e⟩
                have d3 : ¬ (b : Int) = (hh : Int) := by omega
                have d3' : ((b : Int) == (hh : Int)) = false := by simpa using d3
                clear c3
                go_wp2_with (first
                  | (go_at_call 15; refine JL.mono ?_; clear JL; rintro e w1 ⟨rfl, rfl⟩)
                  | (go_at_call 16; refine JA.mono ?_; clear JA; rintro e w1 ⟨rfl, rfl⟩)
                  | (go_at_call 17; refine JB.mono ?_; clear JB; rintro e w1 ⟨rfl, rfl⟩))
                go_roundg (gk - 1)
                case measure => have := hJ.out; omega
                case rel =>
                  have hj := hJ.out
                  exact ⟨j + 1, by omega, rfl, by go_num, rfl⟩
              · have d2 : ¬ (a : Int) = (lo : Int) := by omega
                have d2' : ((a : Int) == (lo : Int)) = false := by simpa using d2
                clear c2
                go_wp2_with (first
                  | (go_at_call 15; refine JL.mono ?_; clear JL; rintro e w1 ⟨rfl, rfl⟩)
                  | (go_at_call 16; refine JA.mono ?_; clear JA; rintro e w1 ⟨rfl, rfl⟩)
                  | (go_at_call 17; refine JB.mono ?_; clear JB; rintro e w1 ⟨rfl, rfl⟩))
                go_roundg (gk - 1)
                case measure => have := hJ.out; omega
                case rel =>
                  have hj := hJ.out
                  exact ⟨j + 1, by omega, rfl, by go_num, rfl⟩
            · have d1 : ¬ (ly : Int) = (lv : Int) := by omega
              have d1' : ((ly : Int) == (lv : Int)) = false := by simpa using d1
              clear c1
              go_wp2_with (first
                | (go_at_call 15; refine JL.mono ?_; clear JL; rintro e w1 ⟨rfl, rfl⟩)
                | (go_at_call 16; refine JA.mono ?_; clear JA; rintro e w1 ⟨rfl, rfl⟩)
                | (go_at_call 17; refine JB.mono ?_; clear JB; rintro e w1 ⟨rfl, rfl⟩))
              go_roundg (gk - 1)
              case measure => have := hJ.out; omega
              case rel =>
                have hj := hJ.out
                exact ⟨j + 1, by omega, rfl, by go_num, rfl⟩
          · obtain rfl : j = i := by have := hJ.out; omega
            go_wp2_with fail
            go_roundg (go - 1)
            case measure => have := hI.out; omega
            case rel =>
              have hi := hI.out
              exact ⟨j + 1, by omega, rfl, by go_num, rfl⟩
      · have f1 : (0 : Int) < (i : Int) := by omega
        have f1' : 0 < i := by omega
        have c0 := row.cell (show i - 1 < L by omega)
        have s0 := sorted_getD o.sorted (by rw [hLA.out]; exact hlt) (show i - 1 < i by omega)
        rw [hxA.out] at s0
        generalize M.hs.getD (i - 1) 0 = p at c0 s0
        have f2 : ¬ (x : Int) ≤ (p : Int) := by omega
        have f2' : ¬ x ≤ p := by omega
        have f3 : ((i : Int) - 1).toNat = i - 1 := by omega
        have f4 : 0 ≤ (i : Int) - 1 := by omega
        have f5 : (i : Int) - 1 < (L : Int) := by omega
        clear hi0 s0
        go_wp2_with (first
          | (go_at_call 15; refine KL.mono ?_; clear KL; rintro e w1 ⟨rfl, rfl⟩)
          | (go_at_call 16; refine KA.mono ?_; clear KA; rintro e w1 ⟨rfl, rfl⟩)
          | (go_at_call 17; refine KB.mono ?_; clear KB; rintro e w1 ⟨rfl, rfl⟩)
          | (go_at_call 27; refine KI.mono ?_; clear KI; rintro e w1 ⟨rfl, rfl⟩)
          | (go_at_call 10; refine KV.mono ?_; clear KV; rintro e w1 ⟨rfl, rfl⟩)
          | (go_at_call 27; refine KIa.mono ?_; clear KIa; rintro e w1 ⟨rfl, rfl⟩)
          | (go_at_call 27; refine KIb.mono ?_; clear KIb; rintro e w1 ⟨rfl, rfl⟩)
          | (go_at_call 15; refine KLa.mono ?_; clear KLa; rintro e w1 ⟨rfl, rfl⟩)
          | (go_at_call 15; refine KLb.mono ?_; clear KLb; rintro e w1 ⟨rfl, rfl⟩))
        go_loopg [2, 9] i (fun gj s2 s9 wr => ∃ j : Nat, j + gj = i ∧ s2 = .bool false ∧ s9 = .int .i64 (j : Int) ∧ wr = w1)
        case atStart => exact ⟨0, by omega, rfl, rfl, rfl⟩
        case round =>
          obtain ⟨j, hj, rfl, rfl, rfl⟩ := hrel
          have hJ : Aside (j + gk = i) := hj
          clear hj
          by_cases hjl : j < i
          · have hjl' : (j : Int) < (i : Int) := by omega
            have hjL : j < L := by omega
            obtain ⟨y, hy⟩ : ∃ y, M.hs.getD j 0 = y := ⟨_, rfl⟩
            have cy := row.cell hjL
            rw [hy] at cy
            have ym : y ∈ M.hs := by rw [← hy]; exact getD_mem (by rw [hLA.out]; exact hjL)
            have yx : y ≠ x := by
              have := sorted_getD o.sorted (by rw [hLA.out]; exact hlt) hjl
              rw [hy, hxA.out] at this
              omega
            have yr := o.range y ym
            have une := one.out y ym yx
            have JL := s_level h1 y (by omega)
            rw [Mdl.levI_in o ym] at JL
            have JA := s_low h1 y (by omega)
            rw [Mdl.lowN_in o ym] at JA
            have JB := s_high h1 y (by omega)
            rw [Mdl.highN_in o ym] at JB
            rw [ndA.out] at une
            have uneA : Aside (¬ ((M.nd y).1 = lv ∧ (M.nd y).2.1 = lo ∧ (M.nd y).2.2 = hh)) := fun e => une (Prod.ext e.1 (Prod.ext e.2.1 e.2.2))
            clear une hy yx
            generalize (M.nd y).1 = ly at JL uneA
            generalize (M.nd y).2.1 = a at JA uneA
            generalize (M.nd y).2.2 = b at JB uneA
            by_cases c1 : ly = lv
            · subst c1
              by_cases c2 : a = lo
              · subst c2
                have c3 : ¬ b = hh := fun e => uneA.out ⟨rfl, rfl, e⟩
                have d3 : ¬ (b : Int) = (hh : Int) := by omega
                have d3' : ((b : Int) == (hh : Int)) = false := by simpa using d3
                clear c3
                go_wp2_with (first
                  | (go_at_call 15; refine JL.mono ?_; clear JL; rintro e w1 ⟨rfl, rfl⟩)
                  | (go_at_call 16; refine JA.mono ?_; clear JA; rintro e w1 ⟨rfl, rfl⟩)
                  | (go_at_call 17; refine JB.mono ?_; clear JB; rintro e w1 ⟨rfl, rfl⟩))
                go_roundg (gk - 1)
                case measure => have := hJ.out; omega
                case rel =>
                  have hj := hJ.out
                  exact ⟨j + 1, by omega, rfl, by go_num, rfl⟩
              · have d2 : ¬ (a : Int) = (lo : Int) := by omega
                have d2' : ((a : Int) == (lo : Int)) = false := by simpa using d2
                clear c2
                go_wp2_with (first
                  | (go_at_call 15; refine JL.mono ?_; clear JL; rintro e w1 ⟨rfl, rfl⟩)
                  | (go_at_call 16; refine JA.mono ?_; clear JA; rintro e w1 ⟨rfl, rfl⟩)
                  | (go_at_call 17; refine JB.mono ?_; clear JB; rintro e w1 ⟨rfl, rfl⟩))
                go_roundg (gk - 1)
                case measure => have := hJ.out; omega
                case rel =>
                  have hj := hJ.out
                  exact ⟨j + 1, by omega, rfl, by go_num, rfl⟩
            · have d1 : ¬ (ly : Int) = (lv : Int) := by omega
              have d1' : ((ly : Int) == (lv : Int)) = false := by simpa using d1
              clear c1
              go_wp2_with (first
                | (go_at_call 15; refine JL.mono ?_; clear JL; rintro e w1 ⟨rfl, rfl⟩)
                | (go_at_call 16; refine JA.mono ?_; clear JA; rintro e w1 ⟨rfl, rfl⟩)
                | (go_at_call 17; refine JB.mono ?_; clear JB; rintro e w1 ⟨rfl, rfl⟩))
              go_roundg (gk - 1)
              case measure => have := hJ.out; omega
              case rel =>
                have hj := hJ.out
                exact ⟨j + 1, by omega, rfl, by go_num, rfl⟩
          · obtain rfl : j = i := by have := hJ.out; omega
            go_wp2_with fail
            go_roundg (go - 1)
            case measure => have := hI.out; omega
            case rel =>
              have hi := hI.out
              exact ⟨j + 1, by omega, rfl, by go_num, rfl⟩
    · obtain rfl : i = L := by have := hI.out; omega
      go_wp2_with fail
      go_ret
      exact ⟨rfl, b1A.out⟩
end Go.Proofs.Ytdmfbfbebcneeaa
