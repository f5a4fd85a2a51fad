/-
  The statements' own look over all: whether the object tells just what the lists beside it tell.
-/
import Derived.Test.YtjapmhipbipdbaaAsk
namespace Go.Proofs.Ytjapmhipbipdbaa
open Go Go.RowKit

/-- The object and the lists beside it hold the same. -/
structure Al (w : World) (R : Nat) (F : Nat → Prop) (P : Int → Option Int) (m n : Nat) (T : Nat → List Int) (adm : Option Addr) (capm : Nat) (cs : List (Int × Int)) (S : Nat) (A : Nat → Option Addr) (C : Nat → Nat) : Prop where
  has : Has w R F P m n T
  own : OwnC w adm capm cs
  stk : Stk w S n A C T
  all : IsAll P cs
  pos : ∀ k v, P k = some v → 0 ≤ k
  posT : ∀ i, i < n → ∀ x, x ∈ T i → 0 ≤ x
  four : n ≤ 4
section
variable {w w' : World} {R S n m : Nat} {F : Nat → Prop} {P : Int → Option Int} {T : Nat → List Int} {adm : Option Addr} {capm : Nat} {cs : List (Int × Int)} {A : Nat → Option Addr} {C : Nat → Nat}
theorem Al.kept (h : Al w R F P m n T adm capm cs S A C) (k : Below w.heap.size w w') : Al w' R F P m n T adm capm cs S A C :=
  ⟨h.has.below k, h.own.kept fun b hb => k.block b (h.own.block b hb), h.stk.kept fun b hb => k.block b (h.stk.lt b hb), h.all, h.pos, h.posT, h.four⟩
theorem cat_long {T : Nat → List Int} {n i : Nat} (hi : i < n) : (T i).length ≤ (cat T n).length := by
  unfold cat
  induction n with
  | zero => omega
  | succ n ih =>
    rw [List.range_succ, List.flatMap_append, List.length_append]
    by_cases e : i = n
    · subst e; simp
    · have := ih (by omega); omega
theorem drawnB {B : Nat} {w w' : World} (h : Below B w w') (q : Nat) : Below B w (w'.drewN q) := ⟨h.os, h.tape, h.output, h.size, h.block⟩
set_option maxHeartbeats 1600000 in
set_option maxRecDepth 100000 in
theorem alike_any (h : Al w R F P m n T adm capm cs S A C) (hm : m + (cat T n).length ≤ 60000) :
    Calls Try.prog 12 #[.pointer (some ⟨R, 0, none⟩), .slice adm cs.length capm, .slice (some ⟨S, 0, none⟩) n n] w fun e w' => e = .returned (.bool true) ∧ Below w.heap.size w w' := by
  have hA : Aside (Al w R F P m n T adm capm cs S A C) := h
  have hall : Aside (IsAll P cs) := h.all
  have K1 := h.has.all (by omega)
  have hmA : Aside (m + (cat T n).length ≤ 60000) := hm
  have hm6 : m ≤ 60000 := by omega
  have h4 := h.four
  clear h hm
  go_enter Try.func12, Try.ntmps12
  go_wp2_with (go_at_call 16; refine K1.mono ?_; clear K1; rintro e w1 ⟨ad1, cap1, l1, rfl, hl1, hlm, o1, n1, b1⟩; have e1 : cs = l1 := all_eq hall.out hl1; subst e1; clear hl1)
  have al1 := hA.out.kept b1
  have alA : Aside (Al w1 R F P m n T adm capm cs S A C) := al1
  have oA : Aside (OwnC w1 ad1 cap1 cs) := o1
  have b1A : Aside (Below w.heap.size w w1) := b1
  clear al1 o1 b1 n1
  go_loopg [8] cs.length (fun g s wr => ∃ (i : Nat), s = .int .i64 (i : Int) ∧ i + g = cs.length ∧ Aside (Below w1.heap.size w1 wr))
  case atStart => exact ⟨0, rfl, by omega, Below.refl _ _⟩
  case round =>
    obtain ⟨i, rfl, hg, hB⟩ := hrel
    have hgA : Aside (i + gk = cs.length) := hg
    by_cases hi : i < cs.length
    · have hiz : (i : Int) < (cs.length : Int) := by omega
      have al := alA.out.kept hB.out
      obtain ⟨ga, rfl⟩ := al.own.form (by omega)
      obtain ⟨gb, rfl⟩ := oA.out.form (by omega)
      obtain ⟨p, hp⟩ : ∃ p, cs[i]? = some p := ⟨_, List.getElem?_eq_getElem hi⟩
      have hpm := (al.all.mem p.1 p.2).1 (List.mem_of_getElem? hp)
      obtain ⟨c1, c2⟩ := al.own.cells hp
      have o1 : OwnC wr (some ⟨gb, 0, none⟩) cap1 cs := oA.out.kept fun b hb => hB.out.block b (oA.out.block b hb)
      obtain ⟨c3, c4⟩ := o1.cells hp
      have H := fun q => (al.kept (drawnB (Below.refl _ wr) q)).has.count p.1 p.2 (by rw [hpm]; rfl)
      obtain ⟨y, z⟩ := p
      simp only at c1 c2 c3 c4 H
      clear al o1 hp hpm hg
      go_wp2
      go_quiet ((go_at_call 14; exact Calls.quiet_of_same (H _)))
      go_wp2
      go_roundg (gk - 1)
      case measure => have := hgA.out; omega
      case rel => exact ⟨i + 1, by go_num, by have := hgA.out; omega, (show Aside _ from drawnB hB.out _)⟩
    · have hiz : ¬ (i : Int) < (cs.length : Int) := by omega
      have al := alA.out.kept hB.out
      have K2 := al.has.roots hmA.out
      have b2A : Aside (Below w.heap.size w wr) := b1A.out.trans (hB.out.mono b1A.out.size)
      have al2A : Aside (Al wr R F P m n T adm capm cs S A C) := al
      clear al hg hgA hB
      go_wp2_with (go_at_call 15; refine K2.mono ?_; clear K2; rintro e w2 ⟨ad2, cap2, l, rfl, hl, hl6, o2, n2, b2⟩)
      have alB : Aside (Al w2 R F P m n T adm capm cs S A C) := al2A.out.kept b2
      have b3A : Aside (Below w.heap.size w w2) := b2A.out.trans (b2.mono b2A.out.size)
      have ownA : Aside (OwnH w2 ad2 cap2 l) := o2
      have hlA : Aside (IsRoots P n T l) := hl
      clear hl o2 n2 b2 al2A alA oA b2A b1A
      go_loopg [10] l.length (fun g s wr => ∃ (i : Nat), s = .int .i64 (i : Int) ∧ i + g = l.length ∧ Aside (Below w2.heap.size w2 wr))
      case atStart => exact ⟨0, rfl, by omega, Below.refl _ _⟩
      case round =>
        obtain ⟨i, rfl, hg, hB⟩ := hrel
        have hgA : Aside (i + gk = l.length) := hg
        by_cases hi : i < l.length
        · have hiz : (i : Int) < (l.length : Int) := by omega
          have al := alB.out.kept hB.out
          have o2 : OwnH wr ad2 cap2 l := ownA.out.kept fun b hb => hB.out.block b (ownA.out.block b hb)
          obtain ⟨ga, rfl⟩ := o2.form (by omega)
          have c1 := o2.cell (i := i) hi
          obtain ⟨x, hx⟩ : ∃ x, x = l[i]! := ⟨_, rfl⟩
          have hxm := (hlA.out.mem x).1 (by rw [hx, getElem!_pos l i hi]; exact List.getElem_mem hi)
          have hx0 : 0 ≤ x := by
            rcases hxm.2 with h1 | ⟨k, hk, h1⟩
            · obtain ⟨v, hv⟩ := Option.isSome_iff_exists.1 h1
              exact al.pos x v hv
            · exact al.posT k hk x h1
          have hx1 := (cst_gt hx0).1 hxm.1
          have hx1b : decide (x ≤ 1) = false := decide_eq_false (by omega)
          have hin : x ∈ cs.map (·.1) ∨ ∃ k, k < n ∧ x ∈ T k := by
            rcases hxm.2 with h1 | h1
            · obtain ⟨v, hv⟩ := Option.isSome_iff_exists.1 h1
              exact .inl (List.mem_map.2 ⟨(x, v), (al.all.mem x v).2 hv, rfl⟩)
            · exact .inr h1
          have H := fun q => isRoot_any (al.kept (drawnB (Below.refl _ wr) q)).own (al.kept (drawnB (Below.refl _ wr) q)).stk (by omega) h4 (fun k hk => by have := cat_long (T := T) hk; have := hmA.out; omega) x hin
          by_cases h0 : i = 0
          · have h0z : decide ((0 : Int) < (i : Int)) = false := decide_eq_false (by omega)
            have h0n : decide (0 < i) = false := decide_eq_false (by omega)
            rw [← hx] at c1
            clear al o2 hxm hin hg hx h0
            go_wp2
            go_quiet ((go_at_call 18; exact Calls.quiet_of_same (H _)))
            go_wp2
            go_roundg (gk - 1)
            case measure => have := hgA.out; omega
            case rel => exact ⟨i + 1, by go_num, by have := hgA.out; omega, (show Aside _ from drawnB hB.out _)⟩
          · have h0z : decide ((0 : Int) < (i : Int)) = true := decide_eq_true (by omega)
            have h0n : 0 < i := by omega
            obtain ⟨j, hj⟩ : ∃ j, i = j + 1 := ⟨i - 1, by omega⟩
            have hjz : (i : Int) - 1 = (j : Int) := by omega
            have hjl : (j : Int) < (l.length : Int) := by omega
            have c2 := o2.cell (i := j) (by omega)
            obtain ⟨y, hy⟩ : ∃ y, y = l[j]! := ⟨_, rfl⟩
            have hlt : y < x := by
              rw [hx, hy, getElem!_pos l i hi, getElem!_pos l j (by omega)]
              exact List.pairwise_iff_getElem.1 hlA.out.up j i (by omega) hi (by omega)
            have hltb : decide (x ≤ y) = false := decide_eq_false (by omega)
            rw [← hx] at c1
            rw [← hy] at c2
            clear al o2 hxm hin hg hx h0 hj hy
            go_wp2
            go_quiet ((go_at_call 18; exact Calls.quiet_of_same (H _)))
            go_wp2
            go_roundg (gk - 1)
            case measure => have := hgA.out; omega
            case rel => exact ⟨i + 1, by go_num, by have := hgA.out; omega, (show Aside _ from drawnB hB.out _)⟩
        · have hiz : ¬ (i : Int) < (l.length : Int) := by omega
          have al3A : Aside (Al wr R F P m n T adm capm cs S A C) := alB.out.kept hB.out
          have b4A : Aside (Below w.heap.size w wr) := b3A.out.trans (hB.out.mono b3A.out.size)
          have own3A : Aside (OwnH wr ad2 cap2 l) := ownA.out.kept fun b hb => hB.out.block b (ownA.out.block b hb)
          clear hg hgA hB alB b3A ownA
          go_wp2
          go_loopg [12] cs.length (fun g s w5 => ∃ (i : Nat), s = .int .i64 (i : Int) ∧ i + g = cs.length ∧ w5 = wr)
          case atStart => exact ⟨0, rfl, by omega, rfl⟩
          case round =>
            obtain ⟨i, rfl, hg, hw⟩ := hrel
            subst hw
            have hgA : Aside (i + gk = cs.length) := hg
            by_cases hi : i < cs.length
            · have hiz : (i : Int) < (cs.length : Int) := by omega
              have al := al3A.out
              obtain ⟨ga, rfl⟩ := al.own.form (by omega)
              obtain ⟨p, hp⟩ : ∃ p, cs[i]? = some p := ⟨_, List.getElem?_eq_getElem hi⟩
              have hpm := (al.all.mem p.1 p.2).1 (List.mem_of_getElem? hp)
              obtain ⟨c1, c2⟩ := al.own.cells hp
              have hp0 := al.pos _ _ hpm
              by_cases h1 : 1 < p.1
              · have h1b : decide (1 < p.1) = true := decide_eq_true h1
                have hin : p.1 ∈ l := (hlA.out.mem p.1).2 ⟨(cst_gt hp0).2 h1, .inl (by rw [hpm]; rfl)⟩
                have K := isIn_any own3A.out (by omega) p.1 true (decide_eq_true hin)
                obtain ⟨y, z⟩ := p
                simp only at c1 c2 h1 h1b K hp0
                clear al hp hpm hg hin
                go_wp2_with (go_at_call 19; refine K.mono ?_; clear K; rintro e w6 ⟨rfl, e6⟩; subst e6)
                go_roundg (gk - 1)
                case measure => have := hgA.out; omega
                case rel => exact ⟨i + 1, by go_num, by have := hgA.out; omega, rfl⟩
              · have h1b : decide (1 < p.1) = false := decide_eq_false h1
                obtain ⟨y, z⟩ := p
                simp only at c1 c2 h1 h1b hp0
                clear al hp hpm hg
                go_wp2
                go_roundg (gk - 1)
                case measure => have := hgA.out; omega
                case rel => exact ⟨i + 1, by go_num, by have := hgA.out; omega, rfl⟩
            · have hiz : ¬ (i : Int) < (cs.length : Int) := by omega
              clear hg hgA
              obtain ⟨w3, hw3⟩ : ∃ w3, w3 = wr := ⟨_, rfl⟩
              rw [← hw3] at al3A own3A b4A ⊢
              clear hw3
              go_wp2
              go_loopg [11, 13] n (fun g s0 s wv => ∃ (v : Nat), s0 = .int .i64 0 ∧ s = .int .i64 (v : Int) ∧ v + g = n ∧ Aside (Below w3.heap.size w3 wv))
              case atStart => exact ⟨0, rfl, rfl, by omega, Below.refl _ _⟩
              case round =>
                obtain ⟨v, rfl, rfl, hg, hB⟩ := hrel
                obtain ⟨go, hgo⟩ : ∃ go, go = gk := ⟨_, rfl⟩
                have hgA : Aside (v + go = n ∧ go = gk) := ⟨by omega, hgo⟩
                by_cases hv : v < n
                · have hvz : (v : Int) < (n : Int) := by omega
                  have al := al3A.out.kept hB.out
                  have hdp : deep n T (v : Int) = (T v).length := by
                    unfold deep
                    rw [show isIn n (v : Int) = true from decide_eq_true ⟨by omega, by omega⟩, if_pos rfl, Int.toNat_natCast]
                  have H := fun q => (al.kept (drawnB (Below.refl _ wr) q)).has.depth (v : Int) _ hdp
                  have c1 := al.stk.slice hv
                  have hcv := cat_long (T := T) hv
                  have hcv6 : (T v).length ≤ 60000 := by have := hmA.out; omega
                  clear al hdp hg hgo hcv
                  go_wp2
                  go_quiet ((go_at_call 13; exact Calls.quiet_of_same (H _)))
                  have hB2 : Aside (Below w3.heap.size w3 (World.drewN wr nq)) := drawnB hB.out _
                  clear hB c1 H
                  generalize World.drewN wr nq = wy at hB2 ⊢
                  go_wp2
                  go_loopg [11, 14] (T v).length (fun g s0 s w5 => ∃ (j : Nat), s0 = .int .i64 0 ∧ s = .int .i64 (j : Int) ∧ j + g = (T v).length ∧ w5 = wy)
                  case atStart => exact ⟨0, rfl, rfl, by omega, rfl⟩
                  case round =>
                    obtain ⟨j, rfl, rfl, hg, hw⟩ := hrel
                    subst hw
                    have hgJ : Aside (j + gk = (T v).length) := hg
                    have al := al3A.out.kept hB2.out
                    have c1 := al.stk.slice hv
                    by_cases hj : j < (T v).length
                    · have hjz : (j : Int) < ((T v).length : Int) := by omega
                      have oT := al.stk.own v hv
                      obtain ⟨ga, hga⟩ := oT.form (by omega)
                      rw [hga] at oT c1
                      have c2 := oT.cell (i := j) hj
                      obtain ⟨x, hx⟩ : ∃ x, x = (T v)[j]! := ⟨_, rfl⟩
                      have hxm : x ∈ T v := by rw [hx, getElem!_pos (T v) j hj]; exact List.getElem_mem hj
                      have hx0 := al.posT v hv x hxm
                      rw [← hx] at c2
                      by_cases h1 : 1 < x
                      · have h1b : decide (1 < x) = true := decide_eq_true h1
                        have hin : x ∈ l := (hlA.out.mem x).2 ⟨(cst_gt hx0).2 h1, .inr ⟨v, hv, hxm⟩⟩
                        have o3 : OwnH _ ad2 cap2 l := own3A.out.kept fun b hb => hB2.out.block b (own3A.out.block b hb)
                        have K := isIn_any o3 (by omega) x true (decide_eq_true hin)
                        clear al oT hga hx hxm hg hin o3
                        go_wp2_with (go_at_call 19; refine K.mono ?_; clear K; rintro e w6 ⟨rfl, e6⟩; subst e6)
                        go_roundg (gk - 1)
                        case measure => have := hgJ.out; omega
                        case rel => exact ⟨j + 1, rfl, by go_num, by have := hgJ.out; omega, rfl⟩
                      · have h1b : decide (1 < x) = false := decide_eq_false h1
                        clear al oT hga hx hxm hg
                        go_wp2
                        go_roundg (gk - 1)
                        case measure => have := hgJ.out; omega
                        case rel => exact ⟨j + 1, rfl, by go_num, by have := hgJ.out; omega, rfl⟩
                    · have hjz : ¬ (j : Int) < ((T v).length : Int) := by omega
                      clear al hg hgJ
                      go_wp2
                      go_roundg (go - 1)
                      case measure => have := hgA.out; omega
                      case rel => exact ⟨v + 1, rfl, by go_num, by have := hgA.out; omega, hB2⟩
                · have hvz : ¬ (v : Int) < (n : Int) := by omega
                  go_wp2
                  go_ret
                  exact ⟨rfl, b4A.out.trans (hB.out.mono b4A.out.size)⟩
end
end Go.Proofs.Ytjapmhipbipdbaa
