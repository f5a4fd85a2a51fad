/-
  The walk of RefsPlay: for every row of calls the object tells what the lists beside it tell.
-/
import Derived.Test.YtjapmhipbipdbaaPlayB
import Derived.Test.YtjapmhipbipdbaaPlayC
import Derived.Test.YtjapmhipbipdbaaPlayD
import Derived.Test.YtjapmhipbipdbaaPlayE
import Derived.Deep.CutBlock
import Derived.Deep.Light
namespace Go.Proofs.Ytjapmhipbipdbaa
open Go Go.RowKit

set_option maxHeartbeats 40000000 in
set_option maxRecDepth 100000 in
theorem play_walk (k : Int) (ad : Option Addr) (len cap b off : Nat) (Wh Wo Ha : Nat → Int) (W : World) (hD : Dos W ad len b off Wh Wo Ha) :
    Calls Try.prog 3 #[.int .i64 k, .slice ad len cap] W fun e w' => e = .returned (.bool true) ∧ Below W.heap.size W w' := by
  have KN := known_any W
  by_cases h100 : len ≤ 100
  · have h100z : ¬ (100 : Int) < (len : Int) := by omega
    obtain ⟨n, hn⟩ : ∃ n, n = wk k := ⟨_, rfl⟩
    have hmn : max 1 (min k 4) = (n : Int) := by rw [hn]; unfold wk; omega
    have hn4 : 0 < n ∧ n ≤ 4 := by rw [hn]; unfold wk; omega
    have hmk := fun w => run_make_row' (P := Try.prog) 27 38 (.slice none 0 0) 24 Try.underlying27 info38 rfl .i64 .i64 n (by omega) (by omega) w
    have K0 := fun w0 => new_any k w0
    rw [← hn] at K0
    clear hn
    obtain ⟨mc, hmc⟩ : ∃ mc, mc = madeCells #[.slice none 0 0] n := ⟨_, rfl⟩
    rw [← hmc] at hmk
    have hmcA : Aside (mc = madeCells #[.slice none 0 0] n) := hmc
    clear hmc
    have hDA : Aside (Dos W ad len b off Wh Wo Ha) := hD
    clear hD
    go_enter Try.func3, Try.ntmps3
    go_wp2_with (first
      | (go_at_call 6; refine KN.mono ?_; clear KN; rintro e w0 ⟨rfl, b0⟩; have K1 := K0 w0; clear K0)
      | (go_at_call 7; refine K1.mono ?_; clear K1; rintro e w1 ⟨rfl, ⟨F1, h1, n1⟩, b1⟩))
    obtain ⟨R, hRd⟩ : ∃ R, R = w0.heap.size + 1 := ⟨_, rfl⟩
    rw [← hRd] at h1 ⊢
    have hB1 : Below W.heap.size W w1 := b0.trans (b1.mono b0.size)
    have sq1 : Sq W (w1.alloc (.cells mc 38)) R F1 (fun _ => none) 0 n (fun _ => []) none 0 [] w1.heap.size (fun _ => none) (fun _ => 0) (fun _ => []) := by
      rw [hmcA.out]
      have hS : ∀ b, Fs w1.heap.size n (fun _ => none) b → b = w1.heap.size := by
        rintro b (h | ⟨k, _, a, ha, _⟩)
        · exact h
        · cases ha
      refine ⟨h1.new _, OwnC.nil _, Stk.fresh w1 n, fun b hb hF => ?_, fun b hb => Nat.le_trans b0.size (n1 b hb), fun b hb => (by obtain ⟨a, ha, _⟩ := hb; cases ha), fun b hb => ?_, hB1.alloc hB1.size _⟩
      · have := h1.lt b hF
        rw [hS b hb] at this
        omega
      · rw [hS b hb]
        exact hB1.size
    have sq1A : Aside (Sq W (w1.alloc (.cells mc 38)) R F1 (fun _ => none) 0 n (fun _ => []) none 0 [] w1.heap.size (fun _ => none) (fun _ => 0) (fun _ => [])) := sq1
    have gd1 : Aside (Good (fun _ => none) 0 n (fun _ => []) [] 0) := ⟨⟨by simp, fun k v => by simp⟩, (fun k v e => by cases e), (fun i hi x hx => by cases hx), hn4.2, Nat.le_refl _, Nat.le_refl _, (fun i hi => Nat.le_refl _), (fun k v e => by cases e)⟩
    clear hRd b0 b1 n1 h1 hB1 sq1 hmk
    generalize w1.alloc (.cells mc 38) = w2 at sq1A ⊢
    generalize w1.heap.size = S at sq1A ⊢
    go_loopg [7, 9] len (fun g s7 s wr => ∃ (j : Nat) (F : Nat → Prop) (P : Int → Option Int) (m : Nat) (T : Nat → List Int) (adm : Option Addr) (capm : Nat) (cs : List (Int × Int)) (A : Nat → Option Addr) (C : Nat → Nat), s7 = .slice adm cs.length capm ∧ s = .int .i64 (j : Int) ∧ j + g = len ∧ Aside (Sq W wr R F P m n T adm capm cs S A C T) ∧ Aside (Good P m n T cs j))
    case atStart => exact ⟨0, F1, _, 0, _, none, 0, [], _, _, rfl, rfl, by omega, sq1A, gd1⟩
    case round =>
      clear sq1A gd1
      obtain ⟨j, F, P, m, T, adm, capm, cs, A, C, rfl, rfl, hg, sqA, gdA⟩ := hrel
      obtain ⟨gj, hgj⟩ : ∃ gj, gj = gk := ⟨_, rfl⟩
      have hgA : Aside (j + gj = len ∧ gj = gk) := ⟨by omega, hgj⟩
      by_cases hj : j < len
      · have hjz : (j : Int) < (len : Int) := by omega
        have hj100 : j < 100 := by omega
        obtain rfl := hDA.out.ad_ (by omega)
        have c0 := hDA.out.what' sqA.out.below hj
        have c1 := hDA.out.work' sqA.out.below hj
        have c2 := hDA.out.hand' sqA.out.below hj
        have hx2 := hDA.out.hands j hj
        generalize Wh j = x0 at c0
        generalize Wo j = x1 at c1
        generalize Ha j = x2 at c2 hx2
        have hcsl : cs.length ≤ 100 := by have := gdA.out.csl; omega
        have hn0 : 0 < n := hn4.1
        have hn4' : n ≤ 4 := hn4.2
        clear hg hgj
        go_upto_block 2 with fail
        -- the step's own copy
        have hs1 : (wr.alloc (.cells (stepC x0 x1 x2) 31)).heap[wr.heap.size]? = some (.cells (stepC x0 x1 x2) 31 (0, 0)) := (MapKept.heap_alloc wr _).1
        have sq3A : Aside (Sq W (wr.alloc (.cells (stepC x0 x1 x2) 31)) R F P m n T adm capm cs S A C T) := sqA.out.kept ((Below.refl _ _).alloc (Nat.le_refl _) _)
        have hs1A : Aside ((wr.alloc (.cells (stepC x0 x1 x2) 31)).heap[wr.heap.size]? = some (.cells (stepC x0 x1 x2) 31 (0, 0))) := hs1
        clear sqA c0 c1 c2 hs1
        generalize wr.alloc (.cells (stepC x0 x1 x2) 31) = w3 at sq3A hs1A ⊢
        generalize wr.heap.size = Sb at hs1A ⊢
        clear wr
        go_cut [11] from 40 to 55 (fun s w => ∃ (a : Nat) (bb : Bool), s = .int .i64 (a : Int) ∧ Aside (Spot cs x2 a bb) ∧ Aside (Below w3.heap.size w3 w))
        case first =>
          go_wp2_with fail
          go_loopg [11] cs.length (fun g s wr => ∃ (a : Nat), s = .int .i64 (a : Int) ∧ a + g = cs.length ∧ Aside (∀ i p, i < a → cs[i]? = some p → p.1 < x2) ∧ Aside (Below w3.heap.size w3 wr))
          case atStart => exact ⟨0, rfl, by omega, (show Aside _ from fun i p hi => by omega), Below.refl _ _⟩
          case round =>
            obtain ⟨a, rfl, hga, hlo, hB⟩ := hrel
            have hgaA : Aside (a + gk = cs.length) := hga
            have sq := sq3A.out.kept hB.out
            have hs : wr.heap[Sb]? = some (.cells (stepC x0 x1 x2) 31 (0, 0)) := (hB.out.block Sb (Array.getElem?_eq_some_iff.1 hs1A.out).1).trans hs1A.out
            have d2 := (box0 hs).2.2
            by_cases ha : a < cs.length
            · have haz : (a : Int) < (cs.length : Int) := by omega
              obtain ⟨g, rfl⟩ := sq.own.form (by omega)
              obtain ⟨p, hp⟩ : ∃ p, cs[a]? = some p := ⟨_, List.getElem?_eq_getElem ha⟩
              obtain ⟨c1, c2⟩ := sq.own.cells hp
              have hpA : Aside (cs[a]? = some p) := hp
              obtain ⟨y, z⟩ := p
              simp only at c1 c2
              clear sq hs hp hga
              by_cases hlt : y < x2
              · have hltb : decide (y < x2) = true := decide_eq_true hlt
                go_wp2
                go_quiet (fail)
                go_wp2
                go_roundg (gk - 1)
                case measure => have := hgaA.out; omega
                case rel =>
                  refine ⟨a + 1, by go_num, by have := hgaA.out; omega, (show Aside _ from fun i p hi e => ?_), (show Aside _ from drawnB hB.out _)⟩
                  by_cases e1 : i = a
                  · subst e1
                    rw [hpA.out] at e
                    have := Option.some.inj e
                    rw [← this]
                    exact hlt
                  · exact hlo.out i p (by omega) e
              · have hltb : decide (y < x2) = false := decide_eq_false hlt
                go_wp2
                go_quiet (fail)
                go_wp2
                go_meet
                case rel =>
                  by_cases e : y = x2
                  · subst e
                    exact ⟨a, true, rfl, spot_yes hpA.out, (show Aside _ from drawnB hB.out _)⟩
                  · exact ⟨a, false, rfl, spot_no gdA.out.all (by omega) hlo.out (fun p h => by rw [hpA.out] at h; have := Option.some.inj h; rw [← this]; show x2 < y; omega), (show Aside _ from drawnB hB.out _)⟩
            · have haz : ¬ (a : Int) < (cs.length : Int) := by omega
              have hazb : decide ((a : Int) < (cs.length : Int)) = false := decide_eq_false haz
              have hanb : decide (a < cs.length) = false := decide_eq_false ha
              have haeA : Aside (a = cs.length) := by show a = cs.length; omega
              clear sq hs hga
              go_wp2
              go_quiet (fail)
              go_wp2
              go_meet
              case rel => exact ⟨a, false, rfl, spot_no gdA.out.all (Nat.le_of_eq haeA.out) hlo.out (fun p h => by rw [List.getElem?_eq_none (Nat.le_of_eq haeA.out.symm)] at h; cases h), (show Aside _ from drawnB hB.out _)⟩
        case rest =>
          obtain ⟨a, bb, rfl, spA, hB⟩ := hcut
          obtain ⟨w4, hw4⟩ : ∃ w4, w4 = wc := ⟨_, rfl⟩
          rw [← hw4] at hB ⊢
          clear hw4
          clear wc
          have sq4A : Aside (Sq W w4 R F P m n T adm capm cs S A C T) := sq3A.out.kept hB.out
          have hs4A : Aside (w4.heap[Sb]? = some (.cells (stepC x0 x1 x2) 31 (0, 0))) := (hB.out.block Sb (Array.getElem?_eq_some_iff.1 hs1A.out).1).trans hs1A.out
          clear hB sq3A hs1A
          clear w3
          have hale : a ≤ cs.length := spA.out.le.1
          go_upto_region 16 with fail
          go_cut [12] from 56 to 69 (fun s w => s = .bool bb ∧ Aside (Below w4.heap.size w4 w))
          case first =>
            have sq := sq4A.out
            have d2 := (box0 hs4A.out).2.2
            cases bb with
            | true =>
              obtain ⟨xs, ys, v, q1, q2, hp⟩ := spA.out.yes
              clear q1 q2
              have ha : a < cs.length := spA.out.le.2 rfl
              have haz : (a : Int) < (cs.length : Int) := by omega
              obtain ⟨g, rfl⟩ := sq.own.form (by omega)
              obtain ⟨c1, c2⟩ := sq.own.cells hp
              simp only at c1 c2
              clear sq hp
              go_quiet (fail)
              go_wp2
              go_meet
              case rel => exact ⟨rfl, (show Aside _ from drawnB (Below.refl _ _) _)⟩
            | false =>
              by_cases ha : a < cs.length
              · have haz : (a : Int) < (cs.length : Int) := by omega
                obtain ⟨g, rfl⟩ := sq.own.form (by omega)
                obtain ⟨p, hp⟩ : ∃ p, cs[a]? = some p := ⟨_, List.getElem?_eq_getElem ha⟩
                obtain ⟨c1, c2⟩ := sq.own.cells hp
                have hgt := spA.out.gt hp
                obtain ⟨y, z⟩ := p
                simp only at c1 c2 hgt
                have hne : (y == x2) = false := by simp; omega
                have hned : decide (y = x2) = false := decide_eq_false (by omega)
                clear sq hp
                go_quiet (fail)
                go_wp2
                go_meet
                case rel => exact ⟨by first | rfl | simp [hne], (show Aside _ from drawnB (Below.refl _ _) _)⟩
              · have haz : ¬ (a : Int) < (cs.length : Int) := by omega
                have hazb : decide ((a : Int) < (cs.length : Int)) = false := decide_eq_false haz
                have hanb : decide (a < cs.length) = false := decide_eq_false ha
                clear sq
                go_quiet (fail)
                go_wp2
                go_meet
                case rel => exact ⟨rfl, (show Aside _ from drawnB (Below.refl _ _) _)⟩
          case rest =>
            obtain ⟨rfl, hB⟩ := hcut
            obtain ⟨w5, hw5⟩ : ∃ w5, w5 = wc := ⟨_, rfl⟩
            rw [← hw5] at hB ⊢
            clear hw5
            clear wc
            have sqA : Aside (Sq W w5 R F P m n T adm capm cs S A C T) := sq4A.out.kept hB.out
            have hsA : Aside (w5.heap[Sb]? = some (.cells (stepC x0 x1 x2) 31 (0, 0))) := (hB.out.block Sb (Array.getElem?_eq_some_iff.1 hs4A.out).1).trans hs4A.out
            clear hB sq4A hs4A
            clear w4
            obtain ⟨d0, d1, d2⟩ := box0 hsA.out
            go_upto_region 17 with fail
            go_cut [13] from 70 to 78 (fun s w => s = .bool (isIn n x1) ∧ w = w5)
            case first =>
              by_cases h0 : (0 : Int) ≤ x1
              · have hd : decide ((0 : Int) ≤ x1) = true := decide_eq_true h0
                go_wp2
                go_meet
                case rel => exact ⟨by unfold isIn; simp [h0], rfl⟩
              · have hd : decide ((0 : Int) ≤ x1) = false := decide_eq_false h0
                go_wp2
                go_meet
                case rel => exact ⟨by unfold isIn; simp; omega, rfl⟩
            case rest =>
              obtain ⟨rfl, rfl⟩ := hcut
              obtain ⟨inn, hinn⟩ : ∃ inn, inn = isIn n x1 := ⟨_, rfl⟩
              rw [← hinn]
              have hinA : Aside (inn = isIn n x1) := hinn
              clear hinn
              have bxA : Aside (Sb < wc.heap.size ∧ ¬ F Sb ∧ ¬ At adm Sb ∧ ¬ Fs S n A Sb) := sqA.out.box hsA.out
              go_upto_block 4 with fail
              go_cut [7, 14, 15, 16, 17] from 79 to 236 (fun s7 _ _ _ _ w => Aside (Nx W R n S Sb x0 x1 x2 (j + 1) s7 w))
              case first =>
                have keep := KeepM.mk (by assumption)
                go_light
                have kept := keep.out
                clear keep
                by_cases q1 : x0 ≤ 1
                · have q1b : decide (x0 ≤ 1) = true := decide_eq_true q1
                  cases bb with
                  | true =>
                    exact sw_prot1 ⟨gdA, hj100, hx2, hcsl, hn0, hn4', spA, hale, sqA, hsA, hinA, bxA⟩ ⟨q1, q1b⟩ _ _ _ _ _ _ _ _ _ _ _ _ _ _ _ _ _ _ _ _ _ _ _ _ _ _ _ _ _ _ _ _ _ _ _ _ _ _ _ _ _ _ _ _ _ _ _ _ _ _ _ _ _ _ _ _ _ _ _ _ _ _ _ _ _ _ _ _ _ _ _ _ _ _ _ _ _ _ _ _ _ _ _ _ _ _ _ _ _ _ _ _ _ _ _ _ _ _ _ _ _ _ _ _ _ _ _ _ _ _ _ _ _ _ _ _ _ _ _ _ _ _ _ _ _ _ _ _ _ _ _ _ _ _ _ _ _ _ _ _ _ _ _ _ _ _ _ _ _ _ _ _ _ _ _ _ _ _ _ _ _ _ _ _ _ _ _ _ _ _ _ _ _ _ _ _ _ _ _ _ _ _ _ _ _ _ _ _ _ _ _ _ _ _ _ _ _ _ _ _ _ _ _ _ _ _ _ _ _ _ _ _ _ _ _ _ _ _ _ _ _ _ _ _ _ _ _ _ _ _ _ _ _ _ _ _ _ _ _ _ _ _ _ _ _ _ _ _ _ _ _ (by assumption) kept
                  | false =>
                    exact sw_prot0 ⟨gdA, hj100, hx2, hcsl, hn0, hn4', spA, hale, sqA, hsA, hinA, bxA⟩ ⟨q1, q1b⟩ _ _ _ _ _ _ _ _ _ _ _ _ _ _ _ _ _ _ _ _ _ _ _ _ _ _ _ _ _ _ _ _ _ _ _ _ _ _ _ _ _ _ _ _ _ _ _ _ _ _ _ _ _ _ _ _ _ _ _ _ _ _ _ _ _ _ _ _ _ _ _ _ _ _ _ _ _ _ _ _ _ _ _ _ _ _ _ _ _ _ _ _ _ _ _ _ _ _ _ _ _ _ _ _ _ _ _ _ _ _ _ _ _ _ _ _ _ _ _ _ _ _ _ _ _ _ _ _ _ _ _ _ _ _ _ _ _ _ _ _ _ _ _ _ _ _ _ _ _ _ _ _ _ _ _ _ _ _ _ _ _ _ _ _ _ _ _ _ _ _ _ _ _ _ _ _ _ _ _ _ _ _ _ _ _ _ _ _ _ _ _ _ _ _ _ _ _ _ _ _ _ _ _ _ _ _ _ _ _ _ _ _ _ _ _ _ _ _ _ _ _ _ _ _ _ _ _ _ _ _ _ _ _ _ _ _ _ _ _ _ _ _ _ _ _ _ _ _ _ _ _ (by assumption) kept
                · have q1b : decide (x0 ≤ 1) = false := decide_eq_false q1
                  by_cases q2 : x0 = 2
                  · subst q2
                    cases bb with
                    | true =>
                      exact sw_unp1 ⟨gdA, hj100, hx2, hcsl, hn0, hn4', spA, hale, sqA, hsA, hinA, bxA⟩ ⟨q1, q1b⟩ _ _ _ _ _ _ _ _ _ _ _ _ _ _ _ _ _ _ _ _ _ _ _ _ _ _ _ _ _ _ _ _ _ _ _ _ _ _ _ _ _ _ _ _ _ _ _ _ _ _ _ _ _ _ _ _ _ _ _ _ _ _ _ _ _ _ _ _ _ _ _ _ _ _ _ _ _ _ _ _ _ _ _ _ _ _ _ _ _ _ _ _ _ _ _ _ _ _ _ _ _ _ _ _ _ _ _ _ _ _ _ _ _ _ _ _ _ _ _ _ _ _ _ _ _ _ _ _ _ _ _ _ _ _ _ _ _ _ _ _ _ _ _ _ _ _ _ _ _ _ _ _ _ _ _ _ _ _ _ _ _ _ _ _ _ _ _ _ _ _ _ _ _ _ _ _ _ _ _ _ _ _ _ _ _ _ _ _ _ _ _ _ _ _ _ _ _ _ _ _ _ _ _ _ _ _ _ _ _ _ _ _ _ _ _ _ _ _ _ _ _ _ _ _ _ _ _ _ _ _ _ _ _ _ _ _ _ _ _ _ _ _ _ _ _ _ _ _ _ _ _ (by assumption) kept
                    | false =>
                      exact sw_unp0 ⟨gdA, hj100, hx2, hcsl, hn0, hn4', spA, hale, sqA, hsA, hinA, bxA⟩ ⟨q1, q1b⟩ _ _ _ _ _ _ _ _ _ _ _ _ _ _ _ _ _ _ _ _ _ _ _ _ _ _ _ _ _ _ _ _ _ _ _ _ _ _ _ _ _ _ _ _ _ _ _ _ _ _ _ _ _ _ _ _ _ _ _ _ _ _ _ _ _ _ _ _ _ _ _ _ _ _ _ _ _ _ _ _ _ _ _ _ _ _ _ _ _ _ _ _ _ _ _ _ _ _ _ _ _ _ _ _ _ _ _ _ _ _ _ _ _ _ _ _ _ _ _ _ _ _ _ _ _ _ _ _ _ _ _ _ _ _ _ _ _ _ _ _ _ _ _ _ _ _ _ _ _ _ _ _ _ _ _ _ _ _ _ _ _ _ _ _ _ _ _ _ _ _ _ _ _ _ _ _ _ _ _ _ _ _ _ _ _ _ _ _ _ _ _ _ _ _ _ _ _ _ _ _ _ _ _ _ _ _ _ _ _ _ _ _ _ _ _ _ _ _ _ _ _ _ _ _ _ _ _ _ _ _ _ _ _ _ _ _ _ _ _ _ _ _ _ _ _ _ _ _ _ _ _ (by assumption) kept
                  · have q2b : (x0 == 2) = false := by simp [q2]
                    have q2d : decide (x0 = 2) = false := decide_eq_false q2
                    by_cases q3 : x0 ≤ 4
                    · have q3b : decide (x0 ≤ 4) = true := decide_eq_true q3
                      cases inn with
                      | true =>
                        exact sw_push1 ⟨gdA, hj100, hx2, hcsl, hn0, hn4', spA, hale, sqA, hsA, hinA, bxA⟩ ⟨q1, q1b, q2, q2b, q2d, q3, q3b⟩ _ _ _ _ _ _ _ _ _ _ _ _ _ _ _ _ _ _ _ _ _ _ _ _ _ _ _ _ _ _ _ _ _ _ _ _ _ _ _ _ _ _ _ _ _ _ _ _ _ _ _ _ _ _ _ _ _ _ _ _ _ _ _ _ _ _ _ _ _ _ _ _ _ _ _ _ _ _ _ _ _ _ _ _ _ _ _ _ _ _ _ _ _ _ _ _ _ _ _ _ _ _ _ _ _ _ _ _ _ _ _ _ _ _ _ _ _ _ _ _ _ _ _ _ _ _ _ _ _ _ _ _ _ _ _ _ _ _ _ _ _ _ _ _ _ _ _ _ _ _ _ _ _ _ _ _ _ _ _ _ _ _ _ _ _ _ _ _ _ _ _ _ _ _ _ _ _ _ _ _ _ _ _ _ _ _ _ _ _ _ _ _ _ _ _ _ _ _ _ _ _ _ _ _ _ _ _ _ _ _ _ _ _ _ _ _ _ _ _ _ _ _ _ _ _ _ _ _ _ _ _ _ _ _ _ _ _ _ _ _ _ _ _ _ _ _ _ _ _ _ _ (by assumption) kept
                      | false =>
                        exact sw_push0 ⟨gdA, hj100, hx2, hcsl, hn0, hn4', spA, hale, sqA, hsA, hinA, bxA⟩ ⟨q1, q1b, q2, q2b, q2d, q3, q3b⟩ _ _ _ _ _ _ _ _ _ _ _ _ _ _ _ _ _ _ _ _ _ _ _ _ _ _ _ _ _ _ _ _ _ _ _ _ _ _ _ _ _ _ _ _ _ _ _ _ _ _ _ _ _ _ _ _ _ _ _ _ _ _ _ _ _ _ _ _ _ _ _ _ _ _ _ _ _ _ _ _ _ _ _ _ _ _ _ _ _ _ _ _ _ _ _ _ _ _ _ _ _ _ _ _ _ _ _ _ _ _ _ _ _ _ _ _ _ _ _ _ _ _ _ _ _ _ _ _ _ _ _ _ _ _ _ _ _ _ _ _ _ _ _ _ _ _ _ _ _ _ _ _ _ _ _ _ _ _ _ _ _ _ _ _ _ _ _ _ _ _ _ _ _ _ _ _ _ _ _ _ _ _ _ _ _ _ _ _ _ _ _ _ _ _ _ _ _ _ _ _ _ _ _ _ _ _ _ _ _ _ _ _ _ _ _ _ _ _ _ _ _ _ _ _ _ _ _ _ _ _ _ _ _ _ _ _ _ _ _ _ _ _ _ _ _ _ _ _ _ _ _ (by assumption) kept
                    · have q3b : decide (x0 ≤ 4) = false := decide_eq_false q3
                      cases inn with
                      | true =>
                        exact sw_pop1 ⟨gdA, hj100, hx2, hcsl, hn0, hn4', spA, hale, sqA, hsA, hinA, bxA⟩ ⟨q1, q1b, q2, q2b, q2d, q3, q3b⟩ _ _ _ _ _ _ _ _ _ _ _ _ _ _ _ _ _ _ _ _ _ _ _ _ _ _ _ _ _ _ _ _ _ _ _ _ _ _ _ _ _ _ _ _ _ _ _ _ _ _ _ _ _ _ _ _ _ _ _ _ _ _ _ _ _ _ _ _ _ _ _ _ _ _ _ _ _ _ _ _ _ _ _ _ _ _ _ _ _ _ _ _ _ _ _ _ _ _ _ _ _ _ _ _ _ _ _ _ _ _ _ _ _ _ _ _ _ _ _ _ _ _ _ _ _ _ _ _ _ _ _ _ _ _ _ _ _ _ _ _ _ _ _ _ _ _ _ _ _ _ _ _ _ _ _ _ _ _ _ _ _ _ _ _ _ _ _ _ _ _ _ _ _ _ _ _ _ _ _ _ _ _ _ _ _ _ _ _ _ _ _ _ _ _ _ _ _ _ _ _ _ _ _ _ _ _ _ _ _ _ _ _ _ _ _ _ _ _ _ _ _ _ _ _ _ _ _ _ _ _ _ _ _ _ _ _ _ _ _ _ _ _ _ _ _ _ _ _ _ _ _ (by assumption) kept
                      | false =>
                        exact sw_pop0 ⟨gdA, hj100, hx2, hcsl, hn0, hn4', spA, hale, sqA, hsA, hinA, bxA⟩ ⟨q1, q1b, q2, q2b, q2d, q3, q3b⟩ _ _ _ _ _ _ _ _ _ _ _ _ _ _ _ _ _ _ _ _ _ _ _ _ _ _ _ _ _ _ _ _ _ _ _ _ _ _ _ _ _ _ _ _ _ _ _ _ _ _ _ _ _ _ _ _ _ _ _ _ _ _ _ _ _ _ _ _ _ _ _ _ _ _ _ _ _ _ _ _ _ _ _ _ _ _ _ _ _ _ _ _ _ _ _ _ _ _ _ _ _ _ _ _ _ _ _ _ _ _ _ _ _ _ _ _ _ _ _ _ _ _ _ _ _ _ _ _ _ _ _ _ _ _ _ _ _ _ _ _ _ _ _ _ _ _ _ _ _ _ _ _ _ _ _ _ _ _ _ _ _ _ _ _ _ _ _ _ _ _ _ _ _ _ _ _ _ _ _ _ _ _ _ _ _ _ _ _ _ _ _ _ _ _ _ _ _ _ _ _ _ _ _ _ _ _ _ _ _ _ _ _ _ _ _ _ _ _ _ _ _ _ _ _ _ _ _ _ _ _ _ _ _ _ _ _ _ _ _ _ _ _ _ _ _ _ _ _ _ _ _ (by assumption) kept
              case rest =>
                obtain ⟨w6, hw6⟩ : ∃ w6, w6 = wc := ⟨_, rfl⟩
                rw [← hw6] at hcut ⊢
                clear hw6
                obtain ⟨F6, P6, m6, T6, adm6, capm6, cs6, A6, C6, rfl, sq6, gd6, hs6⟩ := hcut.out
                have e1 := (box0 hs6).2.1
                have K1 := alike_any (sq6.al gd6) (gd6.fits (by omega))
                have sq6A : Aside (Sq W w6 R F6 P6 m6 n T6 adm6 capm6 cs6 S A6 C6 T6) := sq6
                have gd6A : Aside (Good P6 m6 n T6 cs6 (j + 1)) := gd6
                have hs6A : Aside (w6.heap[Sb]? = some (.cells (stepC x0 x1 x2) 31 (0, 0))) := hs6
                clear sq6 gd6 hs6 hcut sqA hsA bxA spA gdA
                cases inn with
                | true =>
                  go_wp2_with (go_at_call 12; refine K1.mono ?_; clear K1; rintro e w7 ⟨rfl, b7⟩)
                  go_roundg (gj - 1)
                  case measure => have := hgA.out; omega
                  case rel => exact ⟨j + 1, F6, P6, m6, T6, adm6, capm6, cs6, A6, C6, rfl, by go_num, by have := hgA.out; omega, (show Aside _ from sq6A.out.kept b7), gd6A⟩
                | false =>
                  have hd : Aside (deep n T6 x1 = 0) := by
                    show _ = _
                    unfold deep
                    rw [← hinA.out]
                    rfl
                  go_wp2_with (first
                    | (go_at_call 12; refine K1.mono ?_; clear K1; rintro e w7 ⟨rfl, b7⟩; have e7 := (box0 ((b7.block Sb (Array.getElem?_eq_some_iff.1 hs6A.out).1).trans hs6A.out)).2.1; have K2 := (sq6A.out.kept b7).has.depth x1 0 hd.out)
                    | (go_at_call 13; refine K2.mono ?_; clear K2; rintro e w8 ⟨rfl, e8⟩; subst e8))
                  go_roundg (gj - 1)
                  case measure => have := hgA.out; omega
                  case rel => exact ⟨j + 1, F6, P6, m6, T6, adm6, capm6, cs6, A6, C6, rfl, by go_num, by have := hgA.out; omega, (show Aside _ from sq6A.out.kept b7), gd6A⟩
      · have hjz : ¬ (j : Int) < (len : Int) := by omega
        go_wp2
        go_ret
        exact ⟨rfl, sqA.out.below⟩
  · have h100z : (100 : Int) < (len : Int) := by omega
    go_enter Try.func3, Try.ntmps3
    go_wp2_with (first
      | (go_at_call 6; refine KN.mono ?_; clear KN; rintro e w0 ⟨rfl, b0⟩))
    go_ret
    exact ⟨rfl, b0⟩
end Go.Proofs.Ytjapmhipbipdbaa
