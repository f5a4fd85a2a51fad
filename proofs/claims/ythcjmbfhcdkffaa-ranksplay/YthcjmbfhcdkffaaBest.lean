/-
  The statements' own look for the best of a row of pairs.
-/
import Derived.Test.YthcjmbfhcdkffaaHas
import Derived.Deep.QuietTactic
import Derived.BigQuiet
namespace Go.Proofs.Ythcjmbfhcdkffaa
open Go Go.RowKit

/-- The best of the first j pairs so far. -/
def BestAt (I : Nat → Int × Int) (j : Nat) (v : Value) : Prop := (j = 0 ∧ v = .int .i64 (-1)) ∨ (0 < j ∧ ∃ b : Nat, b < j ∧ v = .int .i64 (b : Int) ∧ ∀ i, i < j → bet (I i) (I b) = false)
theorem BestAt.turn {I : Nat → Int × Int} {j b : Nat} (hb : ∀ i, i < j → bet (I i) (I b) = false) (h : bet (I j) (I b) = true) : BestAt I (j + 1) (.int .i64 (j : Int)) :=
  .inr ⟨by omega, j, by omega, rfl, fun i hi => by
    by_cases e : i = j
    · rw [e]; exact bet_self _
    · exact bet_le_lt (hb i (by omega)) h⟩
theorem BestAt.stay {I : Nat → Int × Int} {j b : Nat} (hbj : b < j) (hb : ∀ i, i < j → bet (I i) (I b) = false) (h : bet (I j) (I b) = false) : BestAt I (j + 1) (.int .i64 (b : Int)) :=
  .inr ⟨by omega, b, by omega, rfl, fun i hi => by
    by_cases e : i = j
    · rw [e]; exact h
    · exact hb i (by omega)⟩

set_option maxHeartbeats 1600000 in
set_option maxRecDepth 100000 in
theorem best_any {w : World} {ad : Option Addr} {n cap : Nat} {I : Nat → Int × Int} (h : OwnP w ad n cap I) (hn : n ≤ 1000000) :
    Calls Try.prog 10 #[.slice ad n cap] w fun e w' => ∃ v, e = .returned v ∧ BestAt I n v ∧ w'.Alike w ∧ w'.tape = w.tape := by
  go_enter Try.func10, Try.ntmps10
  go_wp2
  go_loopg [3, 4] n (fun g sb si wr => ∃ (j : Nat), j + g = n ∧ si = .int .i64 (j : Int) ∧ BestAt I j sb ∧ wr.Alike w ∧ wr.tape = w.tape)
  case atStart => exact ⟨0, by omega, rfl, .inl ⟨rfl, rfl⟩, ⟨rfl, rfl, rfl⟩, rfl⟩
  case round =>
    obtain ⟨j, hj, rfl, hb, hal, htp⟩ := hrel
    have hJ : Aside (j + gk = n) := hj
    have hT : Aside (wr.tape = w.tape) := htp
    clear htp
    by_cases hjn : j < n
    · have hjn' : (j : Int) < (n : Int) := by omega
      obtain ⟨g, rfl, hp⟩ := h.form (by omega)
      have hp' : PairsAt wr g n cap I := hp.of_block (by rw [hal.1])
      have c0 := hp'.cell0 hjn
      have c1 := hp'.cell1 hjn
      clear hj
      rcases hb with ⟨rfl, rfl⟩ | ⟨hj0, b, hbj, rfl, hbest⟩
      · go_wp2
        go_quiet (fail)
        go_wp2
        go_roundg (gk - 1)
        case measure => have := hJ.out; omega
        case rel =>
          have hj := hJ.out
          exact ⟨1, by omega, rfl, .inr ⟨by omega, 0, by omega, rfl, fun i hi => by (obtain rfl : i = 0 := by omega); exact bet_self _⟩, hal, hT.out⟩
      · have d0 := hp'.cell0 (i := b) (by omega)
        have d1 := hp'.cell1 (i := b) (by omega)
        have hbn' : (b : Int) < (n : Int) := by omega
        have hb0 : decide ((b : Int) < 0) = false := by simp
        have hturn := BestAt.turn hbest (j := j)
        have hstay := BestAt.stay hbj hbest
        generalize I j = x at c0 c1 hturn hstay
        generalize I b = y at d0 d1 hturn hstay
        obtain ⟨x0, x1⟩ := x
        obtain ⟨y0, y1⟩ := y
        simp only at c0 c1 d0 d1
        by_cases e1 : y1 < x1
        · have hd1 : decide (y1 < x1) = true := by simpa using e1
          have hres := hturn (by rw [bet_iff]; exact .inl e1)
          go_wp2
          go_quiet (fail)
          go_wp2
          go_roundg (gk - 1)
          case measure => have := hJ.out; omega
          case rel =>
            have hj := hJ.out
            exact ⟨j + 1, by omega, by go_num, hres, hal, hT.out⟩
        · have hd1 : decide (y1 < x1) = false := by simpa using e1
          by_cases e2 : x1 = y1
          · subst e2
            by_cases e3 : x0 < y0
            · have hd3 : decide (x0 < y0) = true := by simpa using e3
              have hres := hturn (by rw [bet_iff]; exact .inr ⟨rfl, e3⟩)
              clear e1
              go_wp2
              go_quiet (fail)
              go_wp2
              go_roundg (gk - 1)
              case measure => have := hJ.out; omega
              case rel =>
                have hj := hJ.out
                exact ⟨j + 1, by omega, by go_num, hres, hal, hT.out⟩
            · have hd3 : decide (x0 < y0) = false := by simpa using e3
              have hres := hstay (by rw [bet_not]; exact .inr ⟨rfl, by simp only; omega⟩)
              clear e1
              go_wp2
              go_quiet (fail)
              go_wp2
              go_roundg (gk - 1)
              case measure => have := hJ.out; omega
              case rel =>
                have hj := hJ.out
                exact ⟨j + 1, by omega, by go_num, hres, hal, hT.out⟩
          · have hd2 : decide (x1 = y1) = false := by simpa using e2
            have hres := hstay (by rw [bet_not]; simp only; omega)
            go_wp2
            go_quiet (fail)
            go_wp2
            go_roundg (gk - 1)
            case measure => have := hJ.out; omega
            case rel =>
              have hj := hJ.out
              exact ⟨j + 1, by omega, by go_num, hres, hal, hT.out⟩
    · obtain rfl : j = n := by omega
      clear hj
      go_wp2
      go_ret
      exact ⟨_, rfl, hb, hal, hT.out⟩
end Go.Proofs.Ythcjmbfhcdkffaa
