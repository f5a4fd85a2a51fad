/-
  The statements' own looks: whether a handle is in a row, whether it is held at all.
-/
import Derived.Test.YtjapmhipbipdbaaCountsW
import Derived.Test.YtjapmhipbipdbaaStacksW
namespace Go.Proofs.Ytjapmhipbipdbaa
open Go Go.RowKit

theorem mem_at {xs : List Int} {x : Int} {i : Nat} (hi : i < xs.length) (h : xs[i]! = x) : x ∈ xs := by
  rw [getElem!_pos xs i hi] at h
  rw [← h]
  exact List.getElem_mem hi
theorem take_no {xs : List Int} {x : Int} {i : Nat} (hi : i < xs.length) (h : ¬ xs[i]! = x) (k : x ∉ xs.take i) : x ∉ xs.take (i + 1) := by
  rw [getElem!_pos xs i hi] at h
  rw [List.take_add_one, List.getElem?_eq_getElem hi]
  simp only [Option.toList_some, List.mem_append, List.mem_singleton, not_or]
  exact ⟨k, fun e => h e.symm⟩
theorem no_take0 (xs : List Int) {x : Int} : x ∉ xs.take 0 := by simp
theorem no_csTake0 (cs : List (Int × Int)) {x : Int} : x ∉ (cs.take 0).map (·.1) := by simp
set_option maxHeartbeats 1600000 in
theorem isIn_any {w : World} {ad : Option Addr} {cap : Nat} {xs : List Int} (h : OwnH w ad cap xs) (hl : xs.length ≤ 1000000) (x : Int) (b : Bool) (hb : decide (x ∈ xs) = b) : Calls Try.prog 19 #[.slice ad xs.length cap, .int .u32 x] w fun e w' => e = .returned (.bool b) ∧ w' = w := by
  have hA : Aside (OwnH w ad cap xs) := h
  have hbA : Aside (decide (x ∈ xs) = b) := hb
  clear h hb
  go_enter Try.func19, Try.ntmps19
  go_wp2
  go_loopg [5] xs.length (fun g s wr => ∃ (i : Nat), s = .int .i64 (i : Int) ∧ i + g = xs.length ∧ wr = w ∧ Aside (x ∉ xs.take i))
  case atStart => exact ⟨0, rfl, by omega, rfl, no_take0 _⟩
  case round =>
    obtain ⟨i, rfl, hg, hw, hn⟩ := hrel
    subst hw
    by_cases hi : i < xs.length
    · have hiz : (i : Int) < (xs.length : Int) := by omega
      obtain ⟨gq, rfl⟩ := hA.out.form (by omega)
      have c1 := hA.out.cell (i := i) hi
      have hgA : Aside (i + gk = xs.length) := hg
      clear hg
      by_cases e : xs[i]! = x
      · have eA : Aside (x ∈ xs) := mem_at hi e
        rw [e] at c1
        clear e
        go_wp2
        go_ret
        refine ⟨?_, rfl⟩
        have := hbA.out
        rw [decide_eq_true eA.out] at this
        subst this
        rfl
      · have nA : Aside (x ∉ xs.take (i + 1)) := take_no hi e hn.out
        generalize xs[i]! = y at c1 e
        have hde : (y == x) = false := by simpa using e
        go_wp2
        go_roundg (gk - 1)
        case measure => have := hgA.out; omega
        case rel => exact ⟨i + 1, by go_num, by have := hgA.out; omega, rfl, nA⟩
    · have hiz : ¬ (i : Int) < (xs.length : Int) := by omega
      have hin : Aside (xs.length ≤ i) := by show _ ≤ _; omega
      go_wp2
      go_ret
      refine ⟨?_, rfl⟩
      have h1 := hn.out
      rw [List.take_of_length_le hin.out] at h1
      have := hbA.out
      rw [decide_eq_false h1] at this
      subst this
      rfl
theorem csTake_no {cs : List (Int × Int)} {x : Int} {i : Nat} {p : Int × Int} (hp : cs[i]? = some p) (h : ¬ p.1 = x) (k : x ∉ (cs.take i).map (·.1)) : x ∉ (cs.take (i + 1)).map (·.1) := by
  rw [List.take_add_one, hp, List.map_append]
  simp only [Option.toList_some, List.map_cons, List.map_nil, List.mem_append, List.mem_singleton, not_or]
  exact ⟨k, fun e => h e.symm⟩
set_option maxHeartbeats 1600000 in
theorem isRoot_any {w : World} {ad : Option Addr} {cap S n : Nat} {cs : List (Int × Int)} {A : Nat → Option Addr} {C : Nat → Nat} {T : Nat → List Int} (h : OwnC w ad cap cs) (k : Stk w S n A C T) (hl : cs.length ≤ 1000000) (hn : n ≤ 4) (hT : ∀ i, i < n → (T i).length ≤ 1000000) (x : Int)
    (hx : x ∈ cs.map (·.1) ∨ ∃ i, i < n ∧ x ∈ T i) : Calls Try.prog 18 #[.int .u32 x, .slice ad cs.length cap, .slice (some ⟨S, 0, none⟩) n n] w fun e w' => e = .returned (.bool true) ∧ w' = w := by
  have hA : Aside (OwnC w ad cap cs) := h
  have kA : Aside (Stk w S n A C T) := k
  have xA : Aside (x ∈ cs.map (·.1) ∨ ∃ i, i < n ∧ x ∈ T i) := hx
  have tA : Aside (∀ i, i < n → (T i).length ≤ 1000000) := hT
  clear h k hx hT
  go_enter Try.func18, Try.ntmps18
  go_wp2
  go_loopg [7] cs.length (fun g s wr => ∃ (i : Nat), s = .int .i64 (i : Int) ∧ i + g = cs.length ∧ wr = w ∧ Aside (x ∉ (cs.take i).map (·.1)))
  case atStart => exact ⟨0, rfl, by omega, rfl, no_csTake0 _⟩
  case round =>
    obtain ⟨i, rfl, hg, hw, hno⟩ := hrel
    subst hw
    by_cases hi : i < cs.length
    · have hiz : (i : Int) < (cs.length : Int) := by omega
      obtain ⟨gq, rfl⟩ := hA.out.form (by omega)
      obtain ⟨p, hp⟩ : ∃ p, cs[i]? = some p := ⟨_, List.getElem?_eq_getElem hi⟩
      obtain ⟨c1, c2⟩ := hA.out.cells hp
      have hgA : Aside (i + gk = cs.length) := hg
      clear hg
      by_cases e : p.1 = x
      · rw [e] at c1
        clear e hp
        go_wp2
        go_ret
        exact ⟨rfl, rfl⟩
      · have nA : Aside (x ∉ (cs.take (i + 1)).map (·.1)) := csTake_no hp e hno.out
        obtain ⟨y, z⟩ := p
        simp only at c1 c2 e
        have hde : (y == x) = false := by simpa using e
        clear hp
        go_wp2
        go_roundg (gk - 1)
        case measure => have := hgA.out; omega
        case rel => exact ⟨i + 1, by go_num, by have := hgA.out; omega, rfl, nA⟩
    · have hiz : ¬ (i : Int) < (cs.length : Int) := by omega
      have h1 : Aside (∃ i, i < n ∧ x ∈ T i) := by
        have h1 := hno.out
        rw [List.take_of_length_le (by omega)] at h1
        exact xA.out.resolve_left h1
      go_wp2
      go_loopg [8] n (fun g s wr2 => ∃ (v : Nat), s = .int .i64 (v : Int) ∧ v + g = n ∧ wr2 = wr ∧ Aside (∀ i, i < v → x ∉ T i))
      case atStart => exact ⟨0, rfl, by omega, rfl, (show Aside _ from fun i hi => by omega)⟩
      case round =>
        obtain ⟨v, rfl, hg2, hw2, hno2⟩ := hrel
        subst hw2
        by_cases hv : v < n
        · have hvz : (v : Int) < (n : Int) := by omega
          have c1 := kA.out.slice hv
          have hgA : Aside (v + gk = n) := hg2
          have hdec : ∃ b : Bool, decide (x ∈ T v) = b := ⟨_, rfl⟩
          obtain ⟨b, hb⟩ := hdec
          have K := isIn_any (kA.out.own v hv) (tA.out v hv) x b hb
          have hbA : Aside (decide (x ∈ T v) = b) := hb
          clear hg2 hb
          generalize (T v).length = tl at c1 K
          generalize A v = av at c1 K
          generalize C v = cv at c1 K
          cases b with
          | true =>
            go_wp2_with (go_at_call 19; refine K.mono ?_; clear K; rintro e w4 ⟨rfl, e4⟩; subst e4)
            go_ret
            exact ⟨rfl, rfl⟩
          | false =>
            have nA : Aside (∀ i, i < v + 1 → x ∉ T i) := fun i hi => by
              by_cases e : i = v
              · rw [e]; exact of_decide_eq_false hbA.out
              · exact hno2.out i (by omega)
            go_wp2_with (go_at_call 19; refine K.mono ?_; clear K; rintro e w4 ⟨rfl, e4⟩; subst e4)
            go_roundg (gk - 1)
            case measure => have := hgA.out; omega
            case rel => exact ⟨v + 1, by go_num, by have := hgA.out; omega, rfl, nA⟩
        · exfalso
          obtain ⟨i, hi, hx⟩ := h1.out
          exact hno2.out i (by omega) hx
end Go.Proofs.Ytjapmhipbipdbaa
