/-
  The walk of RefsCounts: one handle, protected so often and unprotected as often.
-/
import Derived.Test.YtjapmhipbipdbaaFace
import Derived.Test.YtjapmhipbipdbaaArg
namespace Go.Proofs.Ytjapmhipbipdbaa
open Go Go.RowKit

/-- One handle alone is protected, c times. -/
def cP (x : Int) (c : Nat) : Int → Option Int := fun j => if j = x then (if c = 0 then none else some (c : Int)) else none
abbrev T0 : Nat → List Int := fun _ => []
theorem cP_get (x : Int) (c : Nat) : (cP x c x).getD 0 = (c : Int) := by
  unfold cP
  rw [if_pos rfl]
  split
  · subst_vars; rfl
  · rfl
theorem cP_more (x : Int) (c : Nat) : ∀ k, at1 (cP x c) x (some ((c : Int) + 1)) k = cP x (c + 1) k := by
  intro k
  unfold at1 cP
  by_cases h : k = x
  · simp [h]
  · simp [h]
theorem cP_less (x : Int) (c : Nat) (h0 : 0 < c) : ∀ k, at1 (cP x (c + 1)) x (some (((c + 1 : Nat) : Int) - 1)) k = cP x c k := by
  intro k
  unfold at1 cP
  by_cases h : k = x
  · have : ¬ c = 0 := by omega
    simp [h, this]
  · simp [h]
theorem cP_gone (x : Int) (c : Nat) : ∀ k, at1 (cP x c) x none k = cP x 0 k := by
  intro k
  unfold at1 cP
  by_cases h : k = x
  · simp [h]
  · simp [h]
theorem cP_zero (x : Int) : ∀ k, (fun _ => none : Int → Option Int) k = cP x 0 k := by
  intro k
  unfold cP
  by_cases h : k = x
  · simp [h]
  · simp [h]
theorem one_roots {x : Int} {c : Nat} {l : List Int} (h : IsRoots (cP x c) 1 T0 l) : l = if c = 0 ∨ cst x = true then [] else [x] := by
  refine h.eq ?_ fun y => ?_
  · split <;> simp
  · unfold cP
    by_cases h0 : c = 0
    · simp [h0]
    · by_cases e : y = x
      · subst e
        cases hc : cst y <;> simp [h0]
      · cases hc : cst x <;> simp [h0, e]
theorem all_eq {P : Int → Option Int} {a b : List (Int × Int)} (h : IsAll P a) (k : IsAll P b) : a = b := by
  have h1 : a.map (·.1) = b.map (·.1) := rising_eq h.up k.up fun x => by
    simp only [List.mem_map]
    constructor
    · rintro ⟨⟨y, v⟩, hp, rfl⟩
      exact ⟨(y, v), (k.mem y v).2 ((h.mem y v).1 hp), rfl⟩
    · rintro ⟨⟨y, v⟩, hp, rfl⟩
      exact ⟨(y, v), (h.mem y v).2 ((k.mem y v).1 hp), rfl⟩
  apply List.ext_getElem?
  intro i
  have h2 := congrArg (·[i]?) h1
  simp only [List.getElem?_map] at h2
  cases ha : a[i]? with
  | none =>
    rw [ha] at h2
    cases hb : b[i]? with
    | none => rfl
    | some q => rw [hb] at h2; cases h2
  | some p =>
    rw [ha] at h2
    cases hb : b[i]? with
    | none => rw [hb] at h2; cases h2
    | some q =>
      rw [hb] at h2
      obtain ⟨p1, p2⟩ := p
      obtain ⟨q1, q2⟩ := q
      have e : p1 = q1 := by simpa using h2
      subst e
      have m1 := (h.mem p1 p2).1 (List.mem_of_getElem? ha)
      have m2 := (k.mem p1 q2).1 (List.mem_of_getElem? hb)
      rw [m1] at m2
      have : p2 = q2 := Option.some.inj m2
      rw [this]
theorem one_all {x : Int} {c : Nat} {l : List (Int × Int)} (h : IsAll (cP x c) l) : l = if c = 0 then [] else [(x, (c : Int))] := by
  refine all_eq h ⟨?_, fun k v => ?_⟩
  · split <;> simp
  · unfold cP
    by_cases h0 : c = 0
    · simp [h0]
    · by_cases e : k = x
      · subst e
        simp [h0, eq_comm]
      · simp [h0, e]
theorem cst_gt {x : Int} (h : 0 ≤ x) : cst x = false ↔ 1 < x := by
  unfold cst
  simp
  omega

set_option maxHeartbeats 1600000 in
set_option maxRecDepth 100000 in
theorem counts_walk (x n : Int) (hx : 0 ≤ x ∧ x < 4294967296) (hn : 0 ≤ n ∧ n < 256) (W : World) :
    Calls Try.prog 4 #[.int .u32 x, .int .u8 n] W fun e w' => e = .returned (.bool true) ∧ Below W.heap.size W w' := by
  obtain ⟨k, hk⟩ : ∃ k : Nat, n % 30 = (k : Int) := ⟨(n % 30).toNat, by omega⟩
  have hk30 : k < 30 := by omega
  have hkt : Int.tmod n 30 = (k : Int) := by rw [Int.tmod_eq_emod_of_nonneg hn.1]; exact hk
  have KN := known_any W
  clear hk
  go_enter Try.func4, Try.ntmps4
  go_wp2_with (first
    | (go_at_call 6; refine KN.mono ?_; clear KN; rintro e w0 ⟨rfl, b0⟩; have K0 := new_any 1 w0; rw [show wk 1 = 1 from rfl] at K0)
    | (go_at_call 7; refine K0.mono ?_; clear K0; rintro e w1 ⟨rfl, ⟨F1, h1, n1⟩, b1⟩))
  obtain ⟨R, hRd⟩ : ∃ R, R = w0.heap.size + 1 := ⟨_, rfl⟩
  rw [← hRd] at h1 ⊢
  have hs0 : Aside (W.heap.size ≤ w0.heap.size) := b0.size
  have hB1 : Below W.heap.size W w1 := b0.trans (b1.mono b0.size)
  have hF1 : ∀ b, F1 b → W.heap.size ≤ b := fun b hb => Nat.le_trans b0.size (n1 b hb)
  have h1 := h1.congr (cP_zero x)
  clear hRd b0 b1 n1
  have hx0 : 0 ≤ x := hx.1
  go_loopg [8] (k + 1) (fun g s wr => ∃ (c : Nat) (F : Nat → Prop), s = .int .i64 ((c : Int) + 1) ∧ c + g = k + 1 ∧ Aside (Has wr R F (cP x c) c 1 T0) ∧ Aside (∀ b, F b → W.heap.size ≤ b) ∧ Aside (Below W.heap.size W wr))
  case atStart => exact ⟨0, F1, rfl, by omega, h1, hF1, hB1⟩
  case round =>
    clear h1 hB1 hF1
    obtain ⟨c, F, rfl, hg, hH, hF, hB⟩ := hrel
    by_cases hck : c ≤ k
    · have hcz : (c : Int) + 1 ≤ (k : Int) + 1 := by omega
      have K1 := hH.out.protect x (c : Int) (cP_get x c) (by omega) (by omega)
      have hgA : Aside (c + gk = k + 1) := hg
      go_wp2_with (first
        | (go_at_call 8; refine K1.mono ?_; clear K1; rintro e w2 ⟨rfl, F2, h2, m2⟩; have h2 := h2.congr (cP_more x c); have K2 := h2.count x ((c : Int) + 1) (by rw [cP_get]; omega))
        | (go_at_call 14; refine K2.mono ?_; clear K2; rintro e w2 ⟨rfl, rfl⟩))
      have q := m2.old hF.out hB.out.size
      go_roundg (gk - 1)
      case measure => have := hgA.out; omega
      case rel => exact ⟨c + 1, F2, by go_num, by have := hgA.out; omega, h2, q.2, hB.out.trans q.1⟩
    · have hcz : ¬ (c : Int) + 1 ≤ (k : Int) + 1 := by omega
      have hck1 : c = k + 1 := by omega
      subst hck1
      clear hck hg
      go_wp2
      go_loopg [9] (k + 1) (fun c s wr => ∃ (m : Nat) (F : Nat → Prop), s = .int .i64 (c : Int) ∧ c ≤ k + 1 ∧ m + c ≤ 2 * (k + 1) ∧ Aside (Has wr R F (cP x c) m 1 T0) ∧ Aside (∀ b, F b → W.heap.size ≤ b) ∧ Aside (Below W.heap.size W wr))
      case atStart => exact ⟨k + 1, F, by go_num, Nat.le_refl _, by omega, hH, hF, hB⟩
      case round =>
        clear hH hB hF
        obtain ⟨m, F, rfl, hck, hm, hH, hF, hB⟩ := hrel
        have K1 := hH.out.roots (by simp [cat]; omega)
        cases gk with
        | zero =>
          have hz : ¬ (0 : Int) < ((0 : Nat) : Int) := by omega
          go_wp2_with (first
            | (go_at_call 15; refine K1.mono ?_; clear K1; rintro e w2 ⟨ad2, cap2, l2, rfl, hl2, _, o2, _, b2⟩; have e2 := one_roots hl2; simp at e2; subst e2; have h2 := hH.out.below b2; have K2 := h2.all (by omega))
            | (go_at_call 16; refine K2.mono ?_; clear K2; rintro e w3 ⟨ad3, cap3, l3, rfl, hl3, _, o3, _, b3⟩; have e3 := one_all hl3; simp at e3; subst e3; have h3 := h2.below b3; have K3 := h3.unprotect0 x (cP_get x 0); have K4 := h3.count x 0 (cP_get x 0))
            | (go_at_call 9; refine K3.mono ?_; clear K3; rintro e w3 ⟨rfl, rfl⟩)
            | (go_at_call 14; refine K4.mono ?_; clear K4; rintro e w3 ⟨rfl, rfl⟩))
          go_ret
          have s2 := hB.out.size
          exact ⟨rfl, (hB.out.trans (b2.mono s2)).trans (b3.mono (Nat.le_trans s2 b2.size))⟩
        | succ c =>
          have hz : (0 : Int) < ((c + 1 : Nat) : Int) := by omega
          have hcA : Aside (c + 1 ≤ k + 1 ∧ m + (c + 1) ≤ 2 * (k + 1)) := ⟨hck, hm⟩
          -- the call that takes one away, whichever it is
          have K3 : ∀ w, Has w R F (cP x (c + 1)) m 1 T0 → Calls Try.prog 9 #[.pointer (some ⟨R, 0, none⟩), .int .u32 x] w fun e w' => e = .returned (.int .i64 0) ∧ Has w' R F (cP x c) (m + 1) 1 T0 ∧ Moved F F w w' := fun w h => by
            by_cases h0 : c = 0
            · subst h0
              refine (h.unprotect1 x (by rw [cP_get]; rfl)).mono ?_
              rintro e w' ⟨rfl, h', mv⟩
              exact ⟨rfl, (h'.congr (cP_gone x 1)).more (by omega), mv⟩
            · refine (h.unprotect x ((c + 1 : Nat) : Int) (cP_get x (c + 1)) (by omega) (by omega)).mono ?_
              rintro e w' ⟨rfl, h', mv⟩
              exact ⟨rfl, h'.congr (cP_less x c (by omega)), mv⟩
          have fin : Aside (∀ w2 w3 w4, Below wr.heap.size wr w2 → Below w2.heap.size w2 w3 → Moved F F w3 w4 → Has w4 R F (cP x c) (m + 1) 1 T0 → ∃ (m' : Nat) (F' : Nat → Prop), Value.int .i64 (c : Int) = .int .i64 (c : Int) ∧ c ≤ k + 1 ∧ m' + c ≤ 2 * (k + 1) ∧ Aside (Has w4 R F' (cP x c) m' 1 T0) ∧ Aside (∀ b, F' b → W.heap.size ≤ b) ∧ Aside (Below W.heap.size W w4)) := fun w2 w3 w4 b2 b3 m4 h4 => by
            have h5 := hcA.out
            have s2 := hB.out.size
            have s3 : W.heap.size ≤ w2.heap.size := Nat.le_trans s2 b2.size
            have s4 : W.heap.size ≤ w3.heap.size := Nat.le_trans s3 b3.size
            exact ⟨m + 1, F, rfl, by omega, by omega, h4, hF, ((hB.out.trans (b2.mono s2)).trans (b3.mono s3)).trans (m4.old hF.out s4).1⟩
          have hK3 : Aside _ := K3
          clear K3
          have hm60 : m ≤ 60000 := by omega
          cases hc : cst x with
          | true =>
            have hx1 : ¬ (1 : Int) < x := fun e => by have := (cst_gt hx0).2 e; rw [hc] at this; cases this
            have hx1b : decide ((1 : Int) < x) = false := decide_eq_false hx1
            have hcA2 : Aside (cst x = true) := hc
            clear hc
            go_wp2_with (first
              | (go_at_call 15; refine K1.mono ?_; clear K1; rintro e w2 ⟨ad2, cap2, l2, rfl, hl2, _, o2, _, b2⟩; have e2 : l2 = [] := (by have := one_roots hl2; rw [if_pos (.inr hcA2.out)] at this; exact this); subst e2; have h2 := hH.out.below b2; have K2 := h2.all hm60)
              | (go_at_call 16; refine K2.mono ?_; clear K2; rintro e w3 ⟨ad3, cap3, l3, rfl, hl3, _, o3, _, b3⟩; have e3 := one_all hl3; rw [if_neg (by omega)] at e3; subst e3; have h3 := h2.below b3; have K4 := hK3.out w3 h3)
              | (go_at_call 9; refine K4.mono ?_; clear K4; rintro e w4 ⟨rfl, h4, m4⟩))
            go_roundg c
            case measure => omega
            case rel =>
              obtain ⟨m', F', _, q1, q2, q3, q4, q5⟩ := fin.out w2 w3 w4 b2 b3 m4 h4
              exact ⟨m', F', by go_num, q1, q2, q3, q4, q5⟩
          | false =>
            have hx1 : (1 : Int) < x := (cst_gt hx0).1 hc
            have hx1b : decide ((1 : Int) < x) = true := decide_eq_true hx1
            have hcA2 : Aside (cst x = false) := hc
            clear hc
            go_wp2_with (first
              | (go_at_call 15; refine K1.mono ?_; clear K1; rintro e w2 ⟨ad2, cap2, l2, rfl, hl2, _, o2, _, b2⟩; have e2 : l2 = [x] := (by have := one_roots hl2; rw [if_neg (by rw [hcA2.out]; simp)] at this; exact this); subst e2; have h2 := hH.out.below b2; have K2 := h2.all hm60)
              | (go_at_call 16; refine K2.mono ?_; clear K2; rintro e w3 ⟨ad3, cap3, l3, rfl, hl3, _, o3, _, b3⟩; have e3 := one_all hl3; rw [if_neg (by omega)] at e3; subst e3; have h3 := h2.below b3; have K4 := hK3.out w3 h3)
              | (go_at_call 9; refine K4.mono ?_; clear K4; rintro e w4 ⟨rfl, h4, m4⟩))
            go_roundg c
            case measure => omega
            case rel =>
              obtain ⟨m', F', _, q1, q2, q3, q4, q5⟩ := fin.out w2 w3 w4 b2 b3 m4 h4
              exact ⟨m', F', by go_num, q1, q2, q3, q4, q5⟩
end Go.Proofs.Ytjapmhipbipdbaa
