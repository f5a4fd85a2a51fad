/-
  The walk of DequePlays: for every size and every row of acts it tells true, and old memory is as it was.
-/
import Derived.Test.YtfpgdmnbehingaaQueue
import Derived.Test.YtfpgdmnbehingaaArg
namespace Go.Proofs.Ytfpgdmnbehingaa
open Go Go.RowKit

section
variable {W w w' : World} {R N T b n A F E L cap B : Nat} {V U : Nat → Int} {ad : Option Addr} {S : Ac}
theorem OwnQ.ran (o : OwnQ w B ad L cap U) (h : Has W w R N T b n F E V) (k : IsAct w A T S) (m : Went (Foot (R + 1) R A) w w') : OwnQ w' B ad L cap U := by
  obtain ⟨c, s, _⟩ := h
  obtain ⟨_, _, H⟩ := s.sys
  exact o.went H k m
theorem OwnQ.asked (o : OwnQ w B ad L cap U) (h : Has W w R N T b n F E V) (m : Moved (R + 1) R w w') : OwnQ w' B ad L cap U := by
  obtain ⟨c, s, _⟩ := h
  obtain ⟨_, _, H⟩ := s.sys
  exact o.moved H.mem m
theorem Has.queue (h : Has W w R N T b n F E V) (o : OwnQ w W.heap.size ad L cap U) (m : Went (At ad) w w') : Has W w' R N T b n F E V := by
  obtain ⟨c, s, q⟩ := h
  obtain ⟨_, _, H⟩ := s.sys
  exact ⟨c, ⟨⟨_, _, H.queue o m⟩, s.old.trans (m.below s.size fun k hk => (o.block k hk).1), s.hR⟩, q⟩
end

set_option maxRecDepth 100000 in
theorem plays_off (z : Int) (ad : Option Addr) (len cap : Nat) (W : World) (hlen : 100 < len) :
    Calls Try.prog 3 #[.int .u8 z, .slice ad len cap] W fun e w' => e = .returned (.bool true) ∧ Below W.heap.size W w' := by
  have K0 := known_any W
  have hd : decide (100 < (len : Int)) = true := by simp; omega
  go_enter Try.func3, Try.ntmps3
  go_wp2_with (first
    | (go_at_call 8; refine K0.mono ?_; clear K0; rintro e w1 ⟨rfl, b1⟩))
  go_ret
  exact ⟨rfl, b1⟩

set_option maxHeartbeats 8000000 in
set_option maxRecDepth 100000 in
theorem plays_walk (z : Int) (ad : Option Addr) (len cap b off : Nat) (Z : Nat → Int) (W : World) (hz : 0 ≤ z ∧ z ≤ 255) (hZ : Bytes W ad len b off Z) (hlen : len ≤ 100) :
    Calls Try.prog 3 #[.int .u8 z, .slice ad len cap] W fun e w' => e = .returned (.bool true) ∧ Below W.heap.size W w' := by
  obtain ⟨n, hn, hn1, hn2⟩ : ∃ n : Nat, z % 9 + 1 = (n : Int) ∧ 1 ≤ n ∧ n ≤ 9 := ⟨(z % 9 + 1).toNat, by omega, by omega, by omega⟩
  have K0 := known_any W
  have Kc := fun w => cells_any n w hn1 (by omega)
  have hd : decide (100 < (len : Int)) = false := by simp; omega
  have hd4 : ¬ 100 < len := by omega
  go_enter Try.func3, Try.ntmps3
  go_wp2_with (first
    | (go_at_call 8; refine K0.mono ?_; clear K0; rintro e w1 ⟨rfl, b1⟩; have K1 := new_any ((n : Int) + 2) w1; rw [held2 n (by omega)] at K1; obtain ⟨R, hR⟩ : ∃ R, R = w1.heap.size := ⟨_, rfl⟩; have hRA : Aside (R = w1.heap.size) := hR; rw [← hR] at K1; clear hR)
    | (go_at_call 10; refine (Kc _).mono ?_; clear Kc; rintro e w1 ⟨rfl, rfl⟩)
    | (go_at_call 9; refine K1.mono ?_; clear K1; rintro e w2 ⟨rfl, m2, b2, s2⟩; have s2A : Aside (w2.heap.size = R + 2) := s2; clear s2; have K4 := deque_new0 m2 n hn1 (by omega) (by omega) (by omega) empty_fit)
    | (go_at_call 11; refine K4.mono ?_; clear K4; rintro e w5 ⟨rfl, h5, b5, s5⟩; clear s5))
  obtain ⟨T, hT⟩ : ∃ T, T = w2.heap.size := ⟨_, rfl⟩
  have start : Has W w5 R (n + 2) T 0 n 0 0 (fun _ => 0) := by
    have q3 := hRA.out
    have q4 := s2A.out
    have q5 := b1.size
    rw [hT]
    have B2 : Below W.heap.size W w2 := far b1 (by rw [← q3]; exact b2) (by omega)
    exact Has.start ⟨⟨_, _, h5⟩, far B2 b5 B2.size, by omega⟩ _
  rw [← hT]
  clear hT h5 m2 b2 b5 b1 s2A hRA hn hz
  go_loopg [9, 10] len (fun g sq si wr => ∃ (i F L cap9 : Nat) (V : Nat → Int) (ad9 : Option Addr), i + g = len ∧ si = .int .i64 (i : Int) ∧ sq = .slice ad9 L cap9 ∧ F + L ≤ i ∧ Has W wr R (n + 2) T 0 n F (F + L) V ∧ OwnQ wr W.heap.size ad9 L cap9 (fun k => V (F + k)))
  case atStart => exact ⟨0, 0, 0, 0, _, none, by omega, rfl, rfl, by omega, start, OwnQ.nil _ _ _⟩
  case round =>
    clear start
    obtain ⟨i, F, L, cap9, V, ad9, hi, rfl, rfl, hFL, E, O⟩ := hrel
    have hI : Aside (i + gk = len) := hi
    have hIl : i ≤ len := by omega
    clear hi
    by_cases hil : i < len
    · have hil' : (i : Int) < (len : Int) := by omega
      obtain rfl := hZ.ad_ (by omega)
      have hc := hZ.kept E.old hil
      have hx := hZ.val i hil
      generalize Z i = x at hc hx
      obtain ⟨y, hy⟩ : ∃ y, x % 4 = y := ⟨_, rfl⟩
      have hyr : 0 ≤ y ∧ y ≤ 3 := by omega
      obtain ⟨v, hv⟩ : ∃ v, x + 100 * (i : Int) = v := ⟨_, rfl⟩
      have hvb : 0 ≤ v ∧ v ≤ 18446744073709551615 := by omega
      have q1 : IntKind.u64.wrap (i : Int) = (i : Int) := by rw [IntKind.wrap_u64]; omega
      have q2 : IntKind.u64.wrap x = x := by rw [IntKind.wrap_u64]; omega
      have hEl := E.le
      have hL9 : L ≤ 1000000 := by omega
      have hsm : F + L + 1 < 1000000000 := by omega
      have hLn : L ≤ n := by omega
      have hlen' : F + L - F = L := by omega
      have hLen : ∀ {w : World}, Has W w R (n + 2) T 0 n F (F + L) V → Calls Try.prog 16 #[.pointer (some ⟨T, 0, none⟩)] w fun e w' => e = .returned (.int .i64 (L : Int)) ∧ Has W w' R (n + 2) T 0 n F (F + L) V ∧ Moved (R + 1) R w w' := fun h => by
        have := q_len h
        rw [hlen'] at this
        exact this
      clear hEl
      by_cases h01 : y = 0 ∨ y = 1
      · have e0 : Aside ((y == 0) = true ∨ (y == 0) = false ∧ (y == 1) = true) := by
          rcases h01 with h | h
          · left; simp [h]
          · right; simp [h]
        have G1 := q_push E v
        by_cases hroom : L < n
        · have hd1 : decide ((L : Int) < (n : Int)) = true := by simp; omega
          have hd2 : (L : Int) < (n : Int) := by omega
          have hr2 : F + L < F + n := by omega
          have hlen2 : F + L + 1 - F = L + 1 := by omega
          clear h01 hLen
          rcases e0.out with e1 | ⟨e1, e2⟩
          · go_wp2_with (first
              | (go_at_call 13; refine G1.mono ?_; clear G1; rintro e w6 ⟨A, rfl, k1, a1, Z1, b6⟩; have O6 := O.below b6; have G2 := q_push_room Z1 v hvb.1 hvb.2 hr2 hsm k1 a1)
              | (go_at_call 12; refine G2.mono ?_; clear G2; rintro e w7 ⟨rfl, Z2, b7⟩; have O7 := O6.ran Z1 k1 b7; have B8 : Below w7.heap.size w7 (w7.alloc (.cells #[.int .u64 v] 32)) := (Below.refl _ _).alloc (Nat.le_refl _) _; have O8 := O7.below B8; have Z3 := Z2.below B8)
              | (at_builtin; refine append_q O8 w7.heap.size v (heap_new w7 _) hL9 Z3.size rfl _ _ rfl rfl rfl ?_; intro g9 off9 cap8 w9 O9 b9; have Z4 := Z3.queue O8 b9; have G3 := q_len Z4; rw [hlen2] at G3)
              | (go_at_call 16; refine G3.mono ?_; clear G3; rintro e wa ⟨rfl, Z5, ba⟩; have Oa := O9.asked Z4 ba))
            go_roundg (gk - 1)
            case measure => have := hI.out; omega
            case rel =>
              refine ⟨i + 1, F, L + 1, _, _, _, (by have := hI.out; omega), rfl, rfl, by omega, Z5.is rfl (by omega) (fun _ _ _ => rfl), Oa.congr fun j _ => ?_⟩
              by_cases d : j = L
              · rw [if_pos d, if_pos (by omega)]
              · rw [if_neg d, if_neg (by omega)]
          · go_wp2_with (first
              | (go_at_call 13; refine G1.mono ?_; clear G1; rintro e w6 ⟨A, rfl, k1, a1, Z1, b6⟩; have O6 := O.below b6; have G2 := q_push_room Z1 v hvb.1 hvb.2 hr2 hsm k1 a1)
              | (go_at_call 12; refine G2.mono ?_; clear G2; rintro e w7 ⟨rfl, Z2, b7⟩; have O7 := O6.ran Z1 k1 b7; have B8 : Below w7.heap.size w7 (w7.alloc (.cells #[.int .u64 v] 32)) := (Below.refl _ _).alloc (Nat.le_refl _) _; have O8 := O7.below B8; have Z3 := Z2.below B8)
              | (at_builtin; refine append_q O8 w7.heap.size v (heap_new w7 _) hL9 Z3.size rfl _ _ rfl rfl rfl ?_; intro g9 off9 cap8 w9 O9 b9; have Z4 := Z3.queue O8 b9; have G3 := q_len Z4; rw [hlen2] at G3)
              | (go_at_call 16; refine G3.mono ?_; clear G3; rintro e wa ⟨rfl, Z5, ba⟩; have Oa := O9.asked Z4 ba))
            go_roundg (gk - 1)
            case measure => have := hI.out; omega
            case rel =>
              refine ⟨i + 1, F, L + 1, _, _, _, (by have := hI.out; omega), rfl, rfl, by omega, Z5.is rfl (by omega) (fun _ _ _ => rfl), Oa.congr fun j _ => ?_⟩
              by_cases d : j = L
              · rw [if_pos d, if_pos (by omega)]
              · rw [if_neg d, if_neg (by omega)]
        · have hLe : L = n := by omega
          subst hLe
          have hd1 : decide ((L : Int) < (L : Int)) = false := by simp
          have hd2 : ¬ (L : Int) < (L : Int) := by omega
          clear h01
          rcases e0.out with e1 | ⟨e1, e2⟩
          · go_wp2_with (first
              | (go_at_call 13; refine G1.mono ?_; clear G1; rintro e w6 ⟨A, rfl, k1, a1, Z1, b6⟩; have O6 := O.below b6; have G2 := q_push_full Z1 v hvb.1 hvb.2 rfl k1 a1)
              | (go_at_call 12; refine G2.mono ?_; clear G2; rintro e w7 ⟨rfl, Z2, b7⟩; have O7 := O6.ran Z1 k1 b7; have G3 := hLen Z2)
              | (go_at_call 16; refine G3.mono ?_; clear G3; rintro e wa ⟨rfl, Z5, ba⟩; have Oa := O7.asked Z2 ba))
            go_roundg (gk - 1)
            case measure => have := hI.out; omega
            case rel => exact ⟨i + 1, F, L, _, _, _, (by have := hI.out; omega), rfl, rfl, by omega, Z5, Oa⟩
          · go_wp2_with (first
              | (go_at_call 13; refine G1.mono ?_; clear G1; rintro e w6 ⟨A, rfl, k1, a1, Z1, b6⟩; have O6 := O.below b6; have G2 := q_push_full Z1 v hvb.1 hvb.2 rfl k1 a1)
              | (go_at_call 12; refine G2.mono ?_; clear G2; rintro e w7 ⟨rfl, Z2, b7⟩; have O7 := O6.ran Z1 k1 b7; have G3 := hLen Z2)
              | (go_at_call 16; refine G3.mono ?_; clear G3; rintro e wa ⟨rfl, Z5, ba⟩; have Oa := O7.asked Z2 ba))
            go_roundg (gk - 1)
            case measure => have := hI.out; omega
            case rel => exact ⟨i + 1, F, L, _, _, _, (by have := hI.out; omega), rfl, rfl, by omega, Z5, Oa⟩
      · have e0 : (y == 0) = false := by simp; omega
        have e1 : (y == 1) = false := by simp; omega
        by_cases h2 : y = 2
        · have e2 : (y == 2) = true := by simp [h2]
          clear h01 h2
          have G1 := q_pop E
          by_cases hL0 : L = 0
          · subst hL0
            have hd1 : decide ((0 : Int) < 0) = false := by simp
            go_wp2_with (first
              | (go_at_call 14; refine G1.mono ?_; clear G1; rintro e w6 ⟨A, rfl, k1, a1, Z1, b6⟩; have O6 := O.below b6; have G2 := q_pop_none Z1 k1 a1)
              | (go_at_call 12; refine G2.mono ?_; clear G2; rintro e w7 ⟨rfl, Z2, b7⟩; have O7 := O6.ran Z1 k1 b7; have G3 := hLen Z2)
              | (go_at_call 16; refine G3.mono ?_; clear G3; rintro e wa ⟨rfl, Z5, ba⟩; have Oa := O7.asked Z2 ba))
            go_roundg (gk - 1)
            case measure => have := hI.out; omega
            case rel => exact ⟨i + 1, F, 0, _, _, _, (by have := hI.out; omega), rfl, rfl, by omega, Z5, Oa⟩
          · obtain ⟨l, rfl⟩ : ∃ l, L = l + 1 := ⟨L - 1, by omega⟩
            obtain ⟨g, off9, rfl⟩ := O.form (by omega)
            have hcl := O.cell (i := l) (by omega)
            have hd1 : decide ((0 : Int) < (l : Int) + 1) = true := decide_eq_true (by omega)
            have hd2 : (0 : Int) < (l : Int) + 1 := by omega
            have hlt : F < F + (l + 1) := by omega
            have hcap := O.room
            have hcap2 : (l : Int) ≤ (cap9 : Int) := by omega
            have hl1 : F + (l + 1) - 1 = F + l := by omega
            have hkeep : ∀ {u : World}, OwnQ u W.heap.size (some ⟨g, off9, none⟩) (l + 1) cap9 (fun k => V (F + k)) → u.cell? ⟨g, off9 + l, none⟩ = some (.int .u64 (V (F + l))) := fun o => o.cell (i := l) (by omega)
            clear hcl hLen
            obtain ⟨vv, hvv⟩ : ∃ vv, V (F + l) = vv := ⟨_, rfl⟩
            rw [hvv] at hkeep
            go_wp2_with (first
              | (go_at_call 14; refine G1.mono ?_; clear G1; rintro e w6 ⟨A, rfl, k1, a1, Z1, b6⟩; have O6 := O.below b6; have G2 := q_pop_some Z1 hlt k1 a1; rw [hl1, hvv] at G2)
              | (go_at_call 12; refine G2.mono ?_; clear G2; rintro e w7 ⟨rfl, ⟨F2, E2, hFE, Z2⟩, b7⟩; have O7 := O6.ran Z1 k1 b7; have c7 := hkeep O7; have hlen2 : E2 - F2 = l := (by omega); have G3 := q_len Z2; rw [hlen2] at G3)
              | (go_at_call 16; refine G3.mono ?_; clear G3; rintro e w8 ⟨rfl, Z3, b8⟩; have O8 := O7.asked Z2 b8))
            go_roundg (gk - 1)
            case measure => have := hI.out; omega
            case rel =>
              refine ⟨i + 1, F2, l, _, V, _, (by have := hI.out; omega), rfl, rfl, by omega, Z3.is rfl (by omega) (fun _ _ _ => rfl), (O8.init (by omega)).congr fun j hj => ?_⟩
              rcases hFE with ⟨e, _⟩ | ⟨_, _, e⟩
              · rw [e]
              · omega
        · have e2 : (y == 2) = false := by simpa using h2
          clear h01 h2
          have G1 := q_steal E
          by_cases hL0 : L = 0
          · subst hL0
            have hd1 : decide ((0 : Int) < 0) = false := by simp
            go_wp2_with (first
              | (go_at_call 15; refine G1.mono ?_; clear G1; rintro e w6 ⟨A, rfl, k1, a1, Z1, b6⟩; have O6 := O.below b6; have G2 := q_steal_none Z1 k1 a1)
              | (go_at_call 12; refine G2.mono ?_; clear G2; rintro e w7 ⟨rfl, Z2, b7⟩; have O7 := O6.ran Z1 k1 b7; have G3 := hLen Z2)
              | (go_at_call 16; refine G3.mono ?_; clear G3; rintro e wa ⟨rfl, Z5, ba⟩; have Oa := O7.asked Z2 ba))
            go_roundg (gk - 1)
            case measure => have := hI.out; omega
            case rel => exact ⟨i + 1, F, 0, _, _, _, (by have := hI.out; omega), rfl, rfl, by omega, Z5, Oa⟩
          · obtain ⟨l, rfl⟩ : ∃ l, L = l + 1 := ⟨L - 1, by omega⟩
            obtain ⟨g, off9, rfl⟩ := O.form (by omega)
            have hd1 : decide ((0 : Int) < (l : Int) + 1) = true := decide_eq_true (by omega)
            have hd2 : (0 : Int) < (l : Int) + 1 := by omega
            have hlt : F < F + (l + 1) := by omega
            have hcap := O.room
            have hcap1 : (1 : Int) ≤ (cap9 : Int) := by omega
            have hkeep : ∀ {u : World}, OwnQ u W.heap.size (some ⟨g, off9, none⟩) (l + 1) cap9 (fun k => V (F + k)) → u.cell? ⟨g, off9, none⟩ = some (.int .u64 (V F)) := fun o => o.cell (i := 0) (by omega)
            have hlen2 : F + (l + 1) - (F + 1) = l := by omega
            clear hLen
            obtain ⟨off2, hoff, hoA⟩ : ∃ off2 : Nat, (if cap9 = 1 then (some ⟨g, off9, none⟩ : Option Addr) else some ⟨g, off9 + 1, none⟩) = some ⟨g, off2, none⟩ ∧ Aside (off2 = off9 + 1 ∨ cap9 = 1 ∧ off2 = off9) := by
              by_cases d : cap9 = 1
              · exact ⟨off9, by rw [if_pos d], .inr ⟨d, rfl⟩⟩
              · exact ⟨off9 + 1, by rw [if_neg d], .inl rfl⟩
            obtain ⟨vv, hvv⟩ : ∃ vv, V F = vv := ⟨_, rfl⟩
            rw [hvv] at hkeep
            go_wp2_with (first
              | (go_at_call 15; refine G1.mono ?_; clear G1; rintro e w6 ⟨A, rfl, k1, a1, Z1, b6⟩; have O6 := O.below b6; have G2 := q_steal_some Z1 hlt k1 a1; rw [hvv] at G2)
              | (go_at_call 12; refine G2.mono ?_; clear G2; rintro e w7 ⟨rfl, Z2, b7⟩; have O7 := O6.ran Z1 k1 b7; have c7 := hkeep O7; have G3 := q_len Z2; rw [hlen2] at G3)
              | (go_at_call 16; refine G3.mono ?_; clear G3; rintro e w8 ⟨rfl, Z3, b8⟩; have O8 := O7.asked Z2 b8))
            go_roundg (gk - 1)
            case measure => have := hI.out; omega
            case rel =>
              refine ⟨i + 1, F + 1, l, _, V, _, (by have := hI.out; omega), rfl, rfl, by omega, Z3.is rfl (by omega) (fun _ _ _ => rfl), (O8.tail hoA.out).congr fun j _ => ?_⟩
              show V (F + (j + 1)) = V (F + 1 + j)
              rw [show F + (j + 1) = F + 1 + j by omega]
    · obtain rfl : i = len := by omega
      have hil' : ¬ (i : Int) < (i : Int) := by omega
      go_wp2_with fail
      go_ret
      exact ⟨rfl, E.old⟩
end Go.Proofs.Ytfpgdmnbehingaa
