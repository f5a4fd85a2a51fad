/-
  The walk of DequeTurns: for every size and every turns it tells true, and old memory is as it was.
-/
import Derived.Test.YtfpgdmnbehingaaSeen
import Derived.Test.YtfpgdmnbehingaaArg
namespace Go.Proofs.Ytfpgdmnbehingaa
open Go Go.RowKit

set_option maxRecDepth 100000 in
theorem turns_off (z : Int) (ad : Option Addr) (len cap : Nat) (W : World) (hlen : 600 < len) :
    Calls Try.prog 4 #[.int .u8 z, .slice ad len cap] W fun e w' => e = .returned (.bool true) ∧ Below W.heap.size W w' := by
  have K0 := known_any W
  have hd : decide (600 < (len : Int)) = true := by simp; omega
  go_enter Try.func4, Try.ntmps4
  go_wp2_with (first
    | (go_at_call 8; refine K0.mono ?_; clear K0; rintro e w1 ⟨rfl, b1⟩))
  go_ret
  exact ⟨rfl, b1⟩

section
variable {W w : World} {G R T n j : Nat} {ptr : Nat → Option Nat} {Ss : Nat → Ac}
theorem Turn.old (h : Turn W w G R T n j ptr Ss) : Below W.heap.size W w := by
  obtain ⟨_, _, _, _, _, _, _, _, _, _, _, _, _, _, _, H, _⟩ := h.ex
  exact H.old
theorem Turn.c2 (h : Turn W w G R T n j ptr Ss) : w.cell? ⟨G, 2, none⟩ = some (pt (ptr 0)) := by
  obtain ⟨_, _, _, _, _, _, _, _, _, _, _, _, _, _, _, H, _⟩ := h.ex
  exact H.hd.c2
theorem Turn.cT (h : Turn W w G R T n j ptr Ss) {k : Nat} (hk : k < 3) : w.cell? ⟨G, 4 + k, none⟩ = some (pt (ptr (k + 1))) := by
  obtain ⟨_, _, _, _, _, _, _, _, _, _, _, _, _, _, _, H, _⟩ := h.ex
  exact H.hd.cT hk
theorem Turn.c13 (h : Turn W w G R T n j ptr Ss) : w.cell? ⟨G, 13, none⟩ = some (.bool true) := by
  obtain ⟨_, _, _, _, _, _, _, _, _, _, _, _, _, _, _, H, _⟩ := h.ex
  exact H.hd.c13
theorem Turn.mu_le (h : Turn W w G R T n j ptr Ss) {q : Nat} (hq : q < 4) : (Ss q).mu ≤ 16 := by
  obtain ⟨_, _, _, _, _, _, _, _, _, _, _, _, _, _, _, _, Gm⟩ := h.ex
  exact (Gm.fit q hq).mu_le
end

set_option maxHeartbeats 16000000 in
set_option maxRecDepth 100000 in
theorem turns_walk (z : Int) (ad : Option Addr) (len cap b off : Nat) (Z : Nat → Int) (W : World) (hz : 0 ≤ z ∧ z ≤ 255) (hZ : Bytes W ad len b off Z) (hlen : len ≤ 600) :
    Calls Try.prog 4 #[.int .u8 z, .slice ad len cap] W fun e w' => e = .returned (.bool true) ∧ Below W.heap.size W w' := by
  obtain ⟨n, hn, hn1, hn2⟩ : ∃ n : Nat, z % 6 + 1 = (n : Int) ∧ 1 ≤ n ∧ n ≤ 6 := ⟨(z % 6 + 1).toNat, by omega, by omega, by omega⟩
  have K0 := known_any W
  have Kc := fun w => cells_any n w hn1 (by omega)
  have hd : decide (600 < (len : Int)) = false := by simp; omega
  have hd4 : ¬ 600 < len := by omega
  go_enter Try.func4, Try.ntmps4
  go_wp2_with (first
    | (go_at_call 8; refine K0.mono ?_; clear K0; rintro e w1 ⟨rfl, b1⟩; have K1 := new_any ((n : Int) + 2) w1; rw [held2 n (by omega)] at K1; obtain ⟨R, hR⟩ : ∃ R, R = w1.heap.size := ⟨_, rfl⟩; have hRA : Aside (R = w1.heap.size) := hR; rw [← hR] at K1; clear hR)
    | (go_at_call 10; refine (Kc _).mono ?_; clear Kc; rintro e w1 ⟨rfl, rfl⟩)
    | (go_at_call 9; refine K1.mono ?_; clear K1; rintro e w2 ⟨rfl, m2, b2, s2⟩; have s2A : Aside (w2.heap.size = R + 2) := s2; clear s2; have K4 := deque_new0 m2 n hn1 (by omega) (by omega) (by omega) empty_fit)
    | (go_at_call 11; refine K4.mono ?_; clear K4; rintro e w5 ⟨rfl, h5, b5, s5⟩; clear s5; obtain ⟨T, hT⟩ : ∃ T, T = w2.heap.size := ⟨_, rfl⟩; rw [← hT] at h5 ⊢; have hTA : Aside (T = w2.heap.size) := hT; clear hT))
  have start : Turn W _ w5.heap.size R T n 0 (fun _ => none) (fun _ => idle) := Turn.start (w := w5) (W := W) (by
    have q3 := hRA.out
    have q4 := s2A.out
    have q5 := b1.size
    have B2 : Below W.heap.size W w2 := far b1 (by rw [← q3]; exact b2) (by omega)
    exact ⟨⟨_, _, h5⟩, far B2 b5 B2.size, by omega⟩) ⟨_, h5⟩
  obtain ⟨G, hG⟩ : ∃ G, G = w5.heap.size := ⟨_, rfl⟩
  rw [← hG] at start ⊢
  clear hG h5 m2 b2 b5 b1 s2A hRA hTA hn hz
  go_loopg [10] len (fun g si wr => ∃ (i : Nat) (ptr : Nat → Option Nat) (Ss : Nat → Ac), i + g = len ∧ si = .int .i64 (i : Int) ∧ Turn W wr G R T n i ptr Ss)
  case atStart => exact ⟨0, _, _, by omega, rfl, start⟩
  case round =>
    clear start
    obtain ⟨i, ptr, Ss, hi, rfl, E⟩ := hrel
    have hI : Aside (i + gk = len) := hi
    have hij : i ≤ 100000 := by omega
    by_cases hil : i < len
    · have hil' : (i : Int) < (len : Int) := by omega
      obtain rfl := hZ.ad_ (by omega)
      have hc := hZ.kept E.old hil
      have hx := hZ.val i hil
      generalize Z i = x at hc hx
      obtain ⟨y, hy⟩ : ∃ y, x % 8 = y := ⟨_, rfl⟩
      have hyr : 0 ≤ y ∧ y ≤ 7 := by omega
      clear hi
      by_cases h4 : y < 4
      · have e4 : decide (y < 4) = true := decide_eq_true h4
        obtain ⟨u, hu⟩ : ∃ u, x / 8 = u := ⟨_, rfl⟩
        have hur : 0 ≤ u ∧ u ≤ 255 := by omega
        have hut : Int.tdiv x 8 = u := by rw [Int.tdiv_eq_ediv_of_nonneg hx.1]; exact hu
        have K1 := owns_any E hij u hur
        go_wp2_with (first
          | (go_at_call 17; refine K1.mono ?_; clear K1; rintro e w6 ⟨rfl, p, S', E6, _⟩))
        go_roundg (gk - 1)
        case measure => have := hI.out; omega
        case rel => exact ⟨i + 1, _, _, (by have := hI.out; omega), rfl, E6⟩
      · have e4 : decide (y < 4) = false := decide_eq_false h4
        obtain ⟨k, hk, hk3⟩ : ∃ k : Nat, (y - 4) % 3 = (k : Int) ∧ k < 3 := ⟨((y - 4) % 3).toNat, by omega, by omega⟩
        have hkt : Int.tmod (y - 4) 3 = (k : Int) := by rw [Int.tmod_eq_emod_of_nonneg (by omega)]; exact hk
        have K1 := steals_any E hij hk3
        go_wp2_with (first
          | (go_at_call 18; refine K1.mono ?_; clear K1; rintro e w6 ⟨rfl, p, S', E6, _⟩))
        go_roundg (gk - 1)
        case measure => have := hI.out; omega
        case rel => exact ⟨i + 1, _, _, (by have := hI.out; omega), rfl, E6⟩
    · obtain rfl : i = len := by omega
      have hil' : ¬ (i : Int) < (i : Int) := by omega
      have hmu := E.mu_le (q := 0) (by omega)
      clear hi hI
      go_wp2_with fail
      go_loopg [12] 17 (fun g si wr => ∃ (a : Nat) (ptr : Nat → Option Nat) (Ss : Nat → Ac), a + g = 17 ∧ si = .int .i64 (a : Int) ∧ Aside (ptr 0 = none ∨ (Ss 0).mu + a ≤ 16) ∧ Turn W wr G R T n (i + a) ptr Ss)
      case atStart => exact ⟨0, _, _, by omega, rfl, .inr hmu, E⟩
      case round =>
        clear E hmu hil'
        obtain ⟨a, ptr, Ss, ha, rfl, hm, E⟩ := hrel
        have hA : Aside (a + gk = 17) := ha
        have haj : i + a ≤ 100000 := by omega
        have ha17 : a ≤ 17 := by omega
        have c2 := E.c2
        by_cases hgo : a < 17 ∧ ∃ A, ptr 0 = some A
        · obtain ⟨hal, A, hpA⟩ := hgo
          have hal' : (a : Int) < 17 := by omega
          rw [hpA] at c2
          have c2' : wr.cell? ⟨G, 2, none⟩ = some (.pointer (some ⟨A, 0, none⟩)) := c2
          have K1 := owns_any E haj 1 (by omega)
          have hmA : Aside (∀ (p : Option Nat) (S' : Ac), (p = none ∨ ptr 0 = none ∨ S'.mu + 1 ≤ (Ss 0).mu) → setP ptr 0 p 0 = none ∨ (setS Ss 0 S' 0).mu + (a + 1) ≤ 16) := fun p S' q => by
            rw [setP_same, setS_same]
            rcases q with q | q | q
            · exact .inl q
            · rw [hpA] at q; cases q
            · rcases hm.out with r | r
              · rw [hpA] at r; cases r
              · exact .inr (by omega)
          clear ha hpA c2 hal
          go_wp2_with (first
            | (go_at_call 17; refine K1.mono ?_; clear K1; rintro e w6 ⟨rfl, p, S', E6, hq6⟩))
          go_roundg (gk - 1)
          case measure => have := hA.out; omega
          case rel => exact ⟨a + 1, _, _, (by have := hA.out; omega), rfl, hmA.out p S' hq6, E6⟩
        · have hp0 : ptr 0 = none := by
            cases e : ptr 0 with
            | none => rfl
            | some A =>
              have h17 : ¬ a < 17 := fun d => hgo ⟨d, A, e⟩
              rcases hm.out with r | r
              · rw [e] at r; cases r
              · omega
          rw [hp0] at c2
          have c2' : wr.cell? ⟨G, 2, none⟩ = some (.pointer none) := c2
          have hpA : Aside (ptr 0 = none) := hp0
          clear hgo hp0 c2 hm ha
          have hjj : i + a ≤ i + 17 := by omega
          generalize i + a = jj at E haj hjj
          go_upto_region 19 with fail
          go_cut [81] from 73 to 81 (fun sb w => sb = .bool false ∧ w = wr)
          case first =>
            by_cases hal : a < 17
            · have hal' : (a : Int) < 17 := by omega
              go_wp2_with fail
              go_meet
              case rel => exact ⟨rfl, rfl⟩
            · have hal' : ¬ (a : Int) < 17 := by omega
              go_wp2_with fail
              go_meet
              case rel => exact ⟨rfl, rfl⟩
          case rest =>
            obtain ⟨rfl, rfl⟩ := hcut
            clear c2' hA
            have hn0 : Aside (∀ q, q ≤ 0 → ptr q = none) := fun q hq => by rw [show q = 0 by omega]; exact hpA.out
            go_wp2_with fail
            go_loopg [13] 3 (fun g si wr => ∃ (k jj : Nat) (ptr : Nat → Option Nat) (Ss : Nat → Ac), k + g = 3 ∧ si = .int .i64 (k : Int) ∧ Aside (∀ q, q ≤ k → ptr q = none) ∧ jj ≤ i + 17 + 17 * k ∧ Turn W wr G R T n jj ptr Ss)
            case atStart => exact ⟨0, jj, _, _, by omega, rfl, hn0, by omega, E⟩
            case round =>
              clear E hpA hjj hn0
              obtain ⟨k, jj, ptr, Ss, hk, rfl, hnil, hjj, E⟩ := hrel
              have hKA : Aside (k + gk = 3) := hk
              by_cases hk3 : k < 3
              · have hk3' : (k : Int) < 3 := by omega
                have hmu := E.mu_le (q := k + 1) (by omega)
                clear hk
                obtain ⟨go, hgo⟩ : ∃ go, go = gk := ⟨_, rfl⟩
                rw [← hgo] at hKA
                go_wp2_with fail
                go_loopg [14] 17 (fun g si wr => ∃ (a jj : Nat) (ptr : Nat → Option Nat) (Ss : Nat → Ac), a + g = 17 ∧ si = .int .i64 (a : Int) ∧ Aside (∀ q, q ≤ k → ptr q = none) ∧ Aside (ptr (k + 1) = none ∨ (Ss (k + 1)).mu + a ≤ 16) ∧ jj ≤ i + 17 + 17 * k + a ∧ Turn W wr G R T n jj ptr Ss)
                case atStart => exact ⟨0, jj, _, _, by omega, rfl, hnil, .inr hmu, by omega, E⟩
                case round =>
                  clear E hmu hnil hjj
                  obtain ⟨a, jj, ptr, Ss, ha, rfl, hnil, hm, hjj, E⟩ := hrel
                  have hA : Aside (a + gk = 17) := ha
                  have ha17 : a ≤ 17 := by omega
                  have haj : jj ≤ 100000 := by omega
                  have c2 := E.cT hk3
                  by_cases hgo2 : a < 17 ∧ ∃ A, ptr (k + 1) = some A
                  · obtain ⟨hal, A, hpA⟩ := hgo2
                    have hal' : (a : Int) < 17 := by omega
                    rw [hpA] at c2
                    have c2' : wr.cell? ⟨G, 4 + k, none⟩ = some (.pointer (some ⟨A, 0, none⟩)) := c2
                    have K1 := steals_any E haj hk3
                    have hmA : Aside (∀ (p : Option Nat) (S' : Ac), (p = none ∨ ptr (k + 1) = none ∨ S'.mu + 1 ≤ (Ss (k + 1)).mu) → (∀ q, q ≤ k → setP ptr (k + 1) p q = none) ∧ (setP ptr (k + 1) p (k + 1) = none ∨ (setS Ss (k + 1) S' (k + 1)).mu + (a + 1) ≤ 16)) := fun p S' q => by
                      rw [setP_same, setS_same]
                      refine ⟨fun r hr => by rw [setP_other _ _ (by omega)]; exact hnil.out r hr, ?_⟩
                      rcases q with q | q | q
                      · exact .inl q
                      · rw [hpA] at q; cases q
                      · rcases hm.out with r | r
                        · rw [hpA] at r; cases r
                        · exact .inr (by omega)
                    clear ha hpA c2 hal hm hnil
                    go_wp2_with (first
                      | (go_at_call 18; refine K1.mono ?_; clear K1; rintro e w6 ⟨rfl, p, S', E6, hq6⟩))
                    go_roundg (gk - 1)
                    case measure => have := hA.out; omega
                    case rel => exact ⟨a + 1, jj + 1, _, _, (by have := hA.out; omega), rfl, (hmA.out p S' hq6).1, (hmA.out p S' hq6).2, by omega, E6⟩
                  · have hp0 : ptr (k + 1) = none := by
                      cases e : ptr (k + 1) with
                      | none => rfl
                      | some A =>
                        have h17 : ¬ a < 17 := fun d => hgo2 ⟨d, A, e⟩
                        rcases hm.out with r | r
                        · rw [e] at r; cases r
                        · omega
                    rw [hp0] at c2
                    have c2' : wr.cell? ⟨G, 4 + k, none⟩ = some (.pointer none) := c2
                    have hnil2 : Aside (∀ q, q ≤ k + 1 → ptr q = none) := fun q hq => by
                      by_cases d : q = k + 1
                      · rw [d]; exact hp0
                      · exact hnil.out q (by omega)
                    clear hgo2 hp0 c2 hm ha hnil
                    go_upto_region 26 with fail
                    go_cut [100] from 90 to 100 (fun sb w => sb = .bool false ∧ w = wr)
                    case first =>
                      by_cases hal : a < 17
                      · have hal' : (a : Int) < 17 := by omega
                        go_wp2_with fail
                        go_meet
                        case rel => exact ⟨rfl, rfl⟩
                      · have hal' : ¬ (a : Int) < 17 := by omega
                        go_wp2_with fail
                        go_meet
                        case rel => exact ⟨rfl, rfl⟩
                    case rest =>
                      obtain ⟨rfl, rfl⟩ := hcut
                      clear c2' hA
                      go_wp2_with fail
                      go_roundg (go - 1)
                      case measure => have := hKA.out; omega
                      case rel => exact ⟨k + 1, jj, _, _, (by have := hKA.out; omega), rfl, hnil2.out, by omega, E⟩
              · obtain rfl : k = 3 := by omega
                have c13 := E.c13
                have c2 : wr.cell? ⟨G, 2, none⟩ = some (.pointer none) := (by have := E.c2; rw [hnil.out 0 (by omega)] at this; exact this)
                have c4 : wr.cell? ⟨G, 4, none⟩ = some (.pointer none) := (by have := E.cT (k := 0) (by omega); rw [hnil.out 1 (by omega)] at this; exact this)
                have c5 : wr.cell? ⟨G, 5, none⟩ = some (.pointer none) := (by have := E.cT (k := 1) (by omega); rw [hnil.out 2 (by omega)] at this; exact this)
                have c6 : wr.cell? ⟨G, 6, none⟩ = some (.pointer none) := (by have := E.cT (k := 2) (by omega); rw [hnil.out 3 (by omega)] at this; exact this)
                obtain ⟨c, o, push, stp, adK, capK, L, K, adP, capP, P, F, F2, V, hP, hL, H, hH, hB⟩ := E.over (fun q hq => hnil.out q (by omega))
                have hPs : P ≤ 10000 := by omega
                have hLs : L ≤ 10000 := by omega
                clear hk hKA hnil hjj E hP hL
                have c11 := H.hd.c11
                have c12 := H.hd.c12
                have hmk := fun w => make_bools (P + 1) (by omega) w
                have hmk' : ∀ w : World, (Instr.makeSlice 47 (.int .i64 ((P : Int) + 1)) (.int .i64 ((P : Int) + 1))).run Try.prog w = .ok (.slice (some ⟨w.heap.size, 0, none⟩) (P + 1) (P + 1)) (w.alloc (.cells (madeCells #[.bool false] (P + 1)) 4)) := hmk
                clear hmk
                go_upto_region 32 with fail
                have B8 : Below wr.heap.size wr (wr.alloc (.cells (madeCells #[.bool false] (P + 1)) 4)) := (Below.refl _ _).alloc (Nat.le_refl _) _
                have H8 := H.new B8
                have hWB : Aside (W.heap.size ≤ wr.heap.size) := H.size
                have row8 : (wr.alloc (.cells (madeCells #[.bool false] (P + 1)) 4)).rowIs wr.heap.size 4 (P + 1) (fun x => .bool (seenF K 0 x)) := World.rowIs_made wr (.bool false) (P + 1) 4
                obtain ⟨Bk, hBk⟩ : ∃ Bk, Bk = wr.heap.size := ⟨_, rfl⟩
                rw [← hBk] at row8 hWB ⊢
                generalize (wr.alloc (.cells (madeCells #[.bool false] (P + 1)) 4)) = w8 at H8 row8 ⊢
                clear B8 H hBk c2 c4 c5 c6 c11 c12 c13 hmk'
                have hBA : Aside (Book F F2 V P K L) := hB
                clear hB
                go_wp2_with fail
                go_loopg [16] L (fun g si w => ∃ i : Nat, i + g = L ∧ si = .int .i64 (i : Int) ∧ WorldI W w G R T n c o ptr Ss push stp adK capK L K adP capP P ∧ w.rowIs Bk 4 (P + 1) (fun x => .bool (seenF K i x)))
                case atStart => exact ⟨0, by omega, rfl, H8, row8⟩
                case round =>
                  clear H8 row8
                  obtain ⟨a, ha, rfl, H, row⟩ := hrel
                  have hA : Aside (a + gk = L) := ha
                  have haL : a ≤ L := by omega
                  have c11 := H.hd.c11
                  have c12 := H.hd.c12
                  clear ha
                  by_cases hal : a < L
                  · have hal' : (a : Int) < (L : Int) := by omega
                    obtain ⟨gK, rfl⟩ := H.took.form (by omega)
                    have hcK := H.took.cell hal
                    have hrng := hBA.out.rng a hal
                    obtain ⟨x, hx⟩ : ∃ x : Nat, K a = (x : Int) := ⟨(K a).toNat, by omega⟩
                    have hun := hBA.out.unseen hal hx
                    have hxA : Aside (K a = (x : Int)) := hx
                    rw [hx] at hrng hcK
                    have hx1 : ¬ (x : Int) < 1 := by omega
                    have hxP : ¬ (P : Int) < (x : Int) := by omega
                    have hxP' : x < P + 1 := by omega
                    have hxI : (x : Int) < (P : Int) + 1 := by omega
                    have hpw : IntKind.u64.wrap (P : Int) = (P : Int) := by rw [IntKind.wrap_u64]; omega
                    have hpw2 : (P : Int) % 18446744073709551616 = (P : Int) := by omega
                    have hcs := row.cell hxP'
                    rw [hun] at hcs
                    have hfz := row.frozen x
                    have H2 := H.beside row hWB.out (Only.set Bk x _ (.bool true))
                    have row2 := row.set x (.bool true)
                    clear hun hx
                    go_wp2_with fail
                    go_roundg (gk - 1)
                    case measure => have := hA.out; omega
                    case rel =>
                      refine ⟨a + 1, (by have := hA.out; omega), rfl, H2, row2.congr fun y _ => ?_⟩
                      show (if y = x then Value.bool true else .bool (seenF K a y)) = .bool (seenF K a y || decide (K a = (y : Int)))
                      rw [hxA.out]
                      by_cases d : y = x
                      · subst d; simp
                      · rw [if_neg d, decide_eq_false (by omega), Bool.or_false]
                  · obtain rfl : a = L := by omega
                    have hal' : ¬ (a : Int) < (a : Int) := by omega
                    have S0 : SeenI W _ G R T n F F2 V (.slice adK a capK) adP capP P Bk (seenF K a) := ⟨⟨c, H.stand, hH⟩, ⟨_, _, _, H.hd⟩, row⟩
                    have h0A : Aside (F ≤ F ∧ (∀ i, F ≤ i → i < F → V i < ((1 : Nat) : Int)) ∧ ∀ i, F ≤ i → i < F2 → ((1 : Nat) : Int) ≤ V i) := ⟨Nat.le_refl _, fun i q1 q2 => absurd q2 (by omega), fun i q1 q2 => (hBA.out.live i q1 q2).1⟩
                    clear hA hH row H
                    go_wp2_with fail
                    clear c11 c12
                    go_loopg [18] P (fun g sv w => ∃ v F' : Nat, v + g = P + 1 ∧ 1 ≤ v ∧ sv = .int .i64 (v : Int) ∧ Aside (F ≤ F' ∧ (∀ i, F ≤ i → i < F' → V i < (v : Int)) ∧ ∀ i, F' ≤ i → i < F2 → (v : Int) ≤ V i) ∧ SeenI W w G R T n F' F2 V (.slice adK a capK) adP capP P Bk (seenF K a))
                    case atStart => exact ⟨1, F, by omega, by omega, rfl, h0A, S0⟩
                    case round =>
                      clear S0 h0A
                      obtain ⟨v, F', hv, hv1, rfl, hF, Q⟩ := hrel
                      have hVA : Aside (v + gk = P + 1) := hv
                      have hvP : v ≤ P + 1 := by omega
                      have c12 := Q.c12
                      clear hv
                      by_cases hvl : v ≤ P
                      · have hvl' : (v : Int) ≤ (P : Int) := by omega
                        have hvI : (v : Int) < (P : Int) + 1 := by omega
                        have hvN : v < P + 1 := by omega
                        have hcs := Q.cell hvl
                        have hnx := hBA.out.next hv1 hvl hF.out.1 hF.out.2.1 hF.out.2.2
                        cases hs : seenF K a v
                        · rw [hs] at hcs
                          obtain ⟨r1, r2, r3⟩ := hnx.2 hs
                          have hr2 : Aside (V F' = (v : Int)) := r2
                          have hr3 : Aside (F ≤ F' + 1 ∧ (∀ i, F ≤ i → i < F' + 1 → V i < ((v + 1 : Nat) : Int)) ∧ ∀ i, F' + 1 ≤ i → i < F2 → ((v + 1 : Nat) : Int) ≤ V i) := by
                            refine ⟨by have := hF.out.1; omega, fun i q1 q2 => ?_, fun i q1 q2 => ?_⟩
                            · by_cases d : i = F'
                              · rw [d, r2]; omega
                              · have := hF.out.2.1 i q1 (by omega); omega
                            · have := r3 i q1 q2; omega
                          have hvw : IntKind.u64.wrap (v : Int) = (v : Int) := by rw [IntKind.wrap_u64]; omega
                          have hvw2 : (v : Int) % 18446744073709551616 = (v : Int) := by omega
                          have G1 := q_steal Q.has
                          clear hnx hs r2 r3 hF
                          go_wp2_with (first
                            | (go_at_call 15; refine G1.mono ?_; clear G1; rintro e w6 ⟨A, rfl, k1, a1, Z1, b6⟩; have Q6 := Q.begun Z1 b6; have G2 := q_steal_some Z1 r1 k1 a1; rw [hr2.out] at G2)
                            | (go_at_call 12; refine G2.mono ?_; clear G2; rintro e w7 ⟨rfl, Z2, b7⟩; have Q7 := Q6.ran k1 Z2 b7))
                          go_roundg (gk - 1)
                          case measure => have := hVA.out; omega
                          case rel => exact ⟨v + 1, F' + 1, (by have := hVA.out; omega), by omega, rfl, hr3, Q7⟩
                        · rw [hs] at hcs
                          have r3 := hnx.1 hs
                          have hr3 : Aside (F ≤ F' ∧ (∀ i, F ≤ i → i < F' → V i < ((v + 1 : Nat) : Int)) ∧ ∀ i, F' ≤ i → i < F2 → ((v + 1 : Nat) : Int) ≤ V i) :=
                            ⟨hF.out.1, fun i q1 q2 => by have := hF.out.2.1 i q1 q2; omega, fun i q1 q2 => by have := r3 i q1 q2; omega⟩
                          clear hnx hs r3 hF
                          go_wp2_with fail
                          go_roundg (gk - 1)
                          case measure => have := hVA.out; omega
                          case rel => exact ⟨v + 1, F', (by have := hVA.out; omega), by omega, rfl, hr3, Q⟩
                      · obtain rfl : v = P + 1 := by omega
                        have hvl' : ¬ ((P + 1 : Nat) : Int) ≤ (P : Int) := by omega
                        have hFE : F' = F2 := by
                          have h1 := Q.has.le
                          rcases Nat.lt_or_ge F' F2 with d | d
                          · have a1 := hF.out.2.2 F' (Nat.le_refl _) d
                            have a2 := hBA.out.live F' hF.out.1 d
                            omega
                          · omega
                        subst hFE
                        have G1 := q_pop Q.has
                        clear hVA hF
                        go_wp2_with (first
                          | (go_at_call 14; refine G1.mono ?_; clear G1; rintro e w6 ⟨A, rfl, k1, a1, Z1, _⟩; have G2 := q_pop_none Z1 k1 a1)
                          | (go_at_call 12; refine G2.mono ?_; clear G2; rintro e w7 ⟨rfl, Z2, _⟩; have G3 := q_len Z2; rw [Nat.sub_self] at G3)
                          | (go_at_call 16; refine G3.mono ?_; clear G3; rintro e w8 ⟨rfl, Z3, _⟩))
                        go_ret
                        exact ⟨rfl, Z3.old⟩
end Go.Proofs.Ytfpgdmnbehingaa
