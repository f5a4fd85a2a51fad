/-
  SwapKeeps, walked.
-/
import Derived.Test.YteickckgljlacaaGreatSkB
namespace Go.Proofs.YteickckgljlacaaGreat.Sw
open Go Go.RowKit
open Rf (tab word same IsTab)
open Rf (does_val does_call vok_plain x_move x_load x_bin x_un x_convert x_index x_call wp_region_vals)

/-- A slice of small numbers with signs in the world. -/
def I8At (w : World) (ad : Option Addr) (n : Nat) (V : Nat → Int) : Prop :=
  n = 0 ∨ ∃ b off, ad = some ⟨b, off, none⟩ ∧ b < w.heap.size ∧ ∀ i, i < n → w.cell? ⟨b, off + i, none⟩ = some (.int .i8 (V i))
theorem I8At.kept {w w' : World} {ad : Option Addr} {n : Nat} {V : Nat → Int} (h : I8At w ad n V) (k : Below w.heap.size w w') : I8At w' ad n V := by
  rcases h with h | ⟨b, off, rfl, hb, hc⟩
  · exact .inl h
  · exact .inr ⟨b, off, rfl, Nat.lt_of_lt_of_le hb k.size, fun i hi => by rw [k.cell hb]; exact hc i hi⟩
/-- The three functions, the first j of them trimmed. -/
def trT (T : Nat → Nat → Bool) (n j : Nat) : Nat → Nat → Bool := fun i => if i < j then trimF (T i) n (8 - n) else T i
theorem trT_at (T : Nat → Nat → Bool) (n j : Nat) : trT T n j j = T j := if_neg (Nat.lt_irrefl j)
theorem trT_next (T : Nat → Nat → Bool) (n j : Nat) : putT (trT T n j) j (trimF (T j) n (8 - n)) = trT T n (j + 1) := funext fun i => by
  unfold putT trT
  by_cases e : i = j
  · rw [if_pos e, if_pos (by omega), e]
  · rw [if_neg e]
    by_cases c : i < j
    · rw [if_pos c, if_pos (by omega)]
    · rw [if_neg c, if_neg (by omega)]
theorem trT_zero (T : Nat → Nat → Bool) (n : Nat) : trT T n 0 = T := funext fun i => if_neg (Nat.not_lt_zero i)

set_option maxRecDepth 100000 in
set_option maxHeartbeats 8000000 in
theorem keeps_walk (z : Int) (T : Nat → Nat → Bool) (ad : Option Addr) (len cap : Nat) (V : Nat → Int) (y : Int) (W : World) (z0 : 0 ≤ z) (y0 : 0 ≤ y) (hV : I8At W ad len V) (hb : ∀ i, i < len → -128 ≤ V i ∧ V i ≤ 127) :
    Calls Tryz.prog 3 #[.int .u8 z, tab3 T, .slice ad len cap, .int .u16 y] W fun e w' => e = .returned (.bool true) ∧ Below W.heap.size W w' := by
  conv in #[Value.int .u8 z, tab3 T, Value.slice ad len cap, Value.int .u16 y] => unfold tab3
  obtain ⟨t, ht⟩ : ∃ t : Nat, Int.tmod z 8 = (t : Int) := ⟨(z % 8).toNat, by rw [Int.tmod_eq_emod_of_nonneg z0]; omega⟩
  have t8 : t < 8 := by have := Int.tmod_lt_of_pos z (show (0 : Int) < 8 by omega); omega
  obtain ⟨u, hu⟩ : ∃ u : Nat, Int.tmod y 2000 = (u : Int) := ⟨(y % 2000).toNat, by rw [Int.tmod_eq_emod_of_nonneg y0]; omega⟩
  have u2 : u < 2000 := by have := Int.tmod_lt_of_pos y (show (0 : Int) < 2000 by omega); omega
  have wt1 : IntKind.u8.wrap (t : Int) = (t : Int) := by rw [IntKind.wrap_u8]; omega
  have wt2 : IntKind.i64.wrap (t : Int) = (t : Int) := by rw [IntKind.wrap_i64]; omega
  obtain ⟨n, hn⟩ : ∃ n, t + 1 = n := ⟨_, rfl⟩
  have wt3 : IntKind.i64.wrap ((t : Int) + 1) = (n : Int) := by rw [IntKind.wrap_i64]; omega
  have wu1 : IntKind.u16.wrap (u : Int) = (u : Int) := by rw [IntKind.wrap_u16]; omega
  have wu2 : IntKind.i64.wrap (u : Int) = (u : Int) := by rw [IntKind.wrap_i64]; omega
  obtain ⟨r, hr⟩ : ∃ r, 240 + u = r := ⟨_, rfl⟩
  have wu3 : IntKind.i64.wrap (240 + (u : Int)) = (r : Int) := by rw [IntKind.wrap_i64]; omega
  have n1 : 1 ≤ n := by omega
  have n8 : n ≤ 8 := by omega
  have r1 : 240 ≤ r := by omega
  have r2 : r ≤ 2240 := by omega
  have VA : Aside (I8At W ad len V ∧ ∀ i, i < len → -128 ≤ V i ∧ V i ≤ 127) := ⟨hV, hb⟩
  clear hn t8 u2 hr z0 y0 hV hb
  go_enter Tryz.func3, Tryz.ntmps3
  go_upto_region 1 with fail
  have T1 := IsT3.new W T
  have B1 := nb W (.cells #[.int .u64 (word (T 0) 0 : Int), .int .u64 (word (T 0) 1 : Int), .int .u64 (word (T 0) 2 : Int), .int .u64 (word (T 0) 3 : Int), .int .u64 (word (T 1) 0 : Int), .int .u64 (word (T 1) 1 : Int), .int .u64 (word (T 1) 2 : Int), .int .u64 (word (T 1) 3 : Int), .int .u64 (word (T 2) 0 : Int), .int .u64 (word (T 2) 1 : Int), .int .u64 (word (T 2) 2 : Int), .int .u64 (word (T 2) 3 : Int)] 25)
  generalize W.alloc (.cells #[.int .u64 (word (T 0) 0 : Int), .int .u64 (word (T 0) 1 : Int), .int .u64 (word (T 0) 2 : Int), .int .u64 (word (T 0) 3 : Int), .int .u64 (word (T 1) 0 : Int), .int .u64 (word (T 1) 1 : Int), .int .u64 (word (T 1) 2 : Int), .int .u64 (word (T 1) 3 : Int), .int .u64 (word (T 2) 0 : Int), .int .u64 (word (T 2) 1 : Int), .int .u64 (word (T 2) 2 : Int), .int .u64 (word (T 2) 3 : Int)] 25) = w1 at T1 B1 ⊢
  have vt : ∃ v : Value, v = .agg #[.int .u64 (word (T 0) 0 : Int), .int .u64 (word (T 0) 1 : Int), .int .u64 (word (T 0) 2 : Int), .int .u64 (word (T 0) 3 : Int), .int .u64 (word (T 1) 0 : Int), .int .u64 (word (T 1) 1 : Int), .int .u64 (word (T 1) 2 : Int), .int .u64 (word (T 1) 3 : Int), .int .u64 (word (T 2) 0 : Int), .int .u64 (word (T 2) 1 : Int), .int .u64 (word (T 2) 2 : Int), .int .u64 (word (T 2) 3 : Int)] := ⟨_, rfl⟩
  obtain ⟨vt, hvt⟩ := vt
  rw [← hvt]
  clear hvt
  obtain ⟨bt, hbt⟩ : ∃ bt, W.heap.size = bt := ⟨_, rfl⟩
  have ltA : Aside (W.heap.size ≤ bt) := Nat.le_of_eq hbt
  rw [hbt] at T1
  have B1A : Aside (Below W.heap.size W w1) := B1
  rw [hbt]
  clear hbt B1
  have Kk := known_any w1
  go_upto_region 3 with (first
    | (go_at_call 8; refine Kk.mono ?_; clear Kk; rintro e w2 ⟨rfl, b2⟩))
  have B2 : Below W.heap.size W w2 := Rf.below_far B1A.out b2
  have T2 := T1.kept b2
  clear T1 b2 B1A
  by_cases n30 : len ≤ 30
  · have ni : ¬ (30 : Int) < (len : Int) := by omega
    have nA : Aside (len ≤ 30) := n30
    clear n30
    have K1 := s_new n r w2 n1 n8 (by omega) (by omega)
    have oe : Aside (Mdl.empty n r).Ok := Mdl.empty_ok n1 n8
    go_upto_region 9 with (first
      | (go_at_call 9; refine K1.mono ?_; clear K1; rintro e w3 ⟨S, F, rfl, s3, b3, f3⟩))
    have B3 := Rf.below_far B2 b3
    have T3 := T2.kept b3
    have fA : Aside (∀ k, F k → W.heap.size ≤ k) := fun k hk => Nat.le_trans B2.size (f3 k hk)
    clear T2 b3 f3 B2 ni ht hu wt1 wt2 wt3 wu1 wu2 wu3
    have K2 : Calls Tryz.prog 10 #[.pointer (some ⟨S, 0, none⟩)] w3 fun e w' => ∃ P l, e = .returned (.pointer (some ⟨P, 0, none⟩)) ∧ Od.IsOrd w' P n (Od.idn n) l ∧ Below w3.heap.size w3 w' ∧ w3.heap.size ≤ P := s_order s3
    go_upto_region 10 with (first
      | (go_at_call 10; refine K2.mono ?_; clear K2; rintro e w4 ⟨P, l, rfl, o4, b4, _⟩; have K3 := Od.all_any o4 n8; have s4 := s3.below b4)
      | (go_at_call 11; refine K3.mono ?_; clear K3; rintro e w5 ⟨rfl, r5, b5⟩))
    go_upto_region 12 with fail
    have q6A : Aside (Kq W (w5.alloc (.cells #[.int .u32 0, .int .u32 0, .int .u32 0] 39)) S n r 0 (trT T n 0) (fun _ => 0) bt w5.heap.size w4.heap.size (Od.idn n) F (Mdl.empty n r)) := by
      have B4 := Rf.below_far B3 b4
      have B5 := Rf.below_far B4 b5
      refine ⟨(s4.below b5).new _, rfl, rfl, fun i hi => absurd hi (Nat.not_lt_zero i), Rf.below_far B5 (nb w5 _), fA.out, ?_, ?_, r5.alloc _, ltA.out, B5.size, B4.size⟩
      · rw [trT_zero]; exact ((T3.kept b4).kept b5).kept (nb w5 _)
      · refine World.rowIs_alloc w5 #[.int .u32 0, .int .u32 0, .int .u32 0] 39 _ fun i hi => ?_
        have hi : i < 3 := hi
        have : i = 0 ∨ i = 1 ∨ i = 2 := by omega
        rcases this with rfl | rfl | rfl <;> rfl
    clear s3 s4 b4 b5 T3 B3 o4 r5
    generalize w5.alloc (.cells #[.int .u32 0, .int .u32 0, .int .u32 0] 39) = w6 at q6A ⊢
    generalize w5.heap.size = bh at q6A ⊢
    generalize w4.heap.size = bo at q6A ⊢
    go_loopg [14] 3 (fun g s14 wr => ∃ (j : Nat) (hv : Nat → Nat) (Fr : Nat → Prop) (Mr : Mdl), j + g = 3 ∧ s14 = .int .i64 (j : Int) ∧ Aside (Kq W wr S n r j (trT T n j) hv bt bh bo (Od.idn n) Fr Mr ∧ Mr.v = Od.idn n ∧ Mr.up ≤ 63 * j))
    case atStart => exact ⟨0, fun _ => 0, F, Mdl.empty n r, by omega, rfl, q6A, rfl, Nat.le_refl _⟩
    case round =>
      obtain ⟨j, hv, Fr, Mr, hj, rfl, hq⟩ := hrel
      have hJ : Aside (j + gk = 3) := hj
      have hj3 : j ≤ 3 := by omega
      clear hj q6A fA ltA
      by_cases hlt : j < 3
      · have hlt' : (j : Int) < 3 := by omega
        have q := hq.out.1
        obtain ⟨c0, c1, c2, c3⟩ := q.t3.cells hlt
        rw [trT_at] at c0 c1 c2 c3
        obtain ⟨H, hH⟩ : ∃ H, trimF (T j) n (8 - n) = H := ⟨_, rfl⟩
        have KT := trim_any (T j) n n8 wr
        rw [hH] at KT
        unfold tab at KT
        have hHA : Aside (trimF (T j) n (8 - n) = H) := hH
        have hltA : Aside (j < 3) := hlt
        clear hH hlt q
        go_upto_region 15 with (first
          | (go_at_call 12; refine KT.mono ?_; clear KT; rintro e w7 ⟨rfl, b7⟩; have q7 := hq.out.1.below b7; obtain ⟨e0, e1, e2, e3⟩ := q7.t3.cells hltA.out; have y0 := World.rowIs.frozen q7.t3 (j * 4); have y1 := World.rowIs.frozen q7.t3 (j * 4 + 1); have y2 := World.rowIs.frozen q7.t3 (j * 4 + 2); have y3 := World.rowIs.frozen q7.t3 (j * 4 + 3)))
        have q8 := q7.table hltA.out H
        have q8A : Aside (Kq W ((((w7.setCell ⟨bt, j * 4, none⟩ (.int .u64 (word H 0 : Int))).setCell ⟨bt, j * 4 + 1, none⟩ (.int .u64 (word H 1 : Int))).setCell ⟨bt, j * 4 + 2, none⟩ (.int .u64 (word H 2 : Int))).setCell ⟨bt, j * 4 + 3, none⟩ (.int .u64 (word H 3 : Int))) S n r j (trT T n (j + 1)) hv bt bh bo (Od.idn n) Fr Mr) := by
          rw [← trT_next, hHA.out]; exact q8
        have tH : Aside (trT T n (j + 1) j = H) := (if_pos (Nat.lt_succ_self j)).trans hHA.out
        clear c0 c1 c2 c3 e0 e1 e2 e3 y0 y1 y2 y3 b7 q7 q8
        generalize (((w7.setCell ⟨bt, j * 4, none⟩ (.int .u64 (word H 0 : Int))).setCell ⟨bt, j * 4 + 1, none⟩ (.int .u64 (word H 1 : Int))).setCell ⟨bt, j * 4 + 2, none⟩ (.int .u64 (word H 2 : Int))).setCell ⟨bt, j * 4 + 3, none⟩ (.int .u64 (word H 3 : Int)) = w8 at q8A ⊢
        obtain ⟨c0, c1, c2, c3⟩ := q8A.out.t3.cells hltA.out
        rw [tH.out] at c0 c1 c2 c3
        have KM := make_any (F := H) q8A.out.st (by
          have o := q8A.out.st.ok
          have d := Dep.trim o (T j) (fun i hi => by rw [hq.out.2.1]; rw [q8A.out.en] at hi; exact if_pos hi)
          rw [q8A.out.en, hHA.out] at d
          exact d) (by
          rw [q8A.out.en, q8A.out.er]
          have h1 := hq.out.2.2
          have h2 := pow63 n8
          have h3 := hltA.out
          omega)
        unfold tab at KM
        go_upto_region 18 with (first
          | (go_at_call 13; refine KM.mono ?_; clear KM; rintro e w9 ⟨x, M9, rfl, ⟨F9, s9, g9⟩, m9⟩))
        have q9 := q8A.out.wf g9 s9 (Kept.grew m9.grew q8A.out.st.ok)
        have q10 := q9.hand x m9.node (by rw [tH.out]; exact m9.tbl)
        have d0 := World.rowIs.cell q9.h3 hltA.out
        have y0 := World.rowIs.frozen q9.h3 j
        have q10A : Aside (Kq W (w9.setCell ⟨bh, j, none⟩ (.int .u32 (x : Int))) S n r (j + 1) (trT T n (j + 1)) (putN hv j x) bt bh bo (Od.idn n) F9 M9 ∧ M9.v = Od.idn n ∧ M9.up ≤ 63 * (j + 1)) := by
          refine ⟨q10, m9.grew.v.trans hq.out.2.1, ?_⟩
          have u := m9.up
          rw [q8A.out.en, Nat.sub_zero] at u
          have h1 := hq.out.2.2
          have h2 := pow63 n8
          omega
        clear c0 c1 c2 c3 m9 g9 s9 q9 q10 hq q8A
        go_wp2_with fail
        go_roundg (gk - 1)
        case measure => have := hJ.out; have := hltA.out; omega
        case rel =>
          have := hJ.out
          have := hltA.out
          exact ⟨j + 1, putN hv j x, F9, M9, by omega, by go_num, q10A⟩
      · obtain rfl : j = 3 := by omega
        obtain ⟨G, hG⟩ : ∃ G, trT T n 3 = G := ⟨_, rfl⟩
        have q3A : Aside (∃ M, Kq W wr S n r 3 G hv bt bh bo M.v Fr M) := ⟨Mr, by rw [hq.out.2.1, ← hG]; exact hq.out.1⟩
        clear hq hG hj3 hlt hJ
        go_upto_region 20 with fail
        go_loopg [17] len (fun g s17 wr => ∃ i : Nat, i + g = len ∧ s17 = .int .i64 (i : Int) ∧ Aside (∃ Fr M, Kq W wr S n r 3 G hv bt bh bo M.v Fr M))
        case atStart =>
          obtain ⟨M, q⟩ := q3A.out
          exact ⟨0, by omega, rfl, Fr, M, q⟩
        case round =>
          clear q3A
          obtain ⟨i, hi, rfl, hq⟩ := hrel
          have hI : Aside (i + gk = len) := hi
          have hin : i ≤ 30 := by have := nA.out; omega
          by_cases hlt : i < len
          · have hlt' : (i : Int) < (len : Int) := by omega
            obtain ⟨gi, hgi⟩ : ∃ gi, gi + 1 = gk := ⟨gk - 1, by omega⟩
            have hgiA : Aside (gi + 1 = gk) := hgi
            have hiA : Aside (i < len) := hlt
            clear hgi hi
            obtain ⟨Fr, M, q⟩ := hq.out
            have qA : Aside (Kq W wr S n r 3 G hv bt bh bo M.v Fr M) := q
            obtain ⟨b0, off, rfl, hb0, hc0⟩ := (VA.out.1.kept q.base).resolve_left (by omega)
            have k1 := hc0 i hlt
            have hv1 := VA.out.2 i hlt
            generalize V i = z1 at k1 hv1
            have wz : IntKind.i64.wrap z1 = z1 := by rw [IntKind.wrap_i64]; omega
            have hz1A : Aside (-128 ≤ z1 ∧ z1 ≤ 127) := hv1
            have KA := s_all q.st
            clear hc0 hlt hv1 hq q hb0
            obtain ⟨m, hm⟩ : ∃ m, M.hs.length = m := ⟨_, rfl⟩
            rw [hm] at KA
            have hmA : Aside (M.hs.length = m) := hm
            have hm3 : m ≤ 32768 := by have := qA.out.st.ok.len; have := qA.out.st.room.2; omega
            clear hm
            go_upto_region 26 with (first
              | (go_at_call 14; refine KA.mono ?_; clear KA; rintro e w10 ⟨ad0, cap0, rfl, own0, b10⟩))
            have q10A : Aside (Kq W w10 S n r 3 G hv bt bh bo M.v Fr M) := qA.out.below b10
            have own0A : Aside (OwnR 38 w10 wr.heap.size ad0 m cap0 (fun i => .int .u32 (M.hs.getD i 0 : Nat))) := own0
            clear k1 b10 own0 wz qA
            go_loopg [21, 19] m (fun g s21 s19 wr' => ∃ j : Nat, j + g = m ∧ s21 = .int .i64 (j : Int) ∧ s19 = .int .i64 (atZ M z1 (M.hs.take j) : Int) ∧ wr' = w10)
            case atStart => exact ⟨0, by omega, rfl, rfl, rfl⟩
            case round =>
              obtain ⟨j, hj, rfl, rfl, rfl⟩ := hrel
              have hJ : Aside (j + gk = m) := hj
              have hjn : j ≤ m := by omega
              clear hj
              have hqb := atZ_le M z1 (M.hs.take j)
              rw [List.length_take] at hqb
              by_cases hlt : j < m
              · have hlt' : (j : Int) < (m : Int) := by omega
                have hji : ¬ (m : Int) ≤ (j : Int) := by omega
                have ownr := own0A.out
                obtain ⟨g, rfl⟩ := ownr.form (by omega)
                have cw := ownr.cell hlt
                clear ownr
                obtain ⟨xm, _⟩ := take_new q10A.out.st.ok (show j < M.hs.length by rw [hmA.out]; exact hlt)
                have tkA : Aside (M.hs.take (j + 1) = M.hs.take j ++ [M.hs.getD j 0]) := take_snoc M.hs (by rw [hmA.out]; exact hlt)
                generalize M.hs.getD j 0 = x at cw xm tkA
                have xl : x < 4294967296 := by have := q10A.out.st.nodes (.inr xm); have := q10A.out.st.room.2; omega
                have KL := s_level q10A.out.st x xl
                rw [Mdl.levI_in q10A.out.st.ok xm] at KL
                have hltA : Aside (j < m) := hlt
                clear hlt
                obtain ⟨p, hp⟩ : ∃ p, atZ M z1 (M.hs.take j) = p := ⟨_, rfl⟩
                have hpA : Aside (atZ M z1 (M.hs.take j) = p) := hp
                rw [hp] at hqb ⊢
                clear hp
                by_cases e : ((M.nd x).1 : Int) = z1
                · have eA : Aside (((M.nd x).1 : Int) = z1) := e
                  have eb : (((M.nd x).1 : Int) == z1) = true := by rw [beq_iff_eq]; exact e
                  clear e
                  generalize ((M.nd x).1 : Int) = y1 at KL eb
                  go_wp2_with (first
                    | (go_at_call 15; refine KL.mono ?_; clear KL; rintro e w2 ⟨rfl, e2⟩; subst w2))
                  go_roundg (gk - 1)
                  case measure => have := hJ.out; have := hltA.out; omega
                  case rel =>
                    have := hJ.out
                    have := hltA.out
                    refine ⟨j + 1, by omega, by go_num, ?_, rfl⟩
                    rw [tkA.out, atZ_snoc, hpA.out, if_pos eA.out]
                    rfl
                · have eA : Aside (¬ ((M.nd x).1 : Int) = z1) := e
                  have eb : (((M.nd x).1 : Int) == z1) = false := by rw [beq_eq_false_iff_ne]; exact e
                  clear e
                  generalize ((M.nd x).1 : Int) = y1 at KL eb
                  go_wp2_with (first
                    | (go_at_call 15; refine KL.mono ?_; clear KL; rintro e w2 ⟨rfl, e2⟩; subst w2))
                  go_roundg (gk - 1)
                  case measure => have := hJ.out; have := hltA.out; omega
                  case rel =>
                    have := hJ.out
                    have := hltA.out
                    refine ⟨j + 1, by omega, by go_num, ?_, rfl⟩
                    rw [tkA.out, atZ_snoc, hpA.out, if_neg eA.out]
                    rfl
              · obtain rfl : j = m := by omega
                have tk : M.hs.take j = M.hs := List.take_of_length_le (by rw [hmA.out]; exact Nat.le_refl _)
                rw [tk] at hqb ⊢
                obtain ⟨p, hp⟩ : ∃ p, atZ M z1 M.hs = p := ⟨_, rfl⟩
                have hpA : Aside (atZ M z1 M.hs = p) := hp
                rw [hp] at hqb ⊢
                clear hp tk hlt hJ own0A
                have hp3 : p ≤ 32768 := by omega
                clear hqb hjn
                obtain ⟨o2, ho2⟩ : ∃ o2 : Int, 2 * (p : Int) = o2 := ⟨_, rfl⟩
                have ho2A : Aside (2 * (p : Int) = o2) := ho2
                have hoA : Aside (((2 * p : Nat) : Int) = o2) := by show ((2 * p : Nat) : Int) = o2; omega
                have wo1 : IntKind.i64.wrap (2 * (p : Int)) = o2 := by rw [IntKind.wrap_i64]; omega
                have bo0 : 0 ≤ o2 := by omega
                have bo1 : o2 ≤ 65536 := by omega
                have mI : (j : Int) ≤ 32768 := by omega
                have K1 := s_len q10A.out.st
                rw [hmA.out] at K1
                clear ho2
                go_upto_region 32 with (first
                  | (go_at_call 16; refine K1.mono ?_; clear K1; rintro e w11 ⟨rfl, q11, e11⟩; have b11 : Below wr.heap.size wr w11 := (by rw [e11]; exact ⟨rfl, rfl, rfl, Nat.le_refl _, fun _ _ => rfl⟩); have q11' := q10A.out.below b11; have K2 := needs_any q11'.st z1; rw [hpA.out, hoA.out] at K2; clear e11 b11)
                  | (go_at_call 17; refine K2.mono ?_; clear K2; rintro e w12 ⟨rfl, b12⟩; have q12 := q11'.below b12; clear q11' b12))
                have q12A : Aside (Kq W w12 S n r 3 G hv bt bh bo M.v Fr M) := q12
                clear q12 q10A
                generalize hjI : (j : Int) = mz at mI ⊢
                have hjA : Aside ((j : Int) = mz) := hjI
                have mz0 : 0 ≤ mz := by omega
                clear hjI
                have wm1 : IntKind.i64.wrap (mz + o2) = mz + o2 := by rw [IntKind.wrap_i64]; omega
                have cm1 : ¬ mz + o2 < mz := by omega
                by_cases hz : z1 < 0 ∨ (n : Int) ≤ z1 + 1
                · have KS := swap_bad q12A.out.st z1 (by rw [q12A.out.en]; exact hz)
                  go_upto_region 34 with (first
                    | (go_at_call 18; refine KS.mono ?_; clear KS; rintro e w13 ⟨rfl, b13⟩))
                  have q13A : Aside (Kq W w13 S n r 3 G hv bt bh bo M.v Fr M) := q12A.out.below b13
                  clear b13 q12A
                  have wn : IntKind.i64.wrap ((n : Int) - 1) = (n : Int) - 1 := by rw [IntKind.wrap_i64]; omega
                  have K1 := s_len q13A.out.st
                  rw [hmA.out, hjA.out] at K1
                  by_cases h0 : z1 < 0
                  · clear hz wn
                    go_upto_region 38 with fail
                    go_upto_region 40 with (first
                      | (go_at_call 16; refine K1.mono ?_; clear K1; rintro e w14 ⟨rfl, q14, e14⟩; have b14 : Below w13.heap.size w13 w14 := (by rw [e14]; exact ⟨rfl, rfl, rfl, Nat.le_refl _, fun _ _ => rfl⟩); have q14A : Aside (Kq W w14 S n r 3 G hv bt bh bo M.v Fr M) := q13A.out.below b14; have K2 := s_len q14A.out.st; rw [hmA.out, hjA.out] at K2; clear e14 b14)
                      | (go_at_call 16; refine K2.mono ?_; clear K2; rintro e w15 ⟨rfl, q15, e15⟩; have b15 : Below w14.heap.size w14 w15 := (by rw [e15]; exact ⟨rfl, rfl, rfl, Nat.le_refl _, fun _ _ => rfl⟩); have qT : Aside (Kq W w15 S n r 3 G hv bt bh bo M.v Fr M) := q14A.out.below b15; clear e15 b15 q14A))
                    go_upto_region 42 with fail
                    clear q13A
                    have K1 := s_order qT.out.st
                    rw [qT.out.en] at K1
                    go_upto_region 45 with (first
                      | (go_at_call 10; refine K1.mono ?_; clear K1; rintro e wa ⟨P, l, rfl, oa, ba, _⟩; have qa := qT.out.below ba; have K2 := Od.all_any oa n8)
                      | (go_at_call 11; refine K2.mono ?_; clear K2; rintro e wb ⟨rfl, rb, bb⟩; have qb := qa.below bb; have K3 := ints_true (n := n) (c := n) (d := n) (Z := fun i => (M.v i : Int)) rb qb.ord (Nat.le_trans n8 (by decide)))
                      | (go_at_call 20; refine K3.mono ?_; clear K3; rintro e wc ⟨rfl, bc⟩; have qc := qb.below bc; have K4 := once_any qc.st)
                      | (go_at_call 21; refine K4.mono ?_; clear K4; rintro e wd ⟨rfl, bd⟩; have qdA : Aside (Kq W wd S n r 3 G hv bt bh bo M.v Fr M) := qc.below bd))
                    clear qa qb qc oa ba bb bc bd rb qT
                    go_loopg [26] 3 (fun g s26 wr' => ∃ j : Nat, j + g = 3 ∧ s26 = .int .i64 (j : Int) ∧ Aside (Below wd.heap.size wd wr'))
                    case atStart => exact ⟨0, by omega, rfl, Below.refl _ _⟩
                    case round =>
                      obtain ⟨j, hj, rfl, hB⟩ := hrel
                      have hJ : Aside (j + gk = 3) := hj
                      have hj3 : j ≤ 3 := by omega
                      by_cases hlt : j < 3
                      · have hlt' : (j : Int) < 3 := by omega
                        have hltA : Aside (j < 3) := hlt
                        clear hlt hj
                        go_upto_region 47 with fail
                        have KI : ∀ u, Below wd.heap.size wd u → Calls Tryz.prog 22 #[.pointer (some ⟨S, 0, none⟩), .int .u32 (hv j : Int), tab (G j)] u fun e w' => e = .returned (.bool true) ∧ Below u.heap.size u w' := fun u hu => by
                          have nd := qdA.out.kn j hltA.out
                          have := isf_any (G := G j) (qdA.out.below hu).st nd.1
                          rwa [same_true nd.2] at this
                        refine wp_region_vals (fun u => Below wd.heap.size wd u) [(191, (.pointer (some ⟨S, 0, none⟩))), (192, (.int .i64 (j : Int))), (193, (.pointer (some ⟨bh, j, none⟩))), (194, (.int .u32 (hv j : Int))), (195, (.int .i64 (j : Int))), (196, (.pointer (some ⟨bt, j * 4, none⟩))), (197, (tab (G j))), (198, (.bool true)), (199, (.bool false))] [191, 192, 193, 194, 195, 196, 197, 198, 199] 224 (by kernel_rfl) (by kernel_rfl) rfl rfl (by decide) rfl (by decide) ?_ ?_ ?_
                        · exact Rf.below_far hB.out ⟨rfl, rfl, rfl, Nat.le_refl _, fun _ _ => rfl⟩
                        · intro ii kk hkk
                          match ii, hkk with
                            | 0, hk => obtain rfl := Option.some.inj hk; exact vok_plain _ rfl rfl rfl (does_val rfl fun ac u hG hL => x_move rfl ((hG.other 10 (by decide)).trans rfl))
                            | 1, hk => obtain rfl := Option.some.inj hk; exact vok_plain _ rfl rfl rfl (does_val rfl fun ac u hG hL => x_move rfl ((hG.other 26 (by decide)).trans rfl))
                            | 2, hk => obtain rfl := Option.some.inj hk; exact vok_plain _ rfl rfl rfl (does_val rfl fun ac u hG hL => x_index rfl ((hG.other 13 (by decide)).trans rfl) (hL ⟨1, .data⟩ (by simp) rfl _ rfl) (r_idxH bh hltA.out u))
                            | 3, hk => obtain rfl := Option.some.inj hk; exact vok_plain _ rfl rfl rfl (does_val rfl fun ac u hG hL => x_load rfl (hL ⟨2, .data⟩ (by simp) rfl _ rfl) (r_loadH (World.rowIs.cell (qdA.out.below hG.here).h3 hltA.out)))
                            | 4, hk => obtain rfl := Option.some.inj hk; exact vok_plain _ rfl rfl rfl (does_val rfl fun ac u hG hL => x_move rfl ((hG.other 26 (by decide)).trans rfl))
                            | 5, hk => obtain rfl := Option.some.inj hk; exact vok_plain _ rfl rfl rfl (does_val rfl fun ac u hG hL => x_index rfl ((hG.other 5 (by decide)).trans rfl) (hL ⟨4, .data⟩ (by simp) rfl _ rfl) (r_idxF bt hltA.out u))
                            | 6, hk => obtain rfl := Option.some.inj hk; exact vok_plain _ rfl rfl rfl (does_val rfl fun ac u hG hL => x_load rfl (hL ⟨5, .data⟩ (by simp) rfl _ rfl) (r_loadF ((qdA.out.below hG.here).t3.cells hltA.out)))
                            | 7, hk => obtain rfl := Option.some.inj hk; exact vok_plain _ rfl rfl rfl (does_call #[(.pointer (some ⟨S, 0, none⟩)), (.int .u32 (hv j : Int)), (tab (G j))] rfl (fun ac u hG hL => x_call rfl (by have e0 : ac.eval (.tmp 191) = (.pointer (some ⟨S, 0, none⟩)) := (hL ⟨0, .data⟩ (by simp) rfl _ rfl); have e1 : ac.eval (.tmp 194) = (.int .u32 (hv j : Int)) := (hL ⟨3, .data⟩ (by simp) rfl _ rfl); have e2 : ac.eval (.tmp 197) = (tab (G j)) := (hL ⟨6, .data⟩ (by simp) rfl _ rfl); simp only [List.map_toArray, List.map_cons, List.map_nil, e0, e1, e2]) (fun u => callIs _ u)) (fun u hu => (KI u hu).mono fun e w' q => ⟨q.1, Rf.below_far hu q.2⟩))
                            | 8, hk => obtain rfl := Option.some.inj hk; exact vok_plain _ rfl rfl rfl (does_val rfl fun ac u hG hL => x_un rfl (hL ⟨7, .data⟩ (by simp) rfl _ rfl) (r_not true u))
                            | ii + 9, hk => simp at hk
                        · intro w10 s10
                          simp only [Rf.vfin, Act.put, List.setIfInBounds_toArray, List.set_cons_succ, List.set_cons_zero]
                          have s10A : Aside (Below wd.heap.size wd w10) := s10
                          clear s10 KI hB
                          go_wp2_with fail
                          go_roundg (gk - 1)
                          case measure => have := hJ.out; have := hltA.out; omega
                          case rel =>
                            have := hJ.out
                            have := hltA.out
                            exact ⟨j + 1, by omega, by go_num, s10A⟩
                      · obtain rfl : j = 3 := by omega
                        have qE : Aside (∃ Fr M, Kq W wr S n r 3 G hv bt bh bo M.v Fr M) := ⟨Fr, M, qdA.out.below hB.out⟩
                        clear qdA hB hj hlt hJ hj3
                        go_wp2_with fail
                        go_roundg gi
                        case measure => have := hgiA.out; omega
                        case rel =>
                          have h1 := hI.out
                          have h2 := hgiA.out
                          have h3 := hiA.out
                          exact ⟨i + 1, by omega, by go_num, qE⟩
                  · have hz2 : (n : Int) - 1 ≤ z1 := by omega
                    clear hz
                    go_upto_region 38 with fail
                    go_upto_region 40 with (first
                      | (go_at_call 16; refine K1.mono ?_; clear K1; rintro e w14 ⟨rfl, q14, e14⟩; have b14 : Below w13.heap.size w13 w14 := (by rw [e14]; exact ⟨rfl, rfl, rfl, Nat.le_refl _, fun _ _ => rfl⟩); have q14A : Aside (Kq W w14 S n r 3 G hv bt bh bo M.v Fr M) := q13A.out.below b14; have K2 := s_len q14A.out.st; rw [hmA.out, hjA.out] at K2; clear e14 b14)
                      | (go_at_call 16; refine K2.mono ?_; clear K2; rintro e w15 ⟨rfl, q15, e15⟩; have b15 : Below w14.heap.size w14 w15 := (by rw [e15]; exact ⟨rfl, rfl, rfl, Nat.le_refl _, fun _ _ => rfl⟩); have qT : Aside (Kq W w15 S n r 3 G hv bt bh bo M.v Fr M) := q14A.out.below b15; clear e15 b15 q14A))
                    go_upto_region 42 with fail
                    clear q13A
                    have K1 := s_order qT.out.st
                    rw [qT.out.en] at K1
                    go_upto_region 45 with (first
                      | (go_at_call 10; refine K1.mono ?_; clear K1; rintro e wa ⟨P, l, rfl, oa, ba, _⟩; have qa := qT.out.below ba; have K2 := Od.all_any oa n8)
                      | (go_at_call 11; refine K2.mono ?_; clear K2; rintro e wb ⟨rfl, rb, bb⟩; have qb := qa.below bb; have K3 := ints_true (n := n) (c := n) (d := n) (Z := fun i => (M.v i : Int)) rb qb.ord (Nat.le_trans n8 (by decide)))
                      | (go_at_call 20; refine K3.mono ?_; clear K3; rintro e wc ⟨rfl, bc⟩; have qc := qb.below bc; have K4 := once_any qc.st)
                      | (go_at_call 21; refine K4.mono ?_; clear K4; rintro e wd ⟨rfl, bd⟩; have qdA : Aside (Kq W wd S n r 3 G hv bt bh bo M.v Fr M) := qc.below bd))
                    clear qa qb qc oa ba bb bc bd rb qT
                    go_loopg [26] 3 (fun g s26 wr' => ∃ j : Nat, j + g = 3 ∧ s26 = .int .i64 (j : Int) ∧ Aside (Below wd.heap.size wd wr'))
                    case atStart => exact ⟨0, by omega, rfl, Below.refl _ _⟩
                    case round =>
                      obtain ⟨j, hj, rfl, hB⟩ := hrel
                      have hJ : Aside (j + gk = 3) := hj
                      have hj3 : j ≤ 3 := by omega
                      by_cases hlt : j < 3
                      · have hlt' : (j : Int) < 3 := by omega
                        have hltA : Aside (j < 3) := hlt
                        clear hlt hj
                        go_upto_region 47 with fail
                        have KI : ∀ u, Below wd.heap.size wd u → Calls Tryz.prog 22 #[.pointer (some ⟨S, 0, none⟩), .int .u32 (hv j : Int), tab (G j)] u fun e w' => e = .returned (.bool true) ∧ Below u.heap.size u w' := fun u hu => by
                          have nd := qdA.out.kn j hltA.out
                          have := isf_any (G := G j) (qdA.out.below hu).st nd.1
                          rwa [same_true nd.2] at this
                        refine wp_region_vals (fun u => Below wd.heap.size wd u) [(191, (.pointer (some ⟨S, 0, none⟩))), (192, (.int .i64 (j : Int))), (193, (.pointer (some ⟨bh, j, none⟩))), (194, (.int .u32 (hv j : Int))), (195, (.int .i64 (j : Int))), (196, (.pointer (some ⟨bt, j * 4, none⟩))), (197, (tab (G j))), (198, (.bool true)), (199, (.bool false))] [191, 192, 193, 194, 195, 196, 197, 198, 199] 224 (by kernel_rfl) (by kernel_rfl) rfl rfl (by decide) rfl (by decide) ?_ ?_ ?_
                        · exact Rf.below_far hB.out ⟨rfl, rfl, rfl, Nat.le_refl _, fun _ _ => rfl⟩
                        · intro ii kk hkk
                          match ii, hkk with
                            | 0, hk => obtain rfl := Option.some.inj hk; exact vok_plain _ rfl rfl rfl (does_val rfl fun ac u hG hL => x_move rfl ((hG.other 10 (by decide)).trans rfl))
                            | 1, hk => obtain rfl := Option.some.inj hk; exact vok_plain _ rfl rfl rfl (does_val rfl fun ac u hG hL => x_move rfl ((hG.other 26 (by decide)).trans rfl))
                            | 2, hk => obtain rfl := Option.some.inj hk; exact vok_plain _ rfl rfl rfl (does_val rfl fun ac u hG hL => x_index rfl ((hG.other 13 (by decide)).trans rfl) (hL ⟨1, .data⟩ (by simp) rfl _ rfl) (r_idxH bh hltA.out u))
                            | 3, hk => obtain rfl := Option.some.inj hk; exact vok_plain _ rfl rfl rfl (does_val rfl fun ac u hG hL => x_load rfl (hL ⟨2, .data⟩ (by simp) rfl _ rfl) (r_loadH (World.rowIs.cell (qdA.out.below hG.here).h3 hltA.out)))
                            | 4, hk => obtain rfl := Option.some.inj hk; exact vok_plain _ rfl rfl rfl (does_val rfl fun ac u hG hL => x_move rfl ((hG.other 26 (by decide)).trans rfl))
                            | 5, hk => obtain rfl := Option.some.inj hk; exact vok_plain _ rfl rfl rfl (does_val rfl fun ac u hG hL => x_index rfl ((hG.other 5 (by decide)).trans rfl) (hL ⟨4, .data⟩ (by simp) rfl _ rfl) (r_idxF bt hltA.out u))
                            | 6, hk => obtain rfl := Option.some.inj hk; exact vok_plain _ rfl rfl rfl (does_val rfl fun ac u hG hL => x_load rfl (hL ⟨5, .data⟩ (by simp) rfl _ rfl) (r_loadF ((qdA.out.below hG.here).t3.cells hltA.out)))
                            | 7, hk => obtain rfl := Option.some.inj hk; exact vok_plain _ rfl rfl rfl (does_call #[(.pointer (some ⟨S, 0, none⟩)), (.int .u32 (hv j : Int)), (tab (G j))] rfl (fun ac u hG hL => x_call rfl (by have e0 : ac.eval (.tmp 191) = (.pointer (some ⟨S, 0, none⟩)) := (hL ⟨0, .data⟩ (by simp) rfl _ rfl); have e1 : ac.eval (.tmp 194) = (.int .u32 (hv j : Int)) := (hL ⟨3, .data⟩ (by simp) rfl _ rfl); have e2 : ac.eval (.tmp 197) = (tab (G j)) := (hL ⟨6, .data⟩ (by simp) rfl _ rfl); simp only [List.map_toArray, List.map_cons, List.map_nil, e0, e1, e2]) (fun u => callIs _ u)) (fun u hu => (KI u hu).mono fun e w' q => ⟨q.1, Rf.below_far hu q.2⟩))
                            | 8, hk => obtain rfl := Option.some.inj hk; exact vok_plain _ rfl rfl rfl (does_val rfl fun ac u hG hL => x_un rfl (hL ⟨7, .data⟩ (by simp) rfl _ rfl) (r_not true u))
                            | ii + 9, hk => simp at hk
                        · intro w10 s10
                          simp only [Rf.vfin, Act.put, List.setIfInBounds_toArray, List.set_cons_succ, List.set_cons_zero]
                          have s10A : Aside (Below wd.heap.size wd w10) := s10
                          clear s10 KI hB
                          go_wp2_with fail
                          go_roundg (gk - 1)
                          case measure => have := hJ.out; have := hltA.out; omega
                          case rel =>
                            have := hJ.out
                            have := hltA.out
                            exact ⟨j + 1, by omega, by go_num, s10A⟩
                      · obtain rfl : j = 3 := by omega
                        have qE : Aside (∃ Fr M, Kq W wr S n r 3 G hv bt bh bo M.v Fr M) := ⟨Fr, M, qdA.out.below hB.out⟩
                        clear qdA hB hj hlt hJ hj3
                        go_wp2_with fail
                        go_roundg gi
                        case measure => have := hgiA.out; omega
                        case rel =>
                          have h1 := hI.out
                          have h2 := hgiA.out
                          have h3 := hiA.out
                          exact ⟨i + 1, by omega, by go_num, qE⟩
                · obtain ⟨k, hk⟩ : ∃ k : Nat, z1 = (k : Int) := ⟨z1.toNat, by omega⟩
                  subst hk
                  have kn : k + 1 < n := by omega
                  have h0 : ¬ (k : Int) < 0 := by omega
                  have wn : IntKind.i64.wrap ((n : Int) - 1) = (n : Int) - 1 := by rw [IntKind.wrap_i64]; omega
                  have hz2 : ¬ (n : Int) - 1 ≤ (k : Int) := by omega
                  have knA : Aside (k + 1 < n) := kn
                  have pA : Aside (atLev M k = p) := by rw [← atZ_nat]; exact hpA.out
                  have wrm : IntKind.i64.wrap ((r : Int) - mz) = (r : Int) - mz := by rw [IntKind.wrap_i64]; omega
                  clear hz kn
                  by_cases hfl : r < j + 2 * p
                  · have hgt : (r : Int) - mz < o2 := by have h1 := hjA.out; have h2 := ho2A.out; omega
                    have KS := swap_full (k := k) q12A.out.st (by rw [q12A.out.en]; exact knA.out) (by rw [q12A.out.er, hmA.out, pA.out]; exact hfl)
                    clear hfl
                    go_upto_region 34 with (first
                      | (go_at_call 18; refine KS.mono ?_; clear KS; rintro e w13 ⟨rfl, b13⟩))
                    have q13A : Aside (Kq W w13 S n r 3 G hv bt bh bo M.v Fr M) := q12A.out.below b13
                    clear b13 q12A
                    have K1 := s_len q13A.out.st
                    rw [hmA.out, hjA.out] at K1
                    have KR := s_room q13A.out.st
                    rw [q13A.out.er] at KR
                    go_upto_region 38 with (first
                      | (go_at_call 19; refine KR.mono ?_; clear KR; rintro e wx ⟨rfl, ex⟩; subst wx))
                    go_upto_region 40 with (first
                      | (go_at_call 16; refine K1.mono ?_; clear K1; rintro e w14 ⟨rfl, q14, e14⟩; have b14 : Below w13.heap.size w13 w14 := (by rw [e14]; exact ⟨rfl, rfl, rfl, Nat.le_refl _, fun _ _ => rfl⟩); have q14A : Aside (Kq W w14 S n r 3 G hv bt bh bo M.v Fr M) := q13A.out.below b14; have K2 := s_len q14A.out.st; rw [hmA.out, hjA.out] at K2; clear e14 b14)
                      | (go_at_call 16; refine K2.mono ?_; clear K2; rintro e w15 ⟨rfl, q15, e15⟩; have b15 : Below w14.heap.size w14 w15 := (by rw [e15]; exact ⟨rfl, rfl, rfl, Nat.le_refl _, fun _ _ => rfl⟩); have qT : Aside (Kq W w15 S n r 3 G hv bt bh bo M.v Fr M) := q14A.out.below b15; clear e15 b15 q14A))
                    go_upto_region 42 with fail
                    clear q13A
                    have K1 := s_order qT.out.st
                    rw [qT.out.en] at K1
                    go_upto_region 45 with (first
                      | (go_at_call 10; refine K1.mono ?_; clear K1; rintro e wa ⟨P, l, rfl, oa, ba, _⟩; have qa := qT.out.below ba; have K2 := Od.all_any oa n8)
                      | (go_at_call 11; refine K2.mono ?_; clear K2; rintro e wb ⟨rfl, rb, bb⟩; have qb := qa.below bb; have K3 := ints_true (n := n) (c := n) (d := n) (Z := fun i => (M.v i : Int)) rb qb.ord (Nat.le_trans n8 (by decide)))
                      | (go_at_call 20; refine K3.mono ?_; clear K3; rintro e wc ⟨rfl, bc⟩; have qc := qb.below bc; have K4 := once_any qc.st)
                      | (go_at_call 21; refine K4.mono ?_; clear K4; rintro e wd ⟨rfl, bd⟩; have qdA : Aside (Kq W wd S n r 3 G hv bt bh bo M.v Fr M) := qc.below bd))
                    clear qa qb qc oa ba bb bc bd rb qT
                    go_loopg [26] 3 (fun g s26 wr' => ∃ j : Nat, j + g = 3 ∧ s26 = .int .i64 (j : Int) ∧ Aside (Below wd.heap.size wd wr'))
                    case atStart => exact ⟨0, by omega, rfl, Below.refl _ _⟩
                    case round =>
                      obtain ⟨j, hj, rfl, hB⟩ := hrel
                      have hJ : Aside (j + gk = 3) := hj
                      have hj3 : j ≤ 3 := by omega
                      by_cases hlt : j < 3
                      · have hlt' : (j : Int) < 3 := by omega
                        have hltA : Aside (j < 3) := hlt
                        clear hlt hj
                        go_upto_region 47 with fail
                        have KI : ∀ u, Below wd.heap.size wd u → Calls Tryz.prog 22 #[.pointer (some ⟨S, 0, none⟩), .int .u32 (hv j : Int), tab (G j)] u fun e w' => e = .returned (.bool true) ∧ Below u.heap.size u w' := fun u hu => by
                          have nd := qdA.out.kn j hltA.out
                          have := isf_any (G := G j) (qdA.out.below hu).st nd.1
                          rwa [same_true nd.2] at this
                        refine wp_region_vals (fun u => Below wd.heap.size wd u) [(191, (.pointer (some ⟨S, 0, none⟩))), (192, (.int .i64 (j : Int))), (193, (.pointer (some ⟨bh, j, none⟩))), (194, (.int .u32 (hv j : Int))), (195, (.int .i64 (j : Int))), (196, (.pointer (some ⟨bt, j * 4, none⟩))), (197, (tab (G j))), (198, (.bool true)), (199, (.bool false))] [191, 192, 193, 194, 195, 196, 197, 198, 199] 224 (by kernel_rfl) (by kernel_rfl) rfl rfl (by decide) rfl (by decide) ?_ ?_ ?_
                        · exact Rf.below_far hB.out ⟨rfl, rfl, rfl, Nat.le_refl _, fun _ _ => rfl⟩
                        · intro ii kk hkk
                          match ii, hkk with
                            | 0, hk => obtain rfl := Option.some.inj hk; exact vok_plain _ rfl rfl rfl (does_val rfl fun ac u hG hL => x_move rfl ((hG.other 10 (by decide)).trans rfl))
                            | 1, hk => obtain rfl := Option.some.inj hk; exact vok_plain _ rfl rfl rfl (does_val rfl fun ac u hG hL => x_move rfl ((hG.other 26 (by decide)).trans rfl))
                            | 2, hk => obtain rfl := Option.some.inj hk; exact vok_plain _ rfl rfl rfl (does_val rfl fun ac u hG hL => x_index rfl ((hG.other 13 (by decide)).trans rfl) (hL ⟨1, .data⟩ (by simp) rfl _ rfl) (r_idxH bh hltA.out u))
                            | 3, hk => obtain rfl := Option.some.inj hk; exact vok_plain _ rfl rfl rfl (does_val rfl fun ac u hG hL => x_load rfl (hL ⟨2, .data⟩ (by simp) rfl _ rfl) (r_loadH (World.rowIs.cell (qdA.out.below hG.here).h3 hltA.out)))
                            | 4, hk => obtain rfl := Option.some.inj hk; exact vok_plain _ rfl rfl rfl (does_val rfl fun ac u hG hL => x_move rfl ((hG.other 26 (by decide)).trans rfl))
                            | 5, hk => obtain rfl := Option.some.inj hk; exact vok_plain _ rfl rfl rfl (does_val rfl fun ac u hG hL => x_index rfl ((hG.other 5 (by decide)).trans rfl) (hL ⟨4, .data⟩ (by simp) rfl _ rfl) (r_idxF bt hltA.out u))
                            | 6, hk => obtain rfl := Option.some.inj hk; exact vok_plain _ rfl rfl rfl (does_val rfl fun ac u hG hL => x_load rfl (hL ⟨5, .data⟩ (by simp) rfl _ rfl) (r_loadF ((qdA.out.below hG.here).t3.cells hltA.out)))
                            | 7, hk => obtain rfl := Option.some.inj hk; exact vok_plain _ rfl rfl rfl (does_call #[(.pointer (some ⟨S, 0, none⟩)), (.int .u32 (hv j : Int)), (tab (G j))] rfl (fun ac u hG hL => x_call rfl (by have e0 : ac.eval (.tmp 191) = (.pointer (some ⟨S, 0, none⟩)) := (hL ⟨0, .data⟩ (by simp) rfl _ rfl); have e1 : ac.eval (.tmp 194) = (.int .u32 (hv j : Int)) := (hL ⟨3, .data⟩ (by simp) rfl _ rfl); have e2 : ac.eval (.tmp 197) = (tab (G j)) := (hL ⟨6, .data⟩ (by simp) rfl _ rfl); simp only [List.map_toArray, List.map_cons, List.map_nil, e0, e1, e2]) (fun u => callIs _ u)) (fun u hu => (KI u hu).mono fun e w' q => ⟨q.1, Rf.below_far hu q.2⟩))
                            | 8, hk => obtain rfl := Option.some.inj hk; exact vok_plain _ rfl rfl rfl (does_val rfl fun ac u hG hL => x_un rfl (hL ⟨7, .data⟩ (by simp) rfl _ rfl) (r_not true u))
                            | ii + 9, hk => simp at hk
                        · intro w10 s10
                          simp only [Rf.vfin, Act.put, List.setIfInBounds_toArray, List.set_cons_succ, List.set_cons_zero]
                          have s10A : Aside (Below wd.heap.size wd w10) := s10
                          clear s10 KI hB
                          go_wp2_with fail
                          go_roundg (gk - 1)
                          case measure => have := hJ.out; have := hltA.out; omega
                          case rel =>
                            have := hJ.out
                            have := hltA.out
                            exact ⟨j + 1, by omega, by go_num, s10A⟩
                      · obtain rfl : j = 3 := by omega
                        have qE : Aside (∃ Fr M, Kq W wr S n r 3 G hv bt bh bo M.v Fr M) := ⟨Fr, M, qdA.out.below hB.out⟩
                        clear qdA hB hj hlt hJ hj3
                        go_wp2_with fail
                        go_roundg gi
                        case measure => have := hgiA.out; omega
                        case rel =>
                          have h1 := hI.out
                          have h2 := hgiA.out
                          have h3 := hiA.out
                          exact ⟨i + 1, by omega, by go_num, qE⟩
                  · have hgt : ¬ (r : Int) - mz < o2 := by have h1 := hjA.out; have h2 := ho2A.out; omega
                    have KS := swap_ok (k := k) q12A.out.st (by rw [q12A.out.en]; exact knA.out) (by rw [q12A.out.er, hmA.out, pA.out]; omega)
                    clear hfl
                    go_upto_region 34 with (first
                      | (go_at_call 18; refine KS.mono ?_; clear KS; rintro e w13 ⟨rfl, F13, M13, p13, l13, s13, g13⟩))
                    have q13A : Aside (Kq W w13 S n r 3 G hv bt bh bo M.v F13 M13) := q12A.out.wf g13 s13 (p13.kept q12A.out.st.ok)
                    have v13 : Aside (M13.v = swv M.v k) := p13.v
                    obtain ⟨m13, hm13⟩ : ∃ m13 : Int, (M13.hs.length : Int) = m13 := ⟨_, rfl⟩
                    have cm2 : ¬ mz + o2 < m13 := by rw [hmA.out, pA.out] at l13; have h1 := hjA.out; have h2 := ho2A.out; omega
                    clear l13 p13 g13 s13 q12A
                    have K1 := s_len q13A.out.st
                    rw [hm13] at K1
                    have KR := s_room q13A.out.st
                    rw [q13A.out.er] at KR
                    clear hm13
                    go_upto_region 38 with (first
                      | (go_at_call 19; refine KR.mono ?_; clear KR; rintro e wx ⟨rfl, ex⟩; subst wx))
                    go_upto_region 41 with (first
                      | (go_at_call 16; refine K1.mono ?_; clear K1; rintro e w14 ⟨rfl, q14, e14⟩; have b14 : Below w13.heap.size w13 w14 := (by rw [e14]; exact ⟨rfl, rfl, rfl, Nat.le_refl _, fun _ _ => rfl⟩); have q14A : Aside (Kq W w14 S n r 3 G hv bt bh bo M.v F13 M13) := q13A.out.below b14; clear e14 b14))
                    clear q13A cm2 cm1 wm1 hgt wrm hz2 wn h0 wo1
                    have kI : (k : Int) < (n : Int) := by have := knA.out; omega
                    have kI1 : ((k + 1 : Nat) : Int) < (n : Int) := by have := knA.out; omega
                    have wk : IntKind.i64.wrap ((k : Int) + 1) = ((k + 1 : Nat) : Int) := by have := knA.out; rw [IntKind.wrap_i64]; omega
                    have cI := World.rowIs.cell q14A.out.ord (i := k) (by have := knA.out; omega)
                    have cJ := World.rowIs.cell q14A.out.ord (i := k + 1) knA.out
                    have fI := World.rowIs.frozen q14A.out.ord k
                    have fJ := World.rowIs.frozen q14A.out.ord (k + 1)
                    have qTu : Aside (Kq W (((w14.setCell ⟨bo, k, none⟩ (.int .i64 (M.v (k + 1) : Int))).setCell ⟨bo, k + 1, none⟩ (.int .i64 (M.v k : Int))).drew) S n r 3 G hv bt bh bo M13.v F13 M13) := by
                      rw [v13.out]; exact q14A.out.turn k
                    have cU : (w14.setCell ⟨bo, k, none⟩ (.int .i64 (M.v (k + 1) : Int))).cell? ⟨bo, k + 1, none⟩ = some (.int .i64 (M.v k + 0 * 0 : Int)) ∨ True := .inr trivial
                    clear cU
                    generalize (M.v k : Int) = xk at cI qTu
                    generalize (M.v (k + 1) : Int) = yk at cJ qTu
                    clear q14A
                    go_region
                    have qT : Aside (Kq W (((w14.setCell ⟨bo, k, none⟩ (.int .i64 yk)).setCell ⟨bo, k + 1, none⟩ (.int .i64 xk)).drew) S n r 3 G hv bt bh bo M13.v F13 M13) := qTu
                    clear qTu cI cJ fI fJ kI kI1 wk
                    generalize (((w14.setCell ⟨bo, k, none⟩ (.int .i64 yk)).setCell ⟨bo, k + 1, none⟩ (.int .i64 xk)).drew) = w16 at qT ⊢
                    go_upto_region 42 with fail
                    have K1 := s_order qT.out.st
                    rw [qT.out.en] at K1
                    go_upto_region 45 with (first
                      | (go_at_call 10; refine K1.mono ?_; clear K1; rintro e wa ⟨P, l, rfl, oa, ba, _⟩; have qa := qT.out.below ba; have K2 := Od.all_any oa n8)
                      | (go_at_call 11; refine K2.mono ?_; clear K2; rintro e wb ⟨rfl, rb, bb⟩; have qb := qa.below bb; have K3 := ints_true (n := n) (c := n) (d := n) (Z := fun i => (M13.v i : Int)) rb qb.ord (Nat.le_trans n8 (by decide)))
                      | (go_at_call 20; refine K3.mono ?_; clear K3; rintro e wc ⟨rfl, bc⟩; have qc := qb.below bc; have K4 := once_any qc.st)
                      | (go_at_call 21; refine K4.mono ?_; clear K4; rintro e wd ⟨rfl, bd⟩; have qdA : Aside (Kq W wd S n r 3 G hv bt bh bo M13.v F13 M13) := qc.below bd))
                    clear qa qb qc oa ba bb bc bd rb qT
                    go_loopg [26] 3 (fun g s26 wr' => ∃ j : Nat, j + g = 3 ∧ s26 = .int .i64 (j : Int) ∧ Aside (Below wd.heap.size wd wr'))
                    case atStart => exact ⟨0, by omega, rfl, Below.refl _ _⟩
                    case round =>
                      obtain ⟨j, hj, rfl, hB⟩ := hrel
                      have hJ : Aside (j + gk = 3) := hj
                      have hj3 : j ≤ 3 := by omega
                      by_cases hlt : j < 3
                      · have hlt' : (j : Int) < 3 := by omega
                        have hltA : Aside (j < 3) := hlt
                        clear hlt hj
                        go_upto_region 47 with fail
                        have KI : ∀ u, Below wd.heap.size wd u → Calls Tryz.prog 22 #[.pointer (some ⟨S, 0, none⟩), .int .u32 (hv j : Int), tab (G j)] u fun e w' => e = .returned (.bool true) ∧ Below u.heap.size u w' := fun u hu => by
                          have nd := qdA.out.kn j hltA.out
                          have := isf_any (G := G j) (qdA.out.below hu).st nd.1
                          rwa [same_true nd.2] at this
                        refine wp_region_vals (fun u => Below wd.heap.size wd u) [(191, (.pointer (some ⟨S, 0, none⟩))), (192, (.int .i64 (j : Int))), (193, (.pointer (some ⟨bh, j, none⟩))), (194, (.int .u32 (hv j : Int))), (195, (.int .i64 (j : Int))), (196, (.pointer (some ⟨bt, j * 4, none⟩))), (197, (tab (G j))), (198, (.bool true)), (199, (.bool false))] [191, 192, 193, 194, 195, 196, 197, 198, 199] 224 (by kernel_rfl) (by kernel_rfl) rfl rfl (by decide) rfl (by decide) ?_ ?_ ?_
                        · exact Rf.below_far hB.out ⟨rfl, rfl, rfl, Nat.le_refl _, fun _ _ => rfl⟩
                        · intro ii kk hkk
                          match ii, hkk with
                            | 0, hk => obtain rfl := Option.some.inj hk; exact vok_plain _ rfl rfl rfl (does_val rfl fun ac u hG hL => x_move rfl ((hG.other 10 (by decide)).trans rfl))
                            | 1, hk => obtain rfl := Option.some.inj hk; exact vok_plain _ rfl rfl rfl (does_val rfl fun ac u hG hL => x_move rfl ((hG.other 26 (by decide)).trans rfl))
                            | 2, hk => obtain rfl := Option.some.inj hk; exact vok_plain _ rfl rfl rfl (does_val rfl fun ac u hG hL => x_index rfl ((hG.other 13 (by decide)).trans rfl) (hL ⟨1, .data⟩ (by simp) rfl _ rfl) (r_idxH bh hltA.out u))
                            | 3, hk => obtain rfl := Option.some.inj hk; exact vok_plain _ rfl rfl rfl (does_val rfl fun ac u hG hL => x_load rfl (hL ⟨2, .data⟩ (by simp) rfl _ rfl) (r_loadH (World.rowIs.cell (qdA.out.below hG.here).h3 hltA.out)))
                            | 4, hk => obtain rfl := Option.some.inj hk; exact vok_plain _ rfl rfl rfl (does_val rfl fun ac u hG hL => x_move rfl ((hG.other 26 (by decide)).trans rfl))
                            | 5, hk => obtain rfl := Option.some.inj hk; exact vok_plain _ rfl rfl rfl (does_val rfl fun ac u hG hL => x_index rfl ((hG.other 5 (by decide)).trans rfl) (hL ⟨4, .data⟩ (by simp) rfl _ rfl) (r_idxF bt hltA.out u))
                            | 6, hk => obtain rfl := Option.some.inj hk; exact vok_plain _ rfl rfl rfl (does_val rfl fun ac u hG hL => x_load rfl (hL ⟨5, .data⟩ (by simp) rfl _ rfl) (r_loadF ((qdA.out.below hG.here).t3.cells hltA.out)))
                            | 7, hk => obtain rfl := Option.some.inj hk; exact vok_plain _ rfl rfl rfl (does_call #[(.pointer (some ⟨S, 0, none⟩)), (.int .u32 (hv j : Int)), (tab (G j))] rfl (fun ac u hG hL => x_call rfl (by have e0 : ac.eval (.tmp 191) = (.pointer (some ⟨S, 0, none⟩)) := (hL ⟨0, .data⟩ (by simp) rfl _ rfl); have e1 : ac.eval (.tmp 194) = (.int .u32 (hv j : Int)) := (hL ⟨3, .data⟩ (by simp) rfl _ rfl); have e2 : ac.eval (.tmp 197) = (tab (G j)) := (hL ⟨6, .data⟩ (by simp) rfl _ rfl); simp only [List.map_toArray, List.map_cons, List.map_nil, e0, e1, e2]) (fun u => callIs _ u)) (fun u hu => (KI u hu).mono fun e w' q => ⟨q.1, Rf.below_far hu q.2⟩))
                            | 8, hk => obtain rfl := Option.some.inj hk; exact vok_plain _ rfl rfl rfl (does_val rfl fun ac u hG hL => x_un rfl (hL ⟨7, .data⟩ (by simp) rfl _ rfl) (r_not true u))
                            | ii + 9, hk => simp at hk
                        · intro w10 s10
                          simp only [Rf.vfin, Act.put, List.setIfInBounds_toArray, List.set_cons_succ, List.set_cons_zero]
                          have s10A : Aside (Below wd.heap.size wd w10) := s10
                          clear s10 KI hB
                          go_wp2_with fail
                          go_roundg (gk - 1)
                          case measure => have := hJ.out; have := hltA.out; omega
                          case rel =>
                            have := hJ.out
                            have := hltA.out
                            exact ⟨j + 1, by omega, by go_num, s10A⟩
                      · obtain rfl : j = 3 := by omega
                        have qE : Aside (∃ Fr M, Kq W wr S n r 3 G hv bt bh bo M.v Fr M) := ⟨F13, M13, qdA.out.below hB.out⟩
                        clear qdA hB hj hlt hJ hj3
                        go_wp2_with fail
                        go_roundg gi
                        case measure => have := hgiA.out; omega
                        case rel =>
                          have h1 := hI.out
                          have h2 := hgiA.out
                          have h3 := hiA.out
                          exact ⟨i + 1, by omega, by go_num, qE⟩
          · obtain rfl : i = len := by omega
            obtain ⟨Fz, Mz, qz⟩ := hq.out
            have qZ : Aside (Kq W wr S n r 3 G hv bt bh bo Mz.v Fz Mz) := qz
            obtain ⟨wz, hwz⟩ : ∃ wz, wr = wz := ⟨_, rfl⟩
            have b0A : Aside (Below wz.heap.size wz wr) := by rw [← hwz]; exact Below.refl _ _
            rw [hwz] at qZ
            clear hq qz hwz hlt hi hI hin
            go_upto_region 50 with fail
            go_loopg [27] 3 (fun g s27 wr' => ∃ a : Nat, a + g = 3 ∧ s27 = .int .i64 (a : Int) ∧ Aside (Below wz.heap.size wz wr'))
            case atStart => exact ⟨0, by omega, rfl, b0A⟩
            case round =>
              clear b0A
              obtain ⟨a, ha, rfl, hB⟩ := hrel
              have hA : Aside (a + gk = 3) := ha
              have ha3 : a ≤ 3 := by omega
              by_cases hlt : a < 3
              · have hlt' : (a : Int) < 3 := by omega
                have aA : Aside (a < 3) := hlt
                obtain ⟨ga, hga⟩ : ∃ ga, ga + 1 = gk := ⟨gk - 1, by omega⟩
                have hgaA : Aside (ga + 1 = gk) := hga
                clear hga hlt ha
                go_upto_region 53 with fail
                go_loopg [28] a (fun g s28 wr' => ∃ b : Nat, b + g = a ∧ s28 = .int .i64 (b : Int) ∧ Aside (Below wz.heap.size wz wr'))
                case atStart => exact ⟨0, by omega, rfl, hB⟩
                case round =>
                  clear hB
                  obtain ⟨b, hb, rfl, hB⟩ := hrel
                  have hBb : Aside (b + gk = a) := hb
                  have hb3 : b ≤ 3 := by omega
                  by_cases hlt : b < a
                  · have hltb : (b : Int) < (a : Int) := by omega
                    have bA : Aside (b < 3) := by have := aA.out; show b < 3; omega
                    have hbaA : Aside (b < a) := hlt
                    clear hlt hb
                    obtain ⟨zz, hzz⟩ : ∃ zz, same (G a) (G b) = zz := ⟨_, rfl⟩
                    have zT : Aside (∀ w, (binOp .eql 24 (tab (G a)) (tab (G b))).run Tryz.prog w = .ok (.bool zz) w) := fun w => by rw [← hzz]; exact run_eqT _ _ w
                    have zH : Aside (∀ w, (binOp .eql 38 (.int .u32 (hv a : Int)) (.int .u32 (hv b : Int))).run Tryz.prog w = .ok (.bool zz) w) := fun w => by
                      have na := qZ.out.kn a aA.out
                      have nb := qZ.out.kn b bA.out
                      by_cases e : hv a = hv b
                      · have : zz = true := by
                          rw [← hzz]
                          refine same_true (na.2.symm.trans ?_)
                          rw [e]; exact nb.2
                        rw [this]
                        exact run_eqH (by rw [e]) w
                      · have : zz = false := by
                          rw [← hzz]
                          exact same_false fun q => e ((Mdl.one_iff qZ.out.st.ok na.1 nb.1).1 (na.2.trans (q.trans nb.2.symm)))
                        rw [this]
                        exact run_neH (by omega) w
                    clear hzz
                    go_upto_region 55 with fail
                    refine wp_region_vals (fun u => Below wz.heap.size wz u) [(209, (.int .i64 (a : Int))), (210, (.pointer (some ⟨bh, a, none⟩))), (211, (.int .u32 (hv a : Int))), (212, (.int .i64 (b : Int))), (213, (.pointer (some ⟨bh, b, none⟩))), (214, (.int .u32 (hv b : Int))), (215, (.bool zz)), (216, (.int .i64 (a : Int))), (217, (.pointer (some ⟨bt, a * 4, none⟩))), (218, (tab (G a))), (219, (.int .i64 (b : Int))), (220, (.pointer (some ⟨bt, b * 4, none⟩))), (221, (tab (G b))), (222, (.bool zz)), (223, (.bool false))] [209, 210, 211, 212, 213, 214, 215, 216, 217, 218, 219, 220, 221, 222, 223] 224 (by kernel_rfl) (by kernel_rfl) rfl rfl (by decide) rfl (by decide) ?_ ?_ ?_
                    · exact Rf.below_far hB.out ⟨rfl, rfl, rfl, Nat.le_refl _, fun _ _ => rfl⟩
                    · intro ii kk hkk
                      match ii, hkk with
                    | 0, hk => obtain rfl := Option.some.inj hk; exact vok_plain _ rfl rfl rfl (does_val rfl fun ac u hG hL => x_move rfl ((hG.other 27 (by decide)).trans rfl))
                    | 1, hk => obtain rfl := Option.some.inj hk; exact vok_plain _ rfl rfl rfl (does_val rfl fun ac u hG hL => x_index rfl ((hG.other 13 (by decide)).trans rfl) (hL ⟨0, .data⟩ (by simp) rfl _ rfl) (r_idxH bh aA.out u))
                    | 2, hk => obtain rfl := Option.some.inj hk; exact vok_plain _ rfl rfl rfl (does_val rfl fun ac u hG hL => x_load rfl (hL ⟨1, .data⟩ (by simp) rfl _ rfl) (r_loadH (World.rowIs.cell (qZ.out.below hG.here).h3 aA.out)))
                    | 3, hk => obtain rfl := Option.some.inj hk; exact vok_plain _ rfl rfl rfl (does_val rfl fun ac u hG hL => x_move rfl ((hG.other 28 (by decide)).trans rfl))
                    | 4, hk => obtain rfl := Option.some.inj hk; exact vok_plain _ rfl rfl rfl (does_val rfl fun ac u hG hL => x_index rfl ((hG.other 13 (by decide)).trans rfl) (hL ⟨3, .data⟩ (by simp) rfl _ rfl) (r_idxH bh bA.out u))
                    | 5, hk => obtain rfl := Option.some.inj hk; exact vok_plain _ rfl rfl rfl (does_val rfl fun ac u hG hL => x_load rfl (hL ⟨4, .data⟩ (by simp) rfl _ rfl) (r_loadH (World.rowIs.cell (qZ.out.below hG.here).h3 bA.out)))
                    | 6, hk => obtain rfl := Option.some.inj hk; exact vok_plain _ rfl rfl rfl (does_val rfl fun ac u hG hL => x_bin rfl (hL ⟨2, .data⟩ (by simp) rfl _ rfl) (hL ⟨5, .data⟩ (by simp) rfl _ rfl) (grd_eqH _ _ _ _ _) (zH.out u))
                    | 7, hk => obtain rfl := Option.some.inj hk; exact vok_plain _ rfl rfl rfl (does_val rfl fun ac u hG hL => x_move rfl ((hG.other 27 (by decide)).trans rfl))
                    | 8, hk => obtain rfl := Option.some.inj hk; exact vok_plain _ rfl rfl rfl (does_val rfl fun ac u hG hL => x_index rfl ((hG.other 5 (by decide)).trans rfl) (hL ⟨7, .data⟩ (by simp) rfl _ rfl) (r_idxF bt aA.out u))
                    | 9, hk => obtain rfl := Option.some.inj hk; exact vok_plain _ rfl rfl rfl (does_val rfl fun ac u hG hL => x_load rfl (hL ⟨8, .data⟩ (by simp) rfl _ rfl) (r_loadF ((qZ.out.below hG.here).t3.cells aA.out)))
                    | 10, hk => obtain rfl := Option.some.inj hk; exact vok_plain _ rfl rfl rfl (does_val rfl fun ac u hG hL => x_move rfl ((hG.other 28 (by decide)).trans rfl))
                    | 11, hk => obtain rfl := Option.some.inj hk; exact vok_plain _ rfl rfl rfl (does_val rfl fun ac u hG hL => x_index rfl ((hG.other 5 (by decide)).trans rfl) (hL ⟨10, .data⟩ (by simp) rfl _ rfl) (r_idxF bt bA.out u))
                    | 12, hk => obtain rfl := Option.some.inj hk; exact vok_plain _ rfl rfl rfl (does_val rfl fun ac u hG hL => x_load rfl (hL ⟨11, .data⟩ (by simp) rfl _ rfl) (r_loadF ((qZ.out.below hG.here).t3.cells bA.out)))
                    | 13, hk => obtain rfl := Option.some.inj hk; exact vok_plain _ rfl rfl rfl (does_val rfl fun ac u hG hL => x_bin rfl (hL ⟨9, .data⟩ (by simp) rfl _ rfl) (hL ⟨12, .data⟩ (by simp) rfl _ rfl) (guard_eqT _ _ _ _ _) (zT.out u))
                    | 14, hk => obtain rfl := Option.some.inj hk; exact vok_plain _ rfl rfl rfl (does_val rfl fun ac u hG hL => x_bin rfl (hL ⟨6, .data⟩ (by simp) rfl _ rfl) (hL ⟨13, .data⟩ (by simp) rfl _ rfl) (grd_eqB _ _ _ _ _ _) (run_neB zz u))
                    | ii + 15, hk => simp at hk
                    · intro w10 s10
                      simp only [Rf.vfin, Act.put, List.setIfInBounds_toArray, List.set_cons_succ, List.set_cons_zero]
                      have s10A : Aside (Below wz.heap.size wz w10) := s10
                      clear s10 hB zT zH
                      go_wp2_with fail
                      go_roundg (gk - 1)
                      case measure => have := hBb.out; have := hbaA.out; omega
                      case rel =>
                        have := hBb.out
                        have := hbaA.out
                        exact ⟨b + 1, by omega, by go_num, s10A⟩
                  · have hltb : ¬ (b : Int) < (a : Int) := by omega
                    clear hb hlt
                    go_wp2_with fail
                    go_roundg ga
                    case measure => have := hgaA.out; omega
                    case rel =>
                      have h1 := hA.out
                      have h2 := hgaA.out
                      have h3 := aA.out
                      exact ⟨a + 1, by omega, by go_num, hB⟩
              · obtain rfl : a = 3 := by omega
                have BF : Aside (Below W.heap.size W wr) := Rf.below_far qZ.out.base hB.out
                clear hB qZ
                go_wp2_with fail
                go_ret
                exact ⟨rfl, BF.out⟩
  · have ni : (30 : Int) < (len : Int) := by omega
    go_wp2_with fail
    go_ret
    exact ⟨rfl, B2⟩
end Go.Proofs.YteickckgljlacaaGreat.Sw
