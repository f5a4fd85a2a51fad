/-
  The statements' own helps: what is each variable once (perm); how many swaps bring an order about (moves).
-/
import Derived.Test.YteickckgljlacaaGreatSwPm
import Derived.Test.YteickckgljlacaaGreatSOneW
namespace Go.Proofs.YteickckgljlacaaGreat.Sw
open Go Go.RowKit

set_option maxHeartbeats 800000 in
theorem isperm_any {w : World} {ad : Option Addr} {len c : Nat} {Z : Nat → Int} (hz : Od.IntsAt w ad len Z) (few : len ≤ 12) :
    Calls Tryz.prog 28 #[.slice ad len c] w fun e w' => e = .returned (.bool (Od.permB len Z 8)) ∧ Below w.heap.size w w' := by
  have notA : Aside (∀ i, i < len → Od.okAt 8 Z i = false → Od.permB len Z 8 = false) := fun i hi h => by
    by_cases e : len = 8
    · rw [e]; exact Od.permB_false (by omega) h
    · rw [Od.permB, decide_eq_false e]; rfl
  have yesA : Aside (Od.okUpto 8 Z len = true → Od.permB len Z 8 = decide (len = 8)) := fun h => by
    by_cases e : len = 8
    · rw [Od.permB, ← e, e, ← e]
      rw [e] at h ⊢
      rw [h]; simp
    · rw [Od.permB, decide_eq_false e]; rfl
  go_enter Tryz.func28, Tryz.ntmps28
  go_wp2_with fail
  go_loopg [4] len (fun g si wr => ∃ j : Nat, j + g = len ∧ si = .int .i64 (j : Int) ∧ Od.okUpto 8 Z j = true ∧ Below w.heap.size w wr ∧ wr.rowIs w.heap.size 111 8 (fun x => .bool (Od.seenB Z j x)))
  case atStart => exact ⟨0, by omega, rfl, rfl, (Below.refl _ w).alloc (Nat.le_refl _) _, Od.seen_start w Z⟩
  case round =>
    obtain ⟨j, hj, rfl, he, hb, hr⟩ := hrel
    have hJ : Aside (j + gk = len) := hj
    have hE : Aside (Od.okUpto 8 Z j = true) := he
    clear he
    by_cases hlt : j < len
    · have hlt' : (j : Int) < (len : Int) := by omega
      rcases hz with hz | ⟨b1, o1, rfl, hb1, hc1⟩
      · omega
      have k1 : wr.cell? ⟨b1, o1 + j, none⟩ = some (.int .i64 (Z j)) := by rw [hb.cell hb1]; exact hc1 j hlt
      by_cases h0 : Z j < 0
      · have hF : Aside (Od.permB len Z 8 = false) := notA.out j hlt (Od.okAt_neg h0)
        generalize Z j = z at k1 h0
        clear hj
        go_wp2_with fail
        go_ret
        rw [hF.out]
        exact ⟨rfl, hb⟩
      · by_cases h7 : 7 < Z j
        · have hF : Aside (Od.permB len Z 8 = false) := notA.out j hlt (Od.okAt_big (by omega))
          generalize Z j = z at k1 h0 h7
          clear hj
          go_wp2_with fail
          go_ret
          rw [hF.out]
          exact ⟨rfl, hb⟩
        · obtain ⟨z, hzz⟩ : ∃ z : Nat, Z j = (z : Int) := ⟨(Z j).toNat, by omega⟩
          have hz8 : z < 8 := by omega
          have hz8' : (z : Int) < 8 := by omega
          have hz0 : ¬ (z : Int) < 0 := by omega
          have hz7 : ¬ (7 : Int) < (z : Int) := by omega
          have k2 : wr.cell? ⟨w.heap.size, z, none⟩ = some (.bool (Od.seenB Z j z)) := hr.cell hz8
          have f2 := hr.frozen z
          have hr2 : Aside ((wr.setCell ⟨w.heap.size, z, none⟩ (.bool true)).rowIs w.heap.size 111 8 (fun x => .bool (Od.seenB Z (j + 1) x))) := Od.seen_set hr hzz
          rw [hzz] at k1
          by_cases hsn : Od.seenB Z j z = true
          · have hF : Aside (Od.permB len Z 8 = false) := notA.out j hlt (Od.okAt_seen hzz hsn)
            rw [hsn] at k2
            clear hj hzz h0 h7 hsn
            go_wp2_with fail
            go_ret
            rw [hF.out]
            exact ⟨rfl, hb⟩
          · have hsn' : Od.seenB Z j z = false := by simpa using hsn
            have hE' : Aside (Od.okUpto 8 Z (j + 1) = true) := by
              simp only [Aside, Od.okUpto]
              rw [hE.out, Od.okAt_ok hzz (by omega) hsn']
              rfl
            rw [hsn'] at k2
            clear hj hzz h0 h7 hsn hsn'
            go_wp2_with fail
            go_roundg (gk - 1)
            case measure => have := hJ.out; omega
            case rel =>
              have hj := hJ.out
              exact ⟨j + 1, by omega, by go_num, hE'.out, hb.setCell (Nat.le_refl _) _, hr2.out⟩
    · obtain rfl : j = len := by omega
      have hR : Aside (Od.permB j Z 8 = decide (j = 8)) := yesA.out hE.out
      clear hj
      by_cases e8 : j = 8
      · subst e8
        go_wp2_with fail
        go_ret
        rw [hR.out]
        exact ⟨rfl, hb⟩
      · have e8' : ¬ (j : Int) = 8 := by omega
        have e8A : Aside (¬ j = 8) := e8
        have eb : ((j : Int) == 8) = false := by rw [beq_eq_false_iff_ne]; exact e8'
        go_wp2_with fail
        go_ret
        rw [hR.out, decide_eq_false e8A.out]
        exact ⟨rfl, hb⟩
/-- A row of eight numbers. -/
def Nw (w : World) (g cap : Nat) (v : Nat → Nat) : Prop := ∃ U : Nat → Value, w.rowIs g 3 cap U ∧ 8 ≤ cap ∧ ∀ i, i < 8 → U i = .int .i64 (v i : Int)
theorem Nw.cell {w : World} {g cap : Nat} {v : Nat → Nat} (h : Nw w g cap v) {i : Nat} (hi : i < 8) : w.cell? ⟨g, i, none⟩ = some (.int .i64 (v i : Int)) := by
  obtain ⟨U, r, h8, e⟩ := h
  rw [r.cell (by omega), e i hi]
theorem Nw.frozen {w : World} {g cap : Nat} {v : Nat → Nat} (h : Nw w g cap v) (i : Nat) : w.frozen? ⟨g, i, none⟩ = false := by
  obtain ⟨U, r, _⟩ := h
  exact r.frozen i
theorem Nw.cell2 {w : World} {g cap i j : Nat} {v : Nat → Nat} (h : Nw w g cap v) (hj : j < 8) (ne : j ≠ i) (x : Value) : (w.setCell ⟨g, i, none⟩ x).cell? ⟨g, j, none⟩ = some (.int .i64 (v j : Int)) := by
  obtain ⟨U, r, h8, e⟩ := h
  rw [(r.set i x).cell (by omega), if_neg ne, e j hj]
theorem Nw.drew {w : World} {g cap : Nat} {v : Nat → Nat} (h : Nw w g cap v) : Nw w.drew g cap v := by
  obtain ⟨U, r, q⟩ := h
  exact ⟨U, r.drew, q⟩
theorem Nw.swap {w : World} {g cap k : Nat} {v : Nat → Nat} (h : Nw w g cap v) (_hk : k + 1 < 8) : Nw ((w.setCell ⟨g, k + 1, none⟩ (.int .i64 (v k : Int))).setCell ⟨g, k, none⟩ (.int .i64 (v (k + 1) : Int))).drew g cap (swv v k) := by
  obtain ⟨U, r, h8, e⟩ := h
  refine ⟨_, World.rowIs.drew ((r.set (k + 1) _).set k _), h8, fun i hi => ?_⟩
  by_cases e0 : i = k
  · rw [if_pos e0, e0, swv_k]
  · rw [if_neg e0]
    by_cases e1 : i = k + 1
    · rw [if_pos e1, e1, swv_k1]
    · rw [if_neg e1, swv_far e0 e1, e i hi]
theorem Nw.of {w : World} {B g cap : Nat} {v : Nat → Nat} (h : OwnR 3 w B (some ⟨g, 0, none⟩) 8 cap (fun i => .int .i64 (v i : Int))) : Nw w g cap v ∧ B ≤ g := by
  obtain ⟨cur, hh, hs, h8, _, hb, hc⟩ := h.cur
  refine ⟨⟨fun i => cur.getD i undef, ⟨cur, hh, hs, fun i hi => ?_⟩, h8, fun i hi => ?_⟩, hb⟩
  · have hi' : i < cur.size := by omega
    simp [hi']
  · show cur.getD i undef = _
    rw [Array.getD_eq_getD_getElem?, hc i hi]; rfl
theorem toC_le {v : Nat → Nat} {Z : Nat → Int} {n : Nat} (lt : ∀ i, i < n → v i < n) (inj : ∀ a b, a < n → b < n → v a = v b → a = b) (hZ : ∀ i, i < n → 0 ≤ Z i ∧ Z i < (n : Int)) (hd : ∀ i j, i < n → j < i → Z j ≠ Z i) : ∀ {j}, j ≤ n → toC v Z n j ≤ j * n
  | 0, _ => by rw [toC]; omega
  | j + 1, h => by
    have ih := toC_le lt inj hZ hd (j := j) (by omega)
    have q := toV_ord lt inj hZ hd (j := j) (by omega)
    have := (to_at q.1 q.2.1 (by omega) hZ hd q.2.2).1
    rw [toC, Nat.succ_mul]
    omega
theorem idn_ord : (∀ i, i < 8 → Od.idn 8 i < 8) ∧ ∀ a b, a < 8 → b < 8 → Od.idn 8 a = Od.idn 8 b → a = b := by
  have e : ∀ i, i < 8 → Od.idn 8 i = i := fun i hi => if_pos hi
  exact ⟨fun i hi => by rw [e i hi]; exact hi, fun a b ha hb q => by rw [e a ha, e b hb] at q; exact q⟩
set_option maxRecDepth 100000 in
set_option maxHeartbeats 4000000 in
theorem moves_any {w : World} {b c : Nat} {Z : Nat → Int} (hz : ∀ i, i < 8 → w.cell? ⟨b, i, none⟩ = some (.int .i64 (Z i))) (hb : b < w.heap.size) (hZ : ∀ i, i < 8 → 0 ≤ Z i ∧ Z i < (8 : Int)) (hd : ∀ i j, i < 8 → j < i → Z j ≠ Z i) :
    Calls Tryz.prog 25 #[.slice (some ⟨b, 0, none⟩) 8 c] w fun e w' => e = .returned (.int .i64 (toC (Od.idn 8) Z 8 8 : Int)) ∧ Below w.heap.size w w' := by
  have hzA : Aside (∀ {u : World}, Below w.heap.size w u → ∀ i, i < 8 → u.cell? ⟨b, i, none⟩ = some (.int .i64 (Z i))) := fun k i hi => by rw [k.cell hb]; exact hz i hi
  have hZA : Aside ((∀ i, i < 8 → 0 ≤ Z i ∧ Z i < (8 : Int)) ∧ ∀ i j, i < 8 → j < i → Z j ≠ Z i) := ⟨hZ, hd⟩
  have ordA : Aside (∀ {j}, j ≤ 8 → (∀ i, i < 8 → toV (Od.idn 8) Z 8 j i < 8) ∧ (∀ a b, a < 8 → b < 8 → toV (Od.idn 8) Z 8 j a = toV (Od.idn 8) Z 8 j b → a = b) ∧ ∀ i, i < j → ((toV (Od.idn 8) Z 8 j i : Nat) : Int) = Z i) := toV_ord idn_ord.1 idn_ord.2 hZ hd
  have cleA : Aside (∀ {j}, j ≤ 8 → toC (Od.idn 8) Z 8 j ≤ j * 8) := toC_le idn_ord.1 idn_ord.2 hZ hd
  clear hz hb hZ hd
  go_enter Tryz.func25, Tryz.ntmps25
  go_upto_region 3 with fail
  go_loopg [3, 4] 8 (fun gn s3 s4 wr => ∃ (v : Nat) (a2 : Option Addr) (c2 : Nat), v + gn = 8 ∧ s3 = .slice a2 v c2 ∧ s4 = .int .i64 (v : Int) ∧ Aside (OwnR 3 wr w.heap.size a2 v c2 (fun i => .int .i64 (i : Int))) ∧ Aside (Below w.heap.size w wr))
  case atStart => exact ⟨0, none, 0, by omega, rfl, rfl, OwnR.nil _ _ _ _, Below.refl _ _⟩
  case round =>
    obtain ⟨v, a2, c2, hv, rfl, rfl, ow, B5⟩ := hrel
    have hJ : Aside (v + gk = 8) := hv
    clear hv
    by_cases hv8 : v < 8
    · have hvi : (v : Int) < 8 := by omega
      have vA : Aside (v < 8) := hv8
      clear hv8
      go_upto_region 5 with fail
      go_upto_region 4 with (first
        | (at_builtin; refine append_i (ow.out.new _) wr.heap.size (v : Int) (Go.Deep.blk_alloc_new _ _) (by have := vA.out; omega) (by have := B5.out.size; simp; omega) rfl (.tmp 14) (.tmp 16) rfl rfl rfl ?_; intro g c6 w6 o6 went6 at6))
      have B6 : Aside (Below w.heap.size w w6) := by
        have B5' := Rf.below_far B5.out (nb wr (.cells #[.int .i64 (v : Int)] 3))
        exact B5'.trans ⟨went6.os, went6.tape, went6.output, went6.size, fun x hx => went6.block x (Nat.lt_of_lt_of_le hx B5'.size) fun q => by
          have := (ow.out.block x q).1
          omega⟩
      have e6 : (fun i => if i = v then Value.int .i64 (v : Int) else .int .i64 (i : Int)) = fun i : Nat => Value.int .i64 (i : Int) := funext fun i => by
        by_cases e : i = v
        · rw [if_pos e, e]
        · rw [if_neg e]
      have o6A : Aside (OwnR 3 w6 w.heap.size (some ⟨g, 0, none⟩) (v + 1) c6 (fun i => .int .i64 (i : Int))) := by rw [e6] at o6; exact o6
      clear o6 went6 at6 e6 ow B5
      go_wp2_with fail
      go_roundg (gk - 1)
      case measure => have := hJ.out; have := vA.out; omega
      case rel =>
        have := hJ.out
        have := vA.out
        exact ⟨v + 1, some ⟨g, 0, none⟩, c6, by omega, rfl, by go_num, o6A, B6⟩
    · obtain rfl : v = 8 := by have := hJ.out; omega
      obtain ⟨g, rfl⟩ := ow.out.form (by omega)
      have nw0 : Aside (Nw wr g c2 (toV (Od.idn 8) Z 8 0) ∧ Below w.heap.size w wr) := by
        refine ⟨(Nw.of (B := w.heap.size) (v := toV (Od.idn 8) Z 8 0) ?_).1, B5.out⟩
        have o8 := ow.out
        obtain ⟨cur, hh, hs, h8, hm, hbg, hc⟩ := o8.cur
        exact OwnR.mk' hh hs h8 hm hbg fun i hi => by
          rw [hc i hi]
          show some (Value.int .i64 (i : Int)) = some (.int .i64 ((Od.idn 8 i : Nat) : Int))
          rw [show Od.idn 8 i = i from if_pos hi]
      have gA : Aside (w.heap.size ≤ g) := by
        obtain ⟨cur, hh, hs, h8, hm, hbg, hc⟩ := ow.out.cur
        exact hbg
      clear ow B5 hv8 hJ
      go_upto_region 8 with fail
      go_loopg [5, 6] 8 (fun gn s5 s6 wr => ∃ k : Nat, k + gn = 8 ∧ s6 = .int .i64 (k : Int) ∧ s5 = .int .i64 (toC (Od.idn 8) Z 8 k : Int) ∧ Aside (Nw wr g c2 (toV (Od.idn 8) Z 8 k) ∧ Below w.heap.size w wr))
      case atStart => exact ⟨0, by omega, rfl, rfl, nw0⟩
      case round =>
        clear nw0
        obtain ⟨k, hk, rfl, rfl, hq⟩ := hrel
        have hK : Aside (k + gk = 8) := hk
        by_cases hlt : k < 8
        · have hlt' : (k : Int) < 8 := by omega
          have kA : Aside (k < 8) := hlt
          obtain ⟨gj, hgj⟩ : ∃ gj, gj + 1 = gk := ⟨gk - 1, by omega⟩
          have hgjA : Aside (gj + 1 = gk) := hgj
          have q := ordA.out (j := k) (by omega)
          obtain ⟨p1, p2, p3, p4⟩ := to_at q.1 q.2.1 hlt hZA.out.1 hZA.out.2 q.2.2
          have hC1 : Aside (toC (Od.idn 8) Z 8 (k + 1) = toC (Od.idn 8) Z 8 k + (toP (toV (Od.idn 8) Z 8 k) Z 8 k - k)) := rfl
          have hV1 : Aside (toV (Od.idn 8) Z 8 (k + 1) = downV (toV (Od.idn 8) Z 8 k) (toP (toV (Od.idn 8) Z 8 k) Z 8 k) (toP (toV (Od.idn 8) Z 8 k) Z 8 k - k)) := rfl
          have hC64 := cleA.out (j := k + 1) hlt
          rw [hC1.out] at hC64
          generalize toP (toV (Od.idn 8) Z 8 k) Z 8 k = p at p1 p2 p3 p4 hC1 hV1 hC64
          generalize toC (Od.idn 8) Z 8 k = C at hC1 hC64 ⊢
          generalize toV (Od.idn 8) Z 8 k = v at hV1 p3 p4 hq q
          have pA : Aside (p < 8 ∧ k ≤ p ∧ ((v p : Nat) : Int) = Z k ∧ ∀ i, i < p → k ≤ i → ¬ ((v i : Nat) : Int) = Z k) := ⟨p1, p2, p3, fun i hi _ e => by
            have := q.2.1 i p (by omega) p1 (by omega)
            omega⟩
          have hC6 : C + (p - k) ≤ 64 := by omega
          clear hk hgj q p1 p2 p3 p4 hC64
          go_upto_region 11 with fail
          go_loopg [7] (8 - k) (fun gn s7 wr' => ∃ a : Nat, a + gn = 8 ∧ k ≤ a ∧ a ≤ p ∧ s7 = .int .i64 (a : Int) ∧ Aside (Nw wr' g c2 v ∧ Below w.heap.size w wr'))
          case atStart => exact ⟨k, by omega, Nat.le_refl _, pA.out.2.1, rfl, hq⟩
          case round =>
            clear hq
            obtain ⟨a, ha, hka, hap, rfl, hq⟩ := hrel
            have hA : Aside (a + gk = 8 ∧ k ≤ a ∧ a ≤ p) := ⟨ha, hka, hap⟩
            have a8 : a < 8 := by have := pA.out.1; omega
            have a8' : (a : Int) < 8 := by omega
            have k1 := hq.out.1.cell a8
            have k2 := hzA.out hq.out.2 k kA.out
            have nwA : Aside (Nw wr.drew g c2 v ∧ Below w.heap.size w wr.drew) := ⟨hq.out.1.drew, ⟨hq.out.2.os, hq.out.2.tape, hq.out.2.output, hq.out.2.size, hq.out.2.block⟩⟩
            by_cases e : a = p
            · have e1 : ((v a : Nat) : Int) = Z k := by rw [e]; exact pA.out.2.2.1
              rw [e1] at k1
              have apA : Aside (a = p) := e
              generalize Z k = y at k1 k2
              clear e e1 ha hka hap hq
              go_wp2_with fail
              go_region
              clear k1 k2
              generalize wr.drew = wd at nwA ⊢
              go_wp2_with fail
              rw [apA.out]
              go_loopg [7, 5] (p - k) (fun gn s7 s5 wr' => ∃ d : Nat, d + gn = p - k ∧ s7 = .int .i64 ((p - d : Nat) : Int) ∧ s5 = .int .i64 ((C + d : Nat) : Int) ∧ Aside (Nw wr' g c2 (downV v p d) ∧ Below w.heap.size w wr'))
              case atStart => exact ⟨0, by omega, rfl, rfl, nwA⟩
              case round =>
                clear nwA
                obtain ⟨d, hdd, rfl, rfl, hq⟩ := hrel
                have hDA : Aside (d + gk = p - k) := hdd
                obtain ⟨f, hf⟩ : ∃ f, C + d = f := ⟨_, rfl⟩
                have hfA : Aside (C + d = f) := hf
                rw [hf]
                have hf64 : f ≤ 64 := by omega
                obtain ⟨q, hqq⟩ : ∃ q, p - d = q := ⟨_, rfl⟩
                have hqA : Aside (p - d = q) := hqq
                rw [hqq]
                have q8 : q < 8 := by have := pA.out.1; omega
                by_cases hlt : k < q
                · obtain ⟨r, hr⟩ : ∃ r, r + 1 = q := ⟨q - 1, by omega⟩
                  have hrA : Aside (r + 1 = q) := hr
                  have hkqA : Aside (k < q) := hlt
                  have hlt2 : (k : Int) < (q : Int) := by omega
                  have hr1 : IntKind.i64.wrap ((q : Int) - 1) = (r : Int) := by rw [IntKind.wrap_i64]; omega
                  have q8' : (q : Int) < 8 := by omega
                  have r8' : (r : Int) < 8 := by omega
                  have r8 : r < 8 := by omega
                  have k1 := hq.out.1.cell q8
                  have k2 := hq.out.1.cell r8
                  have cU := hq.out.1.cell2 (i := q) r8 (by omega) (.int .i64 (downV v p d r : Int))
                  have f1 := hq.out.1.frozen q
                  have f2 := hq.out.1.frozen r
                  have hw : Aside (Nw (((wr.setCell ⟨g, q, none⟩ (.int .i64 (downV v p d r : Int))).setCell ⟨g, r, none⟩ (.int .i64 (downV v p d q : Int))).drew) g c2 (downV v p (d + 1)) ∧ Below w.heap.size w (((wr.setCell ⟨g, q, none⟩ (.int .i64 (downV v p d r : Int))).setCell ⟨g, r, none⟩ (.int .i64 (downV v p d q : Int))).drew)) := by
                    have n1 := hq.out.1.swap (k := r) (by omega)
                    rw [hr] at n1
                    have b1 : Below w.heap.size w ((wr.setCell ⟨g, q, none⟩ (.int .i64 (downV v p d r : Int))).setCell ⟨g, r, none⟩ (.int .i64 (downV v p d q : Int))) := (hq.out.2.setCell gA.out _).setCell gA.out _
                    refine ⟨?_, ⟨b1.os, b1.tape, b1.output, b1.size, b1.block⟩⟩
                    rw [downV, show p - d - 1 = r by omega]
                    exact n1
                  generalize (downV v p d q : Int) = x1 at k1 hw
                  generalize (downV v p d r : Int) = x2 at k2 hw cU
                  clear hdd hf hqq hlt hr hq
                  go_wp2_with fail
                  go_region
                  generalize (((wr.setCell ⟨g, q, none⟩ (.int .i64 x2)).setCell ⟨g, r, none⟩ (.int .i64 x1)).drew) = wz at hw ⊢
                  clear k1 k2 f1 f2 cU
                  go_wp2_with fail
                  go_roundg (gk - 1)
                  case measure => have h1 := hDA.out; have h2 := hqA.out; have h3 := hkqA.out; omega
                  case rel =>
                    have h1 := hDA.out
                    have h2 := hqA.out
                    have h3 := hkqA.out
                    have h4 := hfA.out
                    have h5 := hrA.out
                    refine ⟨d + 1, by omega, ?_, ?_, hw⟩
                    · rw [show p - (d + 1) = r by omega]
                    · rw [show C + (d + 1) = f + 1 by omega]
                      go_num
                · have hlt2 : ¬ (k : Int) < (q : Int) := by omega
                  have hkqA : Aside (¬ k < q) := hlt
                  clear hdd hf hqq hlt
                  go_wp2_with fail
                  go_roundg gj
                  case measure => have h1 := hgjA.out; omega
                  case rel =>
                    have h1 := hgjA.out
                    have h2 := hK.out
                    have h3 := hkqA.out
                    have h4 := hDA.out
                    have h5 := hqA.out
                    have h6 := hfA.out
                    have h7 := pA.out
                    have h8 : d = p - k := by omega
                    refine ⟨k + 1, by omega, by go_num, ?_, ?_⟩
                    · rw [hC1.out, ← h6, h8]
                    · rw [hV1.out, ← h8]; exact hq
            · have e1 : ¬ ((v a : Nat) : Int) = Z k := pA.out.2.2.2 a (by omega) hka
              have eb : (((v a : Nat) : Int) == Z k) = false := by rw [beq_eq_false_iff_ne]; exact e1
              have apA : Aside (¬ a = p) := e
              generalize Z k = y at k1 k2 e1 eb
              generalize (v a : Int) = x at k1 e1 eb
              clear e ha hka hap hq
              go_wp2_with fail
              go_region
              clear k1 k2
              generalize wr.drew = wd at nwA ⊢
              go_wp2_with fail
              go_roundg (gk - 1)
              case measure => have h1 := hA.out; have := pA.out.1; omega
              case rel =>
                have h1 := hA.out
                have h2 := apA.out
                exact ⟨a + 1, by have := pA.out.1; omega, by omega, by omega, by go_num, nwA⟩
        · obtain rfl : k = 8 := by omega
          have BA : Aside (Below w.heap.size w wr) := hq.out.2
          clear hq hk hK
          go_wp2_with fail
          go_ret
          exact ⟨rfl, BA.out⟩
end Go.Proofs.YteickckgljlacaaGreat.Sw
