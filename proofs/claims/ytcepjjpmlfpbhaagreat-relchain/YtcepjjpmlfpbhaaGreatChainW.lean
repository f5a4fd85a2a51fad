/-
  RelChain, walked.
-/
import Derived.Test.YtcepjjpmlfpbhaaGreatRlV
namespace Go.Proofs.YtcepjjpmlfpbhaaGreat
open Go Go.RowKit
open Rf (tab word IsTab halfN nextF prevF)

/-- A chain of unlike states, and which are in it. -/
structure Chn (c : Nat → Nat) (m : Nat) (sn : Nat → Bool) : Prop where
  pos : 0 < m
  first : c 0 = 0
  lt : ∀ i, i < m → c i < 16
  inj : ∀ i j, i < m → j < m → c i = c j → i = j
  seen : ∀ t, t < 16 → (sn t = true ↔ ∃ i, i < m ∧ c i = t)
theorem Chn.start : Chn (fun _ => 0) 1 (fun t => decide (t = 0)) where
  pos := by omega
  first := rfl
  lt := fun _ _ => by show 0 < 16; omega
  inj := fun i j hi hj _ => by omega
  seen := fun t _ => by
    rw [decide_eq_true_iff]
    exact ⟨fun h => ⟨0, by omega, h.symm⟩, fun ⟨_, _, h⟩ => h.symm⟩
theorem Chn.more {c : Nat → Nat} {m : Nat} {sn : Nat → Bool} (h : Chn c m sn) {t : Nat} (ht : t < 16) (no : sn t = false) : Chn (fun i => if i = m then t else c i) (m + 1) (fun k => if k = t then true else sn k) where
  pos := by omega
  first := by
    have := h.pos
    show (if 0 = m then t else c 0) = 0
    rw [if_neg (by omega)]
    exact h.first
  lt := fun i hi => by
    show (if i = m then t else c i) < 16
    split
    · exact ht
    · exact h.lt i (by omega)
  inj := fun i j hi hj e => by
    have fresh : ∀ i, i < m → c i ≠ t := fun i hi e => by
      rw [(h.seen t ht).2 ⟨i, hi, e⟩] at no
      cases no
    have e : (if i = m then t else c i) = (if j = m then t else c j) := e
    by_cases ci : i = m
    · by_cases cj : j = m
      · omega
      · rw [if_pos ci, if_neg cj] at e
        exact absurd e.symm (fresh j (by omega))
    · by_cases cj : j = m
      · rw [if_neg ci, if_pos cj] at e
        exact absurd e (fresh i (by omega))
      · rw [if_neg ci, if_neg cj] at e
        exact h.inj i j (by omega) (by omega) e
  seen := fun k hk => by
    show (if k = t then true else sn k) = true ↔ ∃ i, i < m + 1 ∧ (if i = m then t else c i) = k
    by_cases e : k = t
    · rw [if_pos e]
      exact ⟨fun _ => ⟨m, by omega, by rw [if_pos rfl, e]⟩, fun _ => rfl⟩
    · rw [if_neg e, h.seen k hk]
      constructor
      · rintro ⟨i, hi, q⟩
        exact ⟨i, by omega, by rw [if_neg (by omega)]; exact q⟩
      · rintro ⟨i, hi, q⟩
        by_cases ci : i = m
        · rw [if_pos ci] at q
          exact absurd q.symm e
        · rw [if_neg ci] at q
          exact ⟨i, by omega, q⟩
theorem seen_new (w : World) : (w.alloc (.cells #[.bool true, .bool false, .bool false, .bool false, .bool false, .bool false, .bool false, .bool false, .bool false, .bool false, .bool false, .bool false, .bool false, .bool false, .bool false, .bool false] 28)).rowIs w.heap.size 28 16 (fun i => .bool (decide (i = 0))) :=
  World.rowIs_alloc w _ _ _ fun i hi => by
    have : i = 0 ∨ i = 1 ∨ i = 2 ∨ i = 3 ∨ i = 4 ∨ i = 5 ∨ i = 6 ∨ i = 7 ∨ i = 8 ∨ i = 9 ∨ i = 10 ∨ i = 11 ∨ i = 12 ∨ i = 13 ∨ i = 14 ∨ i = 15 := by simp at hi; omega
    rcases this with rfl | rfl | rfl | rfl | rfl | rfl | rfl | rfl | rfl | rfl | rfl | rfl | rfl | rfl | rfl | rfl <;> rfl
/-- A store beside a chain and which states are in it. -/
structure ChI (W w : World) (S sg g cap m : Nat) (c : Nat → Nat) (sn : Nat → Bool) : Prop where
  st : Sx W w S 8 16000 [(0, c0), (1, c1)] 0
  own : OwnR 5 w W.heap.size (some ⟨g, 0, none⟩) m cap (fun i => .int .u8 (c i : Int))
  row : w.rowIs sg 28 16 (fun i => .bool (sn i))
  far : W.heap.size ≤ sg
theorem ChI.put {W w : World} {S sg g cap m : Nat} {c : Nat → Nat} {sn : Nat → Bool} (h : ChI W w S sg g cap m c sn) (t : Nat) : ChI W (w.setCell ⟨sg, t, none⟩ (.bool true)) S sg g cap m c (fun k => if k = t then true else sn k) := by
  obtain ⟨cs, hcs, _⟩ := id h.row
  refine ⟨h.st.set hcs (by decide) h.far t _, h.own.kept fun b hb => Below.heap_setCell _ _ _ _ fun e => h.own.apart hcs (by decide) (show At _ sg from (show b = sg from e) ▸ hb), (h.row.set t (.bool true)).congr fun i _ => ?_, h.far⟩
  by_cases e : i = t
  · rw [if_pos e]; simp [e]
  · rw [if_neg e]; simp [e]
theorem ChI.new {W w : World} {S sg g cap m : Nat} {c : Nat → Nat} {sn : Nat → Bool} (h : ChI W w S sg g cap m c sn) (o : Obj) : ChI W (w.alloc o) S sg g cap m c sn :=
  ⟨h.st.below (nb w o), h.own.new o, h.row.of_block ((nb w o).block _ h.row.lt), h.far⟩
theorem ChI.add {W w w' : World} {S sg g cap m t g2 cap2 : Nat} {c : Nat → Nat} {sn : Nat → Bool} (h : ChI W w S sg g cap m c sn) (o : OwnR 5 w' W.heap.size (some ⟨g2, 0, none⟩) (m + 1) cap2 (fun i => if i = m then .int .u8 (t : Int) else .int .u8 (c i : Int))) (went : Went (At (some ⟨g, 0, none⟩)) w w') : ChI W w' S sg g2 cap2 (m + 1) (fun i => if i = m then t else c i) sn := by
  obtain ⟨x', b'⟩ := went_sx h.st (Nat.le_refl _) h.st.base.size h.own (by decide) went
  obtain ⟨cs, hcs, _⟩ := id h.row
  refine ⟨x', o.congr fun i _ => ?_, h.row.of_block (went.block _ h.row.lt fun q => h.own.apart hcs (by decide) q), h.far⟩
  by_cases e : i = m
  · rw [if_pos e, if_pos e]
  · rw [if_neg e, if_neg e]
theorem kint {k i : Nat} (h : k = i - 1) (l : 1 ≤ i) : (i : Int) - 1 = (k : Int) := by omega
theorem kwrap {k : Nat} (h : k ≤ 16) : IntKind.i64.wrap (k : Int) = (k : Int) := by rw [IntKind.wrap_i64]; omega
theorem once_x {W w : World} {S n r b : Nat} {l : Kl} (h : Sx W w S n r l b) : Calls Tryz.prog 13 #[.pointer (some ⟨S, 0, none⟩)] w fun e w' => e = .returned (.bool true) ∧ Below w.heap.size w w' := by
  obtain ⟨F, M, s, _⟩ := h
  exact once_any s
set_option maxRecDepth 100000 in
set_option maxHeartbeats 4000000 in
theorem chain_walk (ad : Option Addr) (n cap : Nat) (V : Nat → Nat) (W : World) (hV : BtAt W ad n V) (hb : ∀ i, i < n → V i < 256) :
    Calls Tryz.prog 3 #[.slice ad n cap] W fun e w' => e = .returned (.bool true) ∧ Below W.heap.size W w' := by
  have Kk := rknown_any W
  by_cases n16 : n ≤ 16
  · have hVA : Aside (BtAt W ad n V) := hV
    have hbA : Aside (∀ i, i < n → V i < 256) := hb
    have nA : Aside (n ≤ 16) := n16
    have ni : ¬ (16 : Int) < (n : Int) := by omega
    have KN : Aside (∀ u, Below W.heap.size W u → Calls Tryz.prog 7 #[.int .i64 8, .int .i64 16000] u _) := fun u hu => new_x W u 8 16000 (by omega) (by omega) (by omega) (by omega) hu
    clear hV hb n16
    go_enter Tryz.func3, Tryz.ntmps3
    go_upto_region 8 with (first
      | (go_at_call 6; refine Kk.mono ?_; clear Kk; rintro e w1 ⟨rfl, b1⟩; have K1 := KN.out w1 b1)
      | (go_at_call 7; refine K1.mono ?_; clear K1; rintro e w2 ⟨S, rfl, f2, x2, b2⟩))
    have x2A : Aside (Sx W w2 S 8 16000 [(0, c0), (1, c1)] 0) := x2
    clear KN b1 f2 x2 b2
    go_upto_region 11 with fail
    have hz : (w2.alloc (.cells #[.bool true, .bool false, .bool false, .bool false, .bool false, .bool false, .bool false, .bool false, .bool false, .bool false, .bool false, .bool false, .bool false, .bool false, .bool false, .bool false] 28)).heap.size = w2.heap.size + 1 := by simp
    have o4 : OwnR 5 ((w2.alloc (.cells #[.bool true, .bool false, .bool false, .bool false, .bool false, .bool false, .bool false, .bool false, .bool false, .bool false, .bool false, .bool false, .bool false, .bool false, .bool false, .bool false] 28)).alloc (.cells #[.int .u8 0] 5)) W.heap.size (some ⟨w2.heap.size + 1, 0, none⟩) 1 1 (fun i => .int .u8 (((fun _ => 0) i : Nat) : Int)) := by
      have := OwnR.one 5 (w2.alloc (.cells #[.bool true, .bool false, .bool false, .bool false, .bool false, .bool false, .bool false, .bool false, .bool false, .bool false, .bool false, .bool false, .bool false, .bool false, .bool false, .bool false] 28)) W.heap.size (by rw [hz]; have := x2A.out.base.size; omega) (.int .u8 0)
      rwa [hz] at this
    have I0 : Aside (ChI W ((w2.alloc (.cells #[.bool true, .bool false, .bool false, .bool false, .bool false, .bool false, .bool false, .bool false, .bool false, .bool false, .bool false, .bool false, .bool false, .bool false, .bool false, .bool false] 28)).alloc (.cells #[.int .u8 0] 5)) S w2.heap.size (w2.heap.size + 1) 1 1 (fun _ => 0) (fun t => decide (t = 0))) := ⟨(x2A.out.below (nb _ _)).below (nb _ _), o4, (seen_new w2).of_block ((nb _ _).block _ (seen_new w2).lt), x2A.out.base.size⟩
    have C0 : Aside (Chn (fun _ => 0) 1 (fun t => decide (t = 0))) := Chn.start
    clear hz o4 x2A
    generalize (w2.alloc (.cells #[.bool true, .bool false, .bool false, .bool false, .bool false, .bool false, .bool false, .bool false, .bool false, .bool false, .bool false, .bool false, .bool false, .bool false, .bool false, .bool false] 28)).alloc (.cells #[.int .u8 0] 5) = w4 at I0 ⊢
    generalize w2.heap.size + 1 = g0 at I0 ⊢
    generalize w2.heap.size = sg at I0 ⊢
    go_upto_region 12 with fail
    go_loopg [6, 7] n (fun gg s6 s7 wr => ∃ (j m g cp : Nat) (c : Nat → Nat) (sn : Nat → Bool), j + gg = n ∧ s7 = .int .i64 (j : Int) ∧ s6 = .slice (some ⟨g, 0, none⟩) m cp ∧ Aside (m ≤ j + 1) ∧ Aside (Chn c m sn) ∧ Aside (ChI W wr S sg g cp m c sn))
    case atStart => exact ⟨0, 1, g0, 1, fun _ => 0, fun t => decide (t = 0), by omega, rfl, rfl, (by show (1 : Nat) ≤ 0 + 1; omega), C0, I0⟩
    case round =>
      clear I0 C0
      obtain ⟨j, m, g, cp, c, sn, hj, rfl, rfl, hm, hC, hI⟩ := hrel
      have hJ : Aside (j + gk = n) := hj
      by_cases hlt : j < n
      · have hlt' : (j : Int) < (n : Int) := by omega
        have hltA : Aside (j < n) := hlt
        obtain ⟨lb, lo, rfl, hc⟩ := hVA.out.some (by omega)
        have c1 := hc j hlt
        have lbW : lb < W.heap.size := by
          rcases hVA.out with q | ⟨b', o', e', lt', _⟩
          · omega
          · cases e'; exact lt'
        have lbA : Aside (lb < W.heap.size) := lbW
        have c2 : wr.cell? ⟨lb, lo + j, none⟩ = some (.int .u8 (V j : Int)) := by rw [hI.out.st.base.cell lbW]; exact c1
        have v256 := hbA.out j hlt
        obtain ⟨t, ht⟩ : ∃ t, V j % 16 = t := ⟨_, rfl⟩
        have t16 : t < 16 := by omega
        have tA : Aside (t < 16) := t16
        have tm : Int.tmod (V j : Int) 16 = (t : Int) := by rw [Int.tmod_eq_emod_of_nonneg (by omega)]; omega
        have tm2 : (V j : Int) % 16 = (t : Int) := by omega
        have ti : (t : Int) < 16 := by omega
        have r1 := hI.out.row.cell t16
        have f1 := hI.out.row.frozen t
        clear hc hj hlt ht v256 c1 lbW t16
        generalize V j = vj at c2 tm tm2
        cases hs : sn t with
        | true =>
          rw [hs] at r1
          clear hs f1
          go_wp2_with fail
          go_roundg (gk - 1)
          case measure => have := hJ.out; have := hltA.out; omega
          case rel =>
            have h1 := hJ.out
            have h2 := hltA.out
            have h3 := hm.out
            exact ⟨j + 1, m, g, cp, c, sn, by omega, by go_num, rfl, (by show m ≤ j + 1 + 1; omega), hC, hI⟩
        | false =>
          rw [hs] at r1
          have C2 : Aside (Chn (fun i => if i = m then t else c i) (m + 1) (fun k => if k = t then true else sn k)) := hC.out.more tA.out hs
          have I2 : Aside (ChI W (wr.setCell ⟨sg, t, none⟩ (.bool true)) S sg g cp m c (fun k => if k = t then true else sn k)) := hI.out.put t
          have c3 : (wr.setCell ⟨sg, t, none⟩ (.bool true)).cell? ⟨lb, lo + j, none⟩ = some (.int .u8 (vj : Int)) := by
            rw [← c2]
            exact World.cell?_setCell_far _ _ _ _ (by have h1 := lbA.out; have h2 := hI.out.far; show sg ≠ lb; omega)
          clear hs hC hI
          go_upto_region 16 with fail
          generalize wr.setCell ⟨sg, t, none⟩ (.bool true) = w5 at I2 c3 ⊢
          have own5 := (I2.out.new (.cells #[.int .u8 (t : Int)] 5)).own
          have hBs : Aside (W.heap.size ≤ (w5.alloc (.cells #[.int .u8 (t : Int)] 5)).heap.size) := (I2.out.new (.cells #[.int .u8 (t : Int)] 5)).st.base.size
          have m17 : Aside (m ≤ 1000000) := by have := hm.out; have := hltA.out; have := nA.out; show m ≤ 1000000; omega
          have ownA : Aside (OwnR 5 (w5.alloc (.cells #[.int .u8 (t : Int)] 5)) W.heap.size (some ⟨g, 0, none⟩) m cp (fun i => .int .u8 (c i : Int))) := own5
          clear own5 r1 f1 c2
          go_wp2_with (first
            | (at_builtin; refine append_u8 ownA.out w5.heap.size (t : Int) (Go.Deep.blk_alloc_new _ _) m17.out hBs.out rfl (.tmp 47) (.tmp 53) rfl rfl rfl ?_; intro g2 cp2 w6 o6 went6 at6))
          have I6 : Aside (ChI W w6 S sg g2 cp2 (m + 1) (fun i => if i = m then t else c i) (fun k => if k = t then true else sn k)) := (I2.out.new _).add o6 went6
          go_roundg (gk - 1)
          case measure => have := hJ.out; have := hltA.out; omega
          case rel =>
            have h1 := hJ.out
            have h2 := hltA.out
            have h3 := hm.out
            exact ⟨j + 1, m + 1, g2, cp2, _, _, by omega, by go_num, by go_num, (by show m + 1 ≤ j + 1 + 1; omega), C2, I6⟩
      · obtain rfl : j = n := by have := hJ.out; omega
        have c16A : Aside (∀ i, i < m → c i < 16) := hC.out.lt
        have rA : Aside (Rnd (stF 0) (relC c m) (m - 1)) := by
          have := chain_rnd hC.out.pos hC.out.lt hC.out.inj
          rwa [hC.out.first] at this
        have lA : Aside (Eqt (rchF (stF 0) (relC c m) (m - 1)) (allC c m)) := by
          have := chain_all hC.out.pos hC.out.lt hC.out.inj
          rwa [hC.out.first] at this
        have mA : Aside (1 ≤ m ∧ m ≤ 17) := ⟨hC.out.pos, by have := hm.out; have := nA.out; omega⟩
        have O0 : Aside (OwnR 5 wr W.heap.size (some ⟨g, 0, none⟩) m cp (fun i => .int .u8 (c i : Int))) := hI.out.own
        have X0 : Aside (Sx W wr S 8 16000 [(0, allC c 0), (0, relC c 0), (0, c0), (1, c1)] (317 * 0)) := hI.out.st.mono fun p hp => by
          simp at hp
          rcases hp with rfl | rfl | rfl | rfl
          · exact .head _
          · exact .head _
          · exact .head _
          · exact .tail _ (.head _)
        have KM := must_any
        clear hC hI hm hJ hj hlt hVA hbA nA
        go_upto_region 19 with fail
        go_loopg [10, 8, 9, 11] m (fun gg s10 s8 s9 _ wr => ∃ (i rr al : Nat), i + gg = m ∧ s10 = .int .i64 (i : Int) ∧ s8 = .int .u32 (rr : Int) ∧ s9 = .int .u32 (al : Int) ∧ Aside (OwnR 5 wr W.heap.size (some ⟨g, 0, none⟩) m cp (fun i => .int .u8 (c i : Int))) ∧ Aside (Sx W wr S 8 16000 [(al, allC c i), (rr, relC c i), (0, c0), (1, c1)] (317 * i)))
        case atStart => exact ⟨0, 0, 0, by omega, rfl, rfl, rfl, O0, X0⟩
        case round =>
          clear O0 X0
          obtain ⟨i, rr, al, hi, rfl, rfl, rfl, hO, hX⟩ := hrel
          have hI : Aside (i + gk = m) := hi
          by_cases hlt : i < m
          · have hlt' : (i : Int) < (m : Int) := by omega
            have hltA : Aside (i < m) := hlt
            have m17 := mA.out.2
            have ciA : Aside (c i < 16) := c16A.out i hlt
            by_cases hi0 : i = 0
            · subst hi0
              have c1 := hO.out.cell (i := 0) hlt
              have K1 := state_any hX.out (by omega) (c 0) ciA.out
              have hOA : Aside (OwnR 5 wr W.heap.size (some ⟨g, 0, none⟩) m cp (fun i => .int .u8 (c i : Int))) := hO
              obtain ⟨cv, hcv⟩ : ∃ v, c 0 = v := ⟨_, rfl⟩
              have cvA : Aside (c 0 = cv) := hcv
              rw [hcv] at c1 K1
              clear hi hlt hX hO hcv
              go_wp2_with (first
                | (go_at_call 11; refine K1.mono ?_; clear K1; rintro e v1 ⟨st, rfl, x1, u1⟩; have o1 := u1.own hOA.out (by decide); have K2 := or_x x1 (x := al) (X := allC c 0) (y := st) (Y := stF cv) (.tail _ (.head _)) (.head _) 63 (by decide) (by decide); clear u1)
                | (go_at_call 10; refine K2.mono ?_; clear K2; rintro e v2 ⟨al2, rfl, x2, u2⟩; have o2 := u2.own o1 (by decide); clear u2 x1)
                | (go_at_call 8; refine (KM _ _).mono ?_; rintro e wm ⟨rfl, em⟩; subst wm))
              go_roundg (gk - 1)
              case measure => have := hI.out; have := hltA.out; omega
              case rel =>
                have h1 := hI.out
                have h2 := hltA.out
                have h3 := cvA.out
                subst h3
                exact ⟨1, rr, al2, by omega, by go_num, rfl, rfl, o2, (x2.more (by decide)).mono fun p hp => by
                  simp at hp
                  rcases hp with rfl | rfl | rfl | rfl
                  · exact .head _
                  · exact .tail _ (.tail _ (.tail _ (.head _)))
                  · exact .tail _ (.tail _ (.tail _ (.tail _ (.head _))))
                  · exact .tail _ (.tail _ (.tail _ (.tail _ (.tail _ (.head _)))))⟩
            · obtain ⟨k, hk⟩ : ∃ k, i = k + 1 := ⟨i - 1, by omega⟩
              have hkA : Aside (i = k + 1) := hk
              have ki : (i : Int) - 1 = (k : Int) := by omega
              have kw : IntKind.i64.wrap (k : Int) = (k : Int) := by rw [IntKind.wrap_i64]; omega
              have k0 : (0 : Int) < (i : Int) := by omega
              have km : (k : Int) < (m : Int) := by omega
              have kmA : Aside (k < m) := by show k < m; omega
              have hOd : OwnR 5 wr.drew W.heap.size (some ⟨g, 0, none⟩) m cp (fun i => .int .u8 (c i : Int)) := hO.out
              have cc := And.intro (hOd.cell (i := k) kmA.out) (hOd.cell (i := i) hlt)
              have Xd := hX.out.below ((Below.refl _ wr).drew)
              have K1 := pair8 Xd (c16A.out k kmA.out) ciA.out (by omega)
              obtain ⟨cv, hcv⟩ : ∃ v, c i = v := ⟨_, rfl⟩
              have cvA : Aside (c i = cv) := hcv
              obtain ⟨cu, hcu⟩ : ∃ v, c k = v := ⟨_, rfl⟩
              have cuA : Aside (c k = cu) := hcu
              rw [hcv, hcu] at cc
              rw [hcv, hcu] at K1
              have own2 : Aside (∀ u, OwnR 5 u W.heap.size (some ⟨g, 0, none⟩) m cp (fun i => .int .u8 (c i : Int)) → u.cell? ⟨g, k, none⟩ = some (.int .u8 (cu : Int)) ∧ u.cell? ⟨g, i, none⟩ = some (.int .u8 (cv : Int))) := fun u ou => by
                rw [← hcv, ← hcu]
                exact ⟨ou.cell (i := k) kmA.out, ou.cell (i := i) hlt⟩
              clear hi hlt hX hO hk hcv hcu hi0
              go_upto_region 22 with fail
              go_region_held3 (fun u => u.cell? ⟨g, k, none⟩ = some (.int .u8 (cu : Int)) ∧ u.cell? ⟨g, i, none⟩ = some (.int .u8 (cv : Int))) (first | assumption) (first
                | (go_at_call 9; refine K1.mono ?_; clear K1; rintro e v1 ⟨pp, rfl, x1, u1⟩; have o1 := u1.own hOd (by decide); have cc1 := own2.out v1 o1; clear u1 cc)
                | (go_at_call 8; refine (KM _ _).mono ?_; rintro e wm ⟨rfl, em⟩; subst wm))
              have K2 := or_x x1 (x := rr) (X := relC c i) (y := pp) (Y := prF cu cv) (.tail _ (.tail _ (.head _))) (.head _) 63 (by decide) (by omega)
              have ci16 : Aside (cv < 16) := by rw [← cvA.out]; exact ciA.out
              clear Xd cc1 hOd
              go_wp2_with (first
                | (go_at_call 10; refine K2.mono ?_; clear K2; rintro e v2 ⟨r2, rfl, x2, u2⟩; have o2 := u2.own o1 (by decide); obtain ⟨_, ci2⟩ := own2.out v2 o2; have K3 := state_any x2 (by omega) cv ci16.out; clear u2 x1 o1)
                | (go_at_call 11; refine K3.mono ?_; clear K3; rintro e v3 ⟨st, rfl, x3, u3⟩; have o3 := u3.own o2 (by decide); have K4 := or_x x3 (x := al) (X := allC c i) (y := st) (Y := stF cv) (.tail _ (.tail _ (.tail _ (.head _)))) (.head _) 63 (by decide) (by omega); clear u3 x2 o2 ci2)
                | (go_at_call 10; refine K4.mono ?_; clear K4; rintro e v4 ⟨al2, rfl, x4, u4⟩; have o4 := u4.own o3 (by decide); clear u4 x3 o3)
                | (go_at_call 8; refine (KM _ _).mono ?_; rintro e wm ⟨rfl, em⟩; subst wm))
              go_roundg (gk - 1)
              case measure => have := hI.out; have := hltA.out; omega
              case rel =>
                have h1 := hI.out
                have h2 := hltA.out
                have h3 := cvA.out
                have h4 := cuA.out
                have h5 := hkA.out
                subst h3
                subst h4
                subst h5
                exact ⟨k + 1 + 1, r2, al2, by omega, by go_num, rfl, rfl, o4, (x4.more (by omega)).mono fun p hp => by
                  simp at hp
                  rcases hp with rfl | rfl | rfl | rfl
                  · exact .head _
                  · exact .tail _ (.tail _ (.head _))
                  · exact .tail _ (.tail _ (.tail _ (.tail _ (.tail _ (.tail _ (.head _))))))
                  · exact .tail _ (.tail _ (.tail _ (.tail _ (.tail _ (.tail _ (.tail _ (.head _)))))))⟩
          · obtain rfl : i = m := by have := hI.out; omega
            have m17 := mA.out.2
            have K1 := state_any hX.out (by omega) 0 (by omega)
            have l1 : Aside (1 ≤ i ∧ i ≤ 17) := mA
            clear hi hlt hX hO c16A
            go_wp2_with (first
              | (go_at_call 11; refine K1.mono ?_; clear K1; rintro e v1 ⟨st, rfl, x1, u1⟩; have K2 := reach_x x1 (by decide) (st_cur 0) (x := st) (y := rr) (X := stF 0) (Y := relC c i) (.head _) (.tail _ (.tail _ (.head _))) bud8 573 (by decide) (by omega); clear u1)
              | (go_at_call 12; refine K2.mono ?_; clear K2; rintro e v2 ⟨z, k, rfl, rn, kl, x2, u2⟩; have hk : k = i - 1 := rn.one rA.out; have hz : z = al := x2.same (X := rchF (stF 0) (relC c i) k) (Y := allC c i) (.head _) (.tail _ (.tail _ (.head _))) (hk ▸ lA.out); subst z; have ki : (i : Int) - 1 = (k : Int) := kint hk l1.out.1; have kw : IntKind.i64.wrap (k : Int) = (k : Int) := kwrap kl; have K3 := once_x x2; clear u2 rn kl hk x1)
              | (go_at_call 13; refine K3.mono ?_; clear K3; rintro e v3 ⟨rfl, b3⟩))
            go_ret
            exact ⟨by simp, (x2.below b3).base⟩
  · have ni : (16 : Int) < (n : Int) := by omega
    clear hV hb n16
    go_enter Tryz.func3, Tryz.ntmps3
    go_wp2_with (first
      | (go_at_call 6; refine Kk.mono ?_; clear Kk; rintro e w1 ⟨rfl, b1⟩))
    go_ret
    exact ⟨rfl, b1⟩
end Go.Proofs.YtcepjjpmlfpbhaaGreat
