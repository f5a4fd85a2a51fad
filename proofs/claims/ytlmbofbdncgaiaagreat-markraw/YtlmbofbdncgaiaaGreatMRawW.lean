/-
  MarkRaw, walked.
-/
import Derived.Test.YtlmbofbdncgaiaaGreatMkN
namespace Go.Proofs.YtlmbofbdncgaiaaGreat.Mk
open Go Go.RowKit
open Rf (tab word IsTab)

/-- The roots: the function's, then whatever was told. -/
def rt (a : Nat) (V : Nat → Nat) (i : Nat) : Nat := if i = 0 then a else V (i - 1)
/-- One of the first j isn't a node. -/
def badN (M : Mdl) (V : Nat → Nat) (j : Nat) : Bool := (List.range j).any fun i => !M.nodeB (V i)
theorem badN_succ (M : Mdl) (V : Nat → Nat) (j : Nat) : badN M V (j + 1) = (badN M V j || !M.nodeB (V j)) := by
  unfold badN
  rw [List.range_succ, List.any_append]
  simp
theorem badN_true {M : Mdl} {V : Nat → Nat} {j : Nat} (h : badN M V j = true) : ∃ i, i < j ∧ ¬ M.isNode (V i) := by
  unfold badN at h
  obtain ⟨i, hi, e⟩ := List.any_eq_true.1 h
  refine ⟨i, List.mem_range.1 hi, fun q => ?_⟩
  rw [Mdl.nodeB_true q] at e
  cases e
theorem badN_false {M : Mdl} {V : Nat → Nat} {j : Nat} (h : badN M V j = false) : ∀ i, i < j → M.isNode (V i) := fun i hi => Classical.byContradiction fun q => by
  unfold badN at h
  have := List.any_eq_false.1 h i (List.mem_range.2 hi)
  rw [Mdl.nodeB_false q] at this
  exact this rfl
theorem words_of {W : World} {ad : Option Addr} {len : Nat} (h : len = 0 ∨ ∃ (b off : Nat) (Z : Nat → Int), ad = some ⟨b, off, none⟩ ∧ b < W.heap.size ∧ ∀ i, i < len → W.cell? ⟨b, off + i, none⟩ = some (.int .u32 (Z i)) ∧ (Lit.int .u32 (Z i)).wf = true) : ∃ V : Nat → Nat, HsAt W ad len V ∧ ∀ i, i < len → V i < 4294967296 := by
  rcases h with h | ⟨b, off, Z, e, hb, hc⟩
  · exact ⟨fun _ => 0, .inl h, fun i _ => by show 0 < 4294967296; omega⟩
  · refine ⟨fun i => (Z i).toNat, .inr ⟨b, off, e, hb, fun i hi => ?_⟩, fun i hi => ?_⟩
    · have w := wf_u32 (hc i hi).2
      rw [(hc i hi).1]
      congr 2
      show Z i = (((Z i).toNat : Nat) : Int)
      omega
    · have w := wf_u32 (hc i hi).2
      show (Z i).toNat < 4294967296
      omega
theorem own_lit (e : TypeId) (w : World) (v : Value) (V : Nat → Value) (h : V 0 = v) : OwnR e (w.alloc (.cells #[v] e)) w.heap.size (some ⟨w.heap.size, 0, none⟩) 1 1 V := by
  have := World.ownsRow_lit (base := w.heap.size) (e := e) (size := 1) w #[v] 1 (Nat.le_refl _) (by decide) rfl
  unfold OwnR
  rw [show rowL 1 V = (#[v] : Array Value).toList by simp [rowL, h]]
  exact this
theorem below_went {w u u' : World} {ad : Option Addr} (k : Below w.heap.size w u) (g : Went (At ad) u u') (h : ∀ b, At ad b → w.heap.size ≤ b) : Below w.heap.size w u' :=
  ⟨g.os.trans k.os, g.tape.trans k.tape, g.output.trans k.output, Nat.le_trans k.size g.size, fun i hi => (g.block i (Nat.lt_of_lt_of_le hi k.size) fun e => by have := h i e; omega).trans (k.block i hi)⟩
set_option maxRecDepth 100000 in
set_option maxHeartbeats 4000000 in
theorem raw_walk (F : Nat → Bool) (ad : Option Addr) (k cap : Nat) (V : Nat → Nat) (W : World) (hV : HsAt W ad k V) (hb : ∀ i, i < k → V i < 4294967296) :
    Calls Tryz.prog 4 #[tab F, .slice ad k cap] W fun e w' => e = .returned (.bool true) ∧ Below W.heap.size W w' := by
  conv in #[tab F, Value.slice ad k cap] => unfold tab
  have hVA : Aside (HsAt W ad k V) := hV
  have hbA : Aside (∀ i, i < k → V i < 4294967296) := hb
  clear hV hb
  go_enter Tryz.func4, Tryz.ntmps4
  go_upto_region 1 with fail
  have TF := IsTab.new W F
  have B1 := (Below.refl _ W).alloc (Nat.le_refl _) (.cells #[.int .u64 (word F 0 : Int), .int .u64 (word F 1 : Int), .int .u64 (word F 2 : Int), .int .u64 (word F 3 : Int)] 24)
  generalize W.alloc (.cells #[.int .u64 (word F 0 : Int), .int .u64 (word F 1 : Int), .int .u64 (word F 2 : Int), .int .u64 (word F 3 : Int)] 24) = w1 at TF B1 ⊢
  have B1A : Aside (Below W.heap.size W w1) := B1
  clear B1
  generalize hbf : W.heap.size = bf at TF ⊢
  clear hbf
  have tF : Aside (∀ u, Below w1.heap.size w1 u → IsTab u bf F) := fun u k => kept TF k
  clear TF
  have Kk := known_any w1
  by_cases hk : (12 : Int) < (k : Int)
  · go_wp2_with (first
      | (go_at_call 8; refine Kk.mono ?_; clear Kk; rintro e w2 ⟨rfl, b2⟩))
    go_ret
    exact ⟨rfl, Rf.below_far B1A.out b2⟩
  · have hk12 : k ≤ 12 := by omega
    go_upto_region 5 with (first
      | (go_at_call 8; refine Kk.mono ?_; clear Kk; rintro e w2 ⟨rfl, b2⟩))
    have Kn : Calls Tryz.prog 9 #[.int .i64 8, .int .i64 100] w2 _ := s_new 8 100 w2 (by omega) (by omega) (by omega) (by omega)
    go_upto_region 8 with (first
      | (go_at_call 9; refine Kn.mono ?_; clear Kn; rintro e w3 ⟨S, F0, rfl, s3, b3, f3⟩))
    have B3 : Below w1.heap.size w1 w3 := Rf.below_far b2 b3
    have f3' : ∀ k, F0 k → w1.heap.size ≤ k := fun k hk => Nat.le_trans b2.size (f3 k hk)
    have K1 := make_any (F := F) s3 (Dep.all s3.ok rfl F) (by decide)
    obtain ⟨y0, y1, y2, y3⟩ := (tF.out w3 B3).copy
    have o3A : Aside ((Mdl.empty 8 100).Ok) := s3.ok
    have B3A : Aside (Below w1.heap.size w1 w3 ∧ ∀ k, F0 k → w1.heap.size ≤ k) := ⟨B3, f3'⟩
    clear b2 b3 f3 f3' s3 B3
    unfold tab at K1
    go_upto_region 9 with (first
      | (go_at_call 11; refine K1.mono ?_; clear K1; rintro e w4 ⟨a, M, rfl, ⟨F4, s4, g4⟩, m4⟩))
    clear y0 y1 y2 y3
    have B4 : Below w1.heap.size w1 w4 := Wf.far B3A.out.1 g4 B3A.out.1.size B3A.out.2
    have f4A : Aside (∀ k, F4 k → w1.heap.size ≤ k) := g4.after B3A.out.1.size B3A.out.2
    have mA : Aside (M.isNode a ∧ Eqt (M.tbl a) F ∧ ∀ G, Has M G → Prt M F G) := ⟨m4.node, m4.tbl, fun G h => (Prt.grew_iff m4.grew).2 (((m4.subs G).1 h).resolve_left (by rintro ⟨x, hx, _⟩; cases hx))⟩
    have dA : Aside (Dep M 0 F) := Dep.all s4.ok m4.grew.n F
    have hl4 : M.hs.length ≤ 100 := by have := s4.ok.len; rw [m4.grew.room] at this; exact this
    have a32 : a < 4294967296 := lt32 s4.ok m4.node
    clear g4 m4 B3A o3A
    go_wp2_with fail
    have o5 : OwnR 32 (w4.alloc (.cells #[.int .u32 (a : Int)] 32)) w4.heap.size (some ⟨w4.heap.size, 0, none⟩) 1 1 (fun i => .int .u32 (rt a V i : Nat)) := own_lit 32 w4 (.int .u32 (a : Int)) _ rfl
    have b5 : Below w4.heap.size w4 (w4.alloc (.cells #[.int .u32 (a : Int)] 32)) := nb w4 _
    generalize w4.alloc (.cells #[.int .u32 (a : Int)] 32) = w5 at o5 b5 ⊢
    have sA : Aside (∀ u, Below w4.heap.size w4 u → St u S F4 M) := fun u k => s4.below k
    have BA : Aside (∀ u, Below w4.heap.size w4 u → Below w1.heap.size w1 u) := fun u k => Rf.below_far B4 k
    have hv : Aside (∀ u, Below w4.heap.size w4 u → HsAt u ad k V) := fun u h => hVA.out.kept (Rf.below_far B1A.out (BA.out u h))
    have o5A : Aside (OwnR 32 w5 w4.heap.size (some ⟨w4.heap.size, 0, none⟩) 1 1 (fun i => .int .u32 (rt a V i : Nat))) := o5
    have b5A : Aside (Below w4.heap.size w4 w5) := b5
    clear o5 b5 s4 B4 hVA hk
    go_loopg [9, 10, 11] k (fun g s9 s10 s11 wr => ∃ (j : Nat) (ad' : Option Addr) (c' : Nat), j + g = k ∧ s9 = .slice ad' (j + 1) c' ∧ s10 = .bool (badN M V j) ∧ s11 = .int .i64 (j : Int) ∧ Aside (OwnR 32 wr w4.heap.size ad' (j + 1) c' (fun i => .int .u32 (rt a V i : Nat))) ∧ Aside (Below w4.heap.size w4 wr))
    case atStart => exact ⟨0, _, _, by omega, rfl, rfl, rfl, o5A, b5A⟩
    case round =>
      obtain ⟨j, ad', c', hj, rfl, rfl, rfl, hO, hB⟩ := hrel
      have hJ : Aside (j + gk = k) := hj
      have hjn : j ≤ k := by omega
      clear hj
      by_cases hlt : j < k
      · have hlt' : (j : Int) < (k : Int) := by omega
        have hvr := hv.out wr hB.out
        obtain ⟨bl, off, rfl, hbl⟩ := hvr.some (by omega)
        have hc : wr.cell? ⟨bl, off + j, none⟩ = some (.int .u32 (V j : Int)) := hvr.get hlt
        have v32 := hbA.out j hlt
        have hbw : Aside (w4.heap.size ≤ wr.heap.size) := hB.out.size
        have hOA : Aside (∀ b, At ad' b → w4.heap.size ≤ b) := fun b hb => (hO.out.block b hb).1
        have hjw : IntKind.i64.wrap ((j : Int) + 1) = (j : Int) + 1 := by rw [IntKind.wrap_i64]; omega
        have hrt : Aside (rt a V (j + 1) = V j) := by show _ = _; unfold rt; rw [if_neg (by omega)]; rfl
        have hvn : Aside (∀ u, Below w4.heap.size w4 u → u.cell? ⟨bl, off + j, none⟩ = some (.int .u32 (V j : Int))) := fun u h => (hv.out u h).get hlt
        clear hvr hlt
        obtain ⟨bj, hbj⟩ : ∃ b, badN M V j = b := ⟨_, rfl⟩
        rw [hbj]
        have hbs := badN_succ M V j
        rw [hbj] at hbs
        have hbs : Aside (badN M V (j + 1) = (bj || !M.nodeB (V j))) := hbs
        have hltA : Aside (j < k) := by show _ < _; omega
        clear hbj
        cases bj with
        | true =>
          go_wp2_with (first
            | (at_builtin; refine append_h (hO.out.new _) wr.heap.size (V j : Int) (heap_alloc_new _ _) (by omega) (by have := hbw.out; simp; omega) rfl _ _ rfl rfl rfl ?_; intro g' cap' w6 o6 g6 p6; have b6 : Below w4.heap.size w4 w6 := below_went (Rf.below_far hB.out (nb wr _)) g6 hOA.out; have hc6 := hvn.out w6 b6; have KI : Aside (Calls Tryz.prog 24 #[.pointer (some ⟨S, 0, none⟩), .int .u32 (V j : Int)] w6 fun e w' => e = .returned (.bool (M.nodeB (V j))) ∧ w' = w6) := s_is (sA.out w6 b6) (V j) v32; have f6 : Aside (OwnR 32 w6 w4.heap.size (some ⟨g', 0, none⟩) (j + 1 + 1) cap' (fun i => .int .u32 (rt a V i : Nat)) ∧ Below w4.heap.size w4 w6) := ⟨o6.congr fun i hi => (by by_cases e : i = j + 1; (rw [if_pos e, e, hrt.out]); (rw [if_neg e])), b6⟩; clear o6 g6 p6 b6))
          go_roundg (gk - 1)
          case measure => have := hJ.out; have := hltA.out; omega
          case rel =>
            have := hJ.out
            have := hltA.out
            exact ⟨j + 1, _, _, by omega, rfl, by rw [hbs.out, Bool.true_or], by go_num, f6.out.1, f6.out.2⟩
        | false =>
          go_wp2_with (first
            | (at_builtin; refine append_h (hO.out.new _) wr.heap.size (V j : Int) (heap_alloc_new _ _) (by omega) (by have := hbw.out; simp; omega) rfl _ _ rfl rfl rfl ?_; intro g' cap' w6 o6 g6 p6; have b6 : Below w4.heap.size w4 w6 := below_went (Rf.below_far hB.out (nb wr _)) g6 hOA.out; have hc6 := hvn.out w6 b6; have KI : Aside (Calls Tryz.prog 24 #[.pointer (some ⟨S, 0, none⟩), .int .u32 (V j : Int)] w6 fun e w' => e = .returned (.bool (M.nodeB (V j))) ∧ w' = w6) := s_is (sA.out w6 b6) (V j) v32; have f6 : Aside (OwnR 32 w6 w4.heap.size (some ⟨g', 0, none⟩) (j + 1 + 1) cap' (fun i => .int .u32 (rt a V i : Nat)) ∧ Below w4.heap.size w4 w6) := ⟨o6.congr fun i hi => (by by_cases e : i = j + 1; (rw [if_pos e, e, hrt.out]); (rw [if_neg e])), b6⟩; clear o6 g6 p6 b6)
            | (go_at_call 24; refine KI.out.mono ?_; clear KI; rintro e w ⟨rfl, e⟩; subst w))
          go_roundg (gk - 1)
          case measure => have := hJ.out; have := hltA.out; omega
          case rel =>
            have := hJ.out
            have := hltA.out
            exact ⟨j + 1, _, _, by omega, rfl, by rw [hbs.out, Bool.false_or], by go_num, f6.out.1, f6.out.2⟩
      · obtain rfl : j = k := by omega
        have sr := sA.out wr hB.out
        have KL := s_len sr
        have hs := HsAt.own hO.out
        clear hlt hJ hjn hO b5A o5A sr
        obtain ⟨m, hm⟩ : ∃ m, M.hs.length = m := ⟨_, rfl⟩
        rw [hm] at KL
        have hmA : Aside (M.hs.length = m) := hm
        clear hm hl4
        have hrb : Aside (∀ i, i < j + 1 → rt a V i < 4294967296) := fun i hi => by
          unfold rt
          split
          · exact a32
          · exact hbA.out (i - 1) (by omega)
        clear a32 hbA hv
        obtain ⟨bj, hbj⟩ : ∃ b, badN M V j = b := ⟨_, rfl⟩
        rw [hbj]
        go_upto_region 17 with (first
          | (go_at_call 13; refine KL.mono ?_; clear KL; rintro e w ⟨rfl, q, rfl⟩))
        have hBq : Below w4.heap.size w4 (wr.drewN q) := ⟨hB.out.os, hB.out.tape, hB.out.output, hB.out.size, hB.out.block⟩
        have hs := hs.drewN q
        generalize wr.drewN q = w9 at hBq hs ⊢
        have s9 := sA.out w9 hBq
        have BB : Aside (Below w1.heap.size w1 w9) := BA.out w9 hBq
        clear hB hBq sA BA
        cases bj with
        | true =>
          have no : ∃ i, i < j + 1 ∧ ¬ M.isNode (rt a V i) := by
            obtain ⟨i, hi, e⟩ := badN_true hbj
            exact ⟨i + 1, by omega, e⟩
          have KR := reach_no (cap := c') s9 hs hrb.out no (by omega)
          have noA : Aside (∃ i, i < j + 1 ∧ ¬ M.isNode (rt a V i)) := no
          have hsA : Aside (∀ u, Below w9.heap.size w9 u → St u S F4 M ∧ HsAt u ad' (j + 1) (rt a V)) := fun u h => ⟨s9.below h, hs.kept h⟩
          clear no hbj s9 hs
          go_upto_region 18 with (first
            | (go_at_call 14; refine KR.mono ?_; clear KR; rintro e w10 ⟨rfl, b10⟩))
          have KC := collect_no (cap := c') (hsA.out w10 b10).1 (hsA.out w10 b10).2 hrb.out noA.out (by omega)
          have B10 : Aside (Below w1.heap.size w1 w10) := Rf.below_far BB.out b10
          clear hsA b10 BB
          go_upto_region 20 with (first
            | (go_at_call 19; refine KC.mono ?_; clear KC; rintro e w11 ⟨rfl, s11, b11⟩))
          have B11 : Aside (Below w1.heap.size w1 w11) := Rf.below_far B10.out b11
          clear b11 B10 noA hrb
          have KL2 := s_len s11
          rw [hmA.out] at KL2
          have KF : Aside (∀ q, Calls Tryz.prog 23 #[.pointer (some ⟨S, 0, none⟩), .int .u32 (a : Int), tab F] (w11.drewN q) fun e w' => e = .returned (.bool true) ∧ Below (w11.drewN q).heap.size (w11.drewN q) w') := fun q => by
            have := isf_any (G := F) (s11.drewN q) mA.out.1
            rwa [same_true mA.out.2.1] at this
          have tq : Aside (∀ q, IsTab (w11.drewN q) bf F ∧ Below w1.heap.size w1 (w11.drewN q)) := fun q => by
            have h : Below w1.heap.size w1 (w11.drewN q) := ⟨B11.out.os, B11.out.tape, B11.out.output, B11.out.size, B11.out.block⟩
            exact ⟨tF.out _ h, h⟩
          clear s11 mA tF B11
          go_wp2_with (first
            | (go_at_call 13; refine KL2.mono ?_; clear KL2; rintro e w ⟨rfl, q2, rfl⟩; have KF2 := KF.out q2; obtain ⟨y0, y1, y2, y3⟩ := (tq.out q2).1.copy; unfold tab at KF2; clear KF)
            | (go_at_call 23; refine KF2.mono ?_; clear KF2 y0 y1 y2 y3; rintro e w12 ⟨rfl, b12⟩))
          go_ret
          exact ⟨rfl, Rf.below_far B1A.out (Rf.below_far (tq.out q2).2 b12)⟩
        | false =>
          have all : ∀ i, i < j + 1 → M.isNode (rt a V i) := fun i hi => by
            unfold rt
            split
            · exact mA.out.1
            · exact badN_false hbj (i - 1) (by omega)
          have KR := reach_yes (cap := c') s9 hs all (by omega)
          have allA : Aside (∀ i, i < j + 1 → M.isNode (rt a V i)) := all
          have hsA : Aside (∀ u, Below w9.heap.size w9 u → St u S F4 M ∧ HsAt u ad' (j + 1) (rt a V)) := fun u h => ⟨s9.below h, hs.kept h⟩
          have oA : Aside M.Ok := s9.ok
          clear all hbj s9 hs
          go_upto_region 18 with (first
            | (go_at_call 14; refine KR.mono ?_; clear KR; rintro e w10 ⟨ad1, cap1, xs, rfl, _, _, _, b10⟩))
          have KC := collect_yes (cap := c') (hsA.out w10 b10).1 (hsA.out w10 b10).2 allA.out (by omega)
          have B10 : Aside (Below w1.heap.size w1 w10) := Rf.below_far BB.out b10
          clear hsA b10 BB
          go_upto_region 21 with (first
            | (go_at_call 19; refine KC.mono ?_; clear KC; rintro e w11 ⟨ys, F11, rfl, r11, u11, s11, g11⟩; obtain rfl : ys = M.hs := all_kept oA.out r11 u11 fun G h => ⟨0, by omega, (Prt.like oA.out dA.out mA.out.2.1.symm).1 (mA.out.2.2 G h)⟩; rw [Int.sub_self]; have rA : Aside (Rch M (rt a V) (j + 1) M.hs) := r11; clear r11 u11))
          have B11 : Aside (Below w1.heap.size w1 w11) := Wf.far B10.out g11 B10.out.size f4A.out
          have na : (only M M.hs).isNode a := mA.out.1
          have KF : Calls Tryz.prog 23 #[.pointer (some ⟨S, 0, none⟩), .int .u32 (a : Int), tab F] w11 fun e w' => e = .returned (.bool true) ∧ Below w11.heap.size w11 w' := by
            have := isf_any (G := F) s11 na
            rwa [same_true (only_tbl rA.out s11.ok na mA.out.2.1)] at this
          obtain ⟨y0, y1, y2, y3⟩ := (tF.out w11 B11.out).copy
          unfold tab at KF
          clear s11 g11 na rA B10 allA hrb oA f4A mA dA tF
          go_wp2_with (first
            | (go_at_call 23; refine KF.mono ?_; clear KF y0 y1 y2 y3; rintro e w12 ⟨rfl, b12⟩))
          go_ret
          exact ⟨rfl, Rf.below_far B1A.out (Rf.below_far B11.out b12)⟩
end Go.Proofs.YtlmbofbdncgaiaaGreat.Mk
