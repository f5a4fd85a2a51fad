/-
  ComposeAll, walked.
-/
import Derived.Test.YtancdjjhjfhcbaaGreatCpN
namespace Go.Proofs.YtancdjjhjfhcbaaGreat
open Go Go.RowKit
open Rf (fixAt fixF tab word IsTab TabsAt laid laid_turned laid_tab)

/-- The functions so far. -/
def tsN (T : Nat → Nat → Bool) (i : Nat) : List (Nat → Bool) := (List.range i).map T
theorem ts_len (T : Nat → Nat → Bool) (i : Nat) : (tsN T i).length = i := by simp [tsN]
theorem ts_next (T : Nat → Nat → Bool) (i : Nat) : tsN T i ++ [T i] = tsN T (i + 1) := by simp [tsN, List.range_succ]
theorem ts_get (T : Nat → Nat → Bool) {i j : Nat} (hj : j < i) : (tsN T i).getD j (fun _ => false) = T j := by simp [tsN, hj]
set_option maxRecDepth 100000 in
set_option maxHeartbeats 4000000 in
theorem all_walk (F : Nat → Bool) (G : Nat → Nat → Bool) (W : World) :
    Calls Tryz.prog 4 #[tab F, tab4 G] W fun e w' => e = .returned (.bool true) ∧ Below W.heap.size W w' := by
  conv in #[tab F, tab4 G] => unfold tab tab4
  go_enter Tryz.func4, Tryz.ntmps4
  go_upto_region 1 with fail
  have TF : IsTab ((W.alloc (.cells #[.int .u64 (word F 0 : Int), .int .u64 (word F 1 : Int), .int .u64 (word F 2 : Int), .int .u64 (word F 3 : Int)] 24)).alloc (.cells #[.int .u64 (word (G 0) 0 : Int), .int .u64 (word (G 0) 1 : Int), .int .u64 (word (G 0) 2 : Int), .int .u64 (word (G 0) 3 : Int), .int .u64 (word (G 1) 0 : Int), .int .u64 (word (G 1) 1 : Int), .int .u64 (word (G 1) 2 : Int), .int .u64 (word (G 1) 3 : Int), .int .u64 (word (G 2) 0 : Int), .int .u64 (word (G 2) 1 : Int), .int .u64 (word (G 2) 2 : Int), .int .u64 (word (G 2) 3 : Int), .int .u64 (word (G 3) 0 : Int), .int .u64 (word (G 3) 1 : Int), .int .u64 (word (G 3) 2 : Int), .int .u64 (word (G 3) 3 : Int)] 46)) W.heap.size F := (IsTab.new W F).alloc _
  have TG : IsT4 ((W.alloc (.cells #[.int .u64 (word F 0 : Int), .int .u64 (word F 1 : Int), .int .u64 (word F 2 : Int), .int .u64 (word F 3 : Int)] 24)).alloc (.cells #[.int .u64 (word (G 0) 0 : Int), .int .u64 (word (G 0) 1 : Int), .int .u64 (word (G 0) 2 : Int), .int .u64 (word (G 0) 3 : Int), .int .u64 (word (G 1) 0 : Int), .int .u64 (word (G 1) 1 : Int), .int .u64 (word (G 1) 2 : Int), .int .u64 (word (G 1) 3 : Int), .int .u64 (word (G 2) 0 : Int), .int .u64 (word (G 2) 1 : Int), .int .u64 (word (G 2) 2 : Int), .int .u64 (word (G 2) 3 : Int), .int .u64 (word (G 3) 0 : Int), .int .u64 (word (G 3) 1 : Int), .int .u64 (word (G 3) 2 : Int), .int .u64 (word (G 3) 3 : Int)] 46)) (W.heap.size + 1) G := by
    have := IsT4.new (W.alloc (.cells #[.int .u64 (word F 0 : Int), .int .u64 (word F 1 : Int), .int .u64 (word F 2 : Int), .int .u64 (word F 3 : Int)] 24)) G
    simpa using this
  have B3 : Below W.heap.size W ((W.alloc (.cells #[.int .u64 (word F 0 : Int), .int .u64 (word F 1 : Int), .int .u64 (word F 2 : Int), .int .u64 (word F 3 : Int)] 24)).alloc (.cells #[.int .u64 (word (G 0) 0 : Int), .int .u64 (word (G 0) 1 : Int), .int .u64 (word (G 0) 2 : Int), .int .u64 (word (G 0) 3 : Int), .int .u64 (word (G 1) 0 : Int), .int .u64 (word (G 1) 1 : Int), .int .u64 (word (G 1) 2 : Int), .int .u64 (word (G 1) 3 : Int), .int .u64 (word (G 2) 0 : Int), .int .u64 (word (G 2) 1 : Int), .int .u64 (word (G 2) 2 : Int), .int .u64 (word (G 2) 3 : Int), .int .u64 (word (G 3) 0 : Int), .int .u64 (word (G 3) 1 : Int), .int .u64 (word (G 3) 2 : Int), .int .u64 (word (G 3) 3 : Int)] 46)) := ((Below.refl _ W).alloc (Nat.le_refl _) _).alloc (by simp) _
  generalize (W.alloc (.cells #[.int .u64 (word F 0 : Int), .int .u64 (word F 1 : Int), .int .u64 (word F 2 : Int), .int .u64 (word F 3 : Int)] 24)).alloc (.cells #[.int .u64 (word (G 0) 0 : Int), .int .u64 (word (G 0) 1 : Int), .int .u64 (word (G 0) 2 : Int), .int .u64 (word (G 0) 3 : Int), .int .u64 (word (G 1) 0 : Int), .int .u64 (word (G 1) 1 : Int), .int .u64 (word (G 1) 2 : Int), .int .u64 (word (G 1) 3 : Int), .int .u64 (word (G 2) 0 : Int), .int .u64 (word (G 2) 1 : Int), .int .u64 (word (G 2) 2 : Int), .int .u64 (word (G 2) 3 : Int), .int .u64 (word (G 3) 0 : Int), .int .u64 (word (G 3) 1 : Int), .int .u64 (word (G 3) 2 : Int), .int .u64 (word (G 3) 3 : Int)] 46) = v3 at TF TG B3 ⊢
  have B3A : Aside (Below W.heap.size W v3) := B3
  have bd : Aside (W.heap.size ≤ W.heap.size ∧ W.heap.size ≠ W.heap.size + 1) := ⟨Nat.le_refl _, by omega⟩
  clear B3
  generalize W.heap.size + 1 = bg at TG bd ⊢
  obtain ⟨bf, hbf⟩ : ∃ bf, W.heap.size = bf := ⟨_, rfl⟩
  have bd2 : Aside (W.heap.size ≤ bf ∧ bf ≠ bg) := by have := bd.out; exact ⟨by omega, by omega⟩
  rw [hbf] at TF ⊢
  clear bd hbf
  have Kk := cknown_any v3
  go_upto_region 3 with (first
    | (go_at_call 8; refine Kk.mono ?_; clear Kk; rintro e v4 ⟨rfl, b4⟩))
  have TF4 := kept TF b4
  have TG4 : IsT4 v4 bg G := (b4.block _ TG.lt).trans TG
  have Kn : Calls Tryz.prog 9 #[.int .i64 4, .int .i64 32768] v4 _ := new_x W v4 4 32768 (by omega) (by omega) (by omega) (by omega) (Rf.below_far B3A.out b4)
  clear TF TG B3A b4
  go_upto_region 6 with (first
    | (go_at_call 9; refine Kn.mono ?_; clear Kn; rintro e w5 ⟨S, rfl, f5, x5, b5⟩))
  have TF5 := kept TF4 b5
  have TG5 : IsT4 w5 bg G := (b5.block _ TG4.lt).trans TG4
  have K1 : Calls Tryz.prog 11 #[tab F, .int .i64 4] w5 _ := trim_any F 4 (by omega) w5
  have lowF : Aside (∀ x y, x < 256 → y < 256 → (∀ j, j < 4 → x.testBit j = y.testBit j) → trimF F 4 4 x = trimF F 4 4 y) := trim_low F (n := 4) (by omega)
  have e44 : trimF F 4 (8 - 4) = trimF F 4 4 := rfl
  rw [e44] at K1
  clear e44
  generalize trimF F 4 4 = F' at K1 lowF
  have hT : Aside (∀ i, ∀ x y, x < 256 → y < 256 → (∀ j, j < 4 → x.testBit j = y.testBit j) → trimF (G i) 4 4 x = trimF (G i) 4 4 y) := fun i => trim_low (G i) (n := 4) (by omega)
  have KT : Aside (∀ i u, Calls Tryz.prog 11 #[tab (G i), .int .i64 4] u fun e w' => e = .returned (tab (trimF (G i) 4 4)) ∧ Below u.heap.size u w') := fun i u => trim_any (G i) 4 (by omega) u
  obtain ⟨T, hTT⟩ : ∃ T : Nat → Nat → Bool, (fun i => trimF (G i) 4 4) = T := ⟨_, rfl⟩
  have hT' : Aside (∀ i, ∀ x y, x < 256 → y < 256 → (∀ j, j < 4 → x.testBit j = y.testBit j) → T i x = T i y) := by rw [← hTT]; exact hT
  have KT' : Aside (∀ i u, Calls Tryz.prog 11 #[tab (G i), .int .i64 4] u fun e w' => e = .returned (tab (T i)) ∧ Below u.heap.size u w') := by rw [← hTT]; exact KT
  clear hT KT hTT TF4 TG4 b5 f5
  unfold tab at K1
  obtain ⟨y0, y1, y2, y3⟩ := TF5.copy
  go_upto_region 7 with (first
    | (go_at_call 11; refine K1.mono ?_; clear K1; rintro e w6 ⟨rfl, b6⟩; have TF6 := kept TF5 b6; clear y0 y1 y2 y3; obtain ⟨y0, y1, y2, y3⟩ := TF6.copy; have g0 := TF6.free 0; have g1 := TF6.free 1; have g2 := TF6.free 2; have g3 := TF6.free 3))
  have t7 := laid_turned w6 bf F'
  have TF7 : IsTab (laid w6 bf F') bf F' := laid_tab TF6 F'
  have TG6 : IsT4 w6 bg G := (b6.block _ TG5.lt).trans TG5
  have TG7 : IsT4 (laid w6 bf F') bg G := (t7.block _ TG6.lt (Ne.symm bd2.out.2)).trans TG6
  have x6 := x5.below b6
  have x7 : Sx W (laid w6 bf F') S 4 32768 [(0, c0), (1, c1)] 0 := x6.kept' (x6.base.trans (t7.below x6.base.size bd2.out.1)) fun k hk => by
    by_cases c : k = bf
    · subst c
      exact .inr ⟨_, _, _, TF6, by decide⟩
    · exact .inl (t7.block k hk c)
  unfold laid at TF7 TG7 x7
  generalize (((w6.setCell ⟨bf, 0, none⟩ (.int .u64 (word F' 0 : Int))).setCell ⟨bf, 1, none⟩ (.int .u64 (word F' 1 : Int))).setCell ⟨bf, 2, none⟩ (.int .u64 (word F' 2 : Int))).setCell ⟨bf, 3, none⟩ (.int .u64 (word F' 3 : Int)) = w7 at TF7 TG7 x7 ⊢
  clear t7 TG6 x6 TF6 y0 y1 y2 y3 g0 g1 g2 g3 TF5 TG5 x5 b6
  have K2 := make_n x7 F' lowF.out 3 (by decide) (by decide)
  unfold tab at K2
  obtain ⟨y0, y1, y2, y3⟩ := TF7.copy
  go_upto_region 8 with (first
    | (go_at_call 12; refine K2.mono ?_; clear K2; rintro e w8 ⟨a, rfl, x8, u8⟩))
  have TF8 : Aside (IsTab w8 bf F') := u8.tab TF7
  have TG8 : Aside (IsT4 w8 bg G) := u8 _ _ _ _ TG7 (by decide)
  have x8A : Aside (∃ l, Sx W w8 S 4 32768 l (3 + 3 * 0) ∧ (a, F') ∈ l ∧ ∀ j, j < 0 → (id j, T j) ∈ l) := ⟨_, x8, .head _, fun j hj => by omega⟩
  have lt8 : Aside (bf < w8.heap.size ∧ bg < w8.heap.size ∧ W.heap.size ≤ w8.heap.size) := ⟨TF8.out.lt, TG8.out.lt, x8.base.size⟩
  clear y0 y1 y2 y3 x7 x8 u8 TF7 TG7
  obtain ⟨B, hB⟩ : ∃ B, w8.heap.size = B := ⟨_, rfl⟩
  rw [hB] at lt8
  have BA : Aside (w8.heap.size = B) := hB
  clear hB
  go_upto_region 11 with fail
  go_loopg [8, 9, 10, 11, 12, 13] 4 (fun gn s8 s9 s10 s11 _s12 _s13 wr => ∃ (i : Nat) (al : Option Addr) (cl : Nat) (am : Option Addr) (cm : Nat) (H : Nat → Nat), i + gn = 4 ∧ s8 = .bool true ∧ s9 = .slice al i cl ∧ s10 = .slice am i cm ∧ s11 = .int .i64 (i : Int) ∧ Aside (∃ l, Sx W wr S 4 32768 l (3 + 3 * i) ∧ (a, F') ∈ l ∧ ∀ j, j < i → (H j, T j) ∈ l) ∧ Aside (OwnR 34 wr B al i cl (fun j => .int .u32 (H j : Int))) ∧ Aside (Rf.Own wr B am (tsN T i) cm) ∧ Aside (IsTab wr bf F') ∧ Aside (IsT4 wr bg G) ∧ Aside (B ≤ wr.heap.size))
  case atStart => exact ⟨0, none, 0, none, 0, id, by omega, rfl, rfl, rfl, rfl, x8A, OwnR.nil _ _ _ _, Rf.Own.nil _ _, TF8, TG8, by show _ ≤ _; have := BA.out; omega⟩
  case round =>
    obtain ⟨i, al, cl, am, cm, H, hi, rfl, rfl, rfl, rfl, x9, ol, om, tf, tg, B9⟩ := hrel
    have hI : Aside (i + gk = 4) := hi
    clear hi x8A TF8 TG8
    by_cases i4 : i < 4
    · have ii : (i : Int) < 4 := by omega
      have iA : Aside (i < 4) := i4
      obtain ⟨y0, y1, y2, y3⟩ := tg.out.cells i4
      have K3 := KT'.out i wr
      unfold tab at K3
      clear i4
      go_upto_region 14 with (first
        | (go_at_call 11; refine K3.mono ?_; clear K3; rintro e w10 ⟨rfl, b10⟩; have om10 := (om.out.below b10).new (.cells #[.int .u64 (word (T i) 0 : Int), .int .u64 (word (T i) 1 : Int), .int .u64 (word (T i) 2 : Int), .int .u64 (word (T i) 3 : Int)] 24))
        | (at_builtin; refine Rf.append_tab om10 (T i) w10.heap.size (Go.Deep.blk_alloc_new _ _) (by rw [ts_len]; have := iA.out; omega) (by have := B9.out; have := b10.size; simp; omega) rfl (.tmp 35) (.tmp 40) rfl (by rw [ts_len]; rfl) rfl ?_; intro g c11 w11 om11 gr11 at11 lt11; rw [ts_len]; clear at11 lt11))
      have B10 : B ≤ w10.heap.size := Nat.le_trans B9.out b10.size
      have x11 : Aside (∃ l, Sx W w11 S 4 32768 l (3 + 3 * i) ∧ (a, F') ∈ l ∧ ∀ j, j < i → (H j, T j) ∈ l) := by
        obtain ⟨l, xl, h1, h2⟩ := x9.out
        exact ⟨l, (Rf_grown_sx ((xl.below b10).below (nb w10 _)) lt8.out.2.2 (by simp; omega) om10 gr11).1, h1, h2⟩
      have Bw : Below B wr w11 := by
        have q := b10.alloc (B := wr.heap.size) b10.size (.cells #[.int .u64 (word (T i) 0 : Int), .int .u64 (word (T i) 1 : Int), .int .u64 (word (T i) 2 : Int), .int .u64 (word (T i) 3 : Int)] 24)
        have q2 : Below B (w10.alloc (.cells #[.int .u64 (word (T i) 0 : Int), .int .u64 (word (T i) 1 : Int), .int .u64 (word (T i) 2 : Int), .int .u64 (word (T i) 3 : Int)] 24)) w11 := Rf.grown_below gr11 (by simp; omega) fun k hk => (om10.blockGe k hk).1
        exact Below.trans ⟨q.os, q.tape, q.output, q.size, fun k hk => q.block k (Nat.lt_of_lt_of_le hk B9.out)⟩ q2
      have ol11 : Aside (OwnR 34 w11 B al i cl (fun j => .int .u32 (H j : Int))) := Rf_grown_own om10 gr11 ((ol.out.below b10).new _) (by decide)
      have tf11 : Aside (IsTab w11 bf F') := tf.out.below Bw lt8.out.1
      have tg11 : Aside (IsT4 w11 bg G) := (Bw.block _ lt8.out.2.1).trans tg.out
      have B11 : Aside (B ≤ w11.heap.size) := by show B ≤ _; have := Bw.size; have := B9.out; omega
      rw [ts_next] at om11
      have omA : Aside (Rf.Own w11 B (some ⟨g, 0, none⟩) (tsN T (i + 1)) c11) := om11
      obtain ⟨z0, z1, z2, z3⟩ := (show TabsAt w11 (some ⟨g, 0, none⟩) (i + 1) (fun j => (tsN T (i + 1)).getD j fun _ => false) by have := om11.tabs; rwa [ts_len] at this).get (i := i) (by omega)
      rw [ts_get T (show i < i + 1 by omega)] at z0 z1 z2 z3
      rw [Nat.zero_add] at z0 z1 z2 z3
      obtain ⟨l, xl, h1, h2⟩ := x11.out
      have K4 := make_n xl (T i) (hT'.out i) 3 (by decide) (by have := iA.out; omega)
      have h1A : Aside ((a, F') ∈ l ∧ ∀ j, j < i → (H j, T j) ∈ l) := ⟨h1, h2⟩
      unfold tab at K4
      clear x9 ol om tf tg B9 b10 om10 gr11 om11 x11 xl h1 h2 y0 y1 y2 y3 Bw B10
      go_upto_region 16 with (first
        | (go_at_call 12; refine K4.mono ?_; clear K4; rintro e w12 ⟨h, rfl, x12, u12⟩))
      have ol12 := u12.own ol11.out (by decide)
      have om12 := u12.tabs omA.out
      have tf12 := u12.tab tf11.out
      have tg12 : IsT4 w12 bg G := u12 _ _ _ _ tg11.out (by decide)
      have B12 : B ≤ w12.heap.size := by
        have := om12.block ⟨g, 0, none⟩ rfl
        exact Nat.le_trans this.1 (Nat.le_of_lt this.2)
      have ol12n := ol12.new (.cells #[.int .u32 (h : Int)] 34)
      have x12n := x12.below (nb w12 (.cells #[.int .u32 (h : Int)] 34))
      have om12n := om12.new (.cells #[.int .u32 (h : Int)] 34)
      have tf12n := kept tf12 (nb w12 (.cells #[.int .u32 (h : Int)] 34))
      have tg12n : IsT4 (w12.alloc (.cells #[.int .u32 (h : Int)] 34)) bg G := ((nb w12 (.cells #[.int .u32 (h : Int)] 34)).block _ tg12.lt).trans tg12
      clear ol11 omA tf11 tg11 B11 u12 z0 z1 z2 z3 ol12 om12 tf12 tg12 x12
      go_upto_region 12 with (first
        | (at_builtin; refine append_h ol12n w12.heap.size (h : Int) (Go.Deep.blk_alloc_new _ _) (by have := iA.out; omega) (by simp; omega) rfl (.tmp 55) (.tmp 57) rfl rfl rfl ?_; intro g2 c13 w13 ol13 wn13 at13))
      have xb := went_sx x12n lt8.out.2.2 (show B ≤ (w12.alloc (.cells #[.int .u32 (h : Int)] 34)).heap.size by simp; omega) ol12n (by decide) wn13
      have om13 : Aside (Rf.Own w13 B (some ⟨g, 0, none⟩) (tsN T (i + 1)) c11) := went_tabs ol12n (by decide) wn13 om12n
      have tf13 : Aside (IsTab w13 bf F') := tf12n.below xb.2 lt8.out.1
      have tg13 : Aside (IsT4 w13 bg G) := (xb.2.block _ lt8.out.2.1).trans tg12n
      have x13 : Aside (∃ l, Sx W w13 S 4 32768 l (3 + 3 * (i + 1)) ∧ (a, F') ∈ l ∧ ∀ j, j < i + 1 → ((if j = i then h else H j), T j) ∈ l) := ⟨_, xb.1, .tail _ h1A.out.1, fun j hj => by
        by_cases c : j = i
        · rw [if_pos c, c]; exact .head _
        · rw [if_neg c]; exact .tail _ (h1A.out.2 j (by omega))⟩
      have ol13A : Aside (OwnR 34 w13 B (some ⟨g2, 0, none⟩) (i + 1) c13 (fun j => .int .u32 ((if j = i then h else H j : Nat) : Int))) := ol13.congr fun j _ => by split <;> rfl
      have B13 : Aside (B ≤ w13.heap.size) := by
        have := om13.out.block ⟨g, 0, none⟩ rfl
        exact Nat.le_trans this.1 (Nat.le_of_lt this.2)
      have i4i : (i : Int) < 4 := ii
      clear ol12n x12n om12n tf12n tg12n ol13 wn13 at13 xb h1A B12
      go_wp2_with fail
      go_roundg (gk - 1)
      case measure => have := hI.out; have := iA.out; omega
      case rel =>
        have := hI.out
        have := iA.out
        exact ⟨i + 1, some ⟨g2, 0, none⟩, c13, some ⟨g, 0, none⟩, c11, _, by omega, rfl, rfl, rfl, rfl, x13, ol13A, om13, tf13, tg13, B13⟩
    · have ei : i = 4 := by have := hI.out; omega
      subst ei
      have ii : ¬ ((4 : Nat) : Int) < 4 := by omega
      clear i4
      obtain ⟨l, xl, h1, h2⟩ := x9.out
      have h1A : Aside ((a, F') ∈ l ∧ ∀ j, j < 4 → (H j, T j) ∈ l) := ⟨h1, h2⟩
      have K5 := sub_x (cap := cl) xl (x := a) (X := F') h1 (hd_own ol.out) h2 3 (by decide) (by decide)
      clear x9 h1 h2 xl
      go_upto_region 18 with (first
        | (go_at_call 19; refine K5.mono ?_; clear K5; rintro e w10 ⟨x, rfl, x10, u10⟩))
      have ol10 := u10.own ol.out (by decide)
      have om10 := u10.tabs om.out
      have tf10 := u10.tab tf.out
      have K6 : Calls Tryz.prog 18 #[tab F', .slice am 4 cm] w10 fun e w' => e = .returned (tab (sbF 4 (fun j => (tsN T 4).getD j fun _ => false) F')) ∧ Below w10.heap.size w10 w' := rsubst_any F' am 4 cm _ w10 (by have := om10.tabs; rwa [ts_len] at this) (by omega)
      have E6 : Aside (Eqt (sbF 4 T F') (sbF 4 (fun j => (tsN T 4).getD j fun _ => false) F')) := sb_congr (by omega) (Eqt.refl _) fun u hu => by rw [ts_get T hu]; exact Eqt.refl _
      generalize sbF 4 (fun j => (tsN T 4).getD j fun _ => false) F' = Y at K6 E6
      have KI : Aside (∀ u, Below w10.heap.size w10 u → Calls Tryz.prog 14 #[.pointer (some ⟨S, 0, none⟩), .int .u32 (x : Int), tab Y] u fun e w' => e = .returned (.bool true) ∧ Below u.heap.size u w') := fun u hu => is_x (x10.below hu) (.head _) E6.out
      unfold tab at K6 KI
      obtain ⟨y0, y1, y2, y3⟩ := tf10.copy
      have ol10A : Aside (OwnR 34 w10 B al 4 cl (fun j => .int .u32 (H j : Int))) := ol10
      have x10A : Aside (Sx W w10 S 4 32768 ((x, sbF 4 T F') :: l) (3 + 3 * 4 + 3)) := x10
      have bH : Aside (∀ j, j < 4 → H j < 32770) := fun j hj => x10.bound (.tail _ (h1A.out.2 j hj))
      clear ol om tf tg ol10 om10 tf10 u10 x10 E6 hT' KT' lowF
      go_upto_region 20 with (first
        | (go_at_call 18; refine K6.mono ?_; clear K6; rintro e w11 ⟨rfl, b11⟩; have K7 := KI.out w11 b11)
        | (go_at_call 14; refine K7.mono ?_; clear K7; rintro e w12 ⟨rfl, b12⟩))
      have b12' := Rf.below_far b11 b12
      have ol12 := ol10A.out.below b12'
      have x12 := x10A.out.below b12'
      obtain ⟨g, rfl⟩ := ol12.form (by omega)
      have d2 := ol12.cell (i := 2) (by omega)
      have e2 := ol12.frozen 2
      have ol13 := (ol12.set (k := 2) (.int .u32 30000)).congr (U := fun j => .int .u32 ((if j = 2 then 30000 else H j : Nat) : Int)) fun j _ => by split <;> rfl
      have x13 : Sx W (w12.setCell ⟨g, 2, none⟩ (.int .u32 30000)) S 4 32768 ((x, sbF 4 T F') :: l) (3 + 3 * 4 + 3) := by
        obtain ⟨cur, hc⟩ := ol12.kind g ⟨_, rfl, rfl⟩
        exact x12.set hc (by decide) (by have := (ol12.block g ⟨_, rfl, rfl⟩).1; have := lt8.out; omega) _ _
      have K8 := sub_no (cap := cl) x13 (x := a) (X := F') (.tail _ h1A.out.1) (hd_own ol13) (fun j hj => by split; omega; have := bH.out j hj; omega) (by omega) ⟨2, by omega, by rw [if_pos rfl]; omega⟩
      have K9 : Calls Tryz.prog 20 #[.pointer (some ⟨S, 0, none⟩), .int .u32 30000] (w12.setCell ⟨g, 2, none⟩ (.int .u32 30000)) _ := is_no (x := 30000) x13 (by omega) (by omega)
      clear y0 y1 y2 y3 ol10A x10A b11 b12 b12' ol12 x12 ol13 KI h1A bH
      go_wp2_with (first
        | (go_at_call 19; refine K8.mono ?_; clear K8; rintro e w14 ⟨rfl, e14⟩; subst w14)
        | (go_at_call 20; refine K9.mono ?_; clear K9; rintro e w15 ⟨rfl, e15⟩; subst w15))
      go_ret
      exact ⟨rfl, x13.base⟩
end Go.Proofs.YtancdjjhjfhcbaaGreat
