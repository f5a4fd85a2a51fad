/-
  spinneyref3: to, Subst.
-/
import Derived.Test.YtancdjjhjfhcbaaGreatCpX
namespace Go.Proofs.YtancdjjhjfhcbaaGreat
open Go Go.RowKit
open Rf (fixAt fixF tab word IsTab TabsAt)

theorem to_all : ((List.range 256).all fun x => (List.range 8).all fun v => decide (x &&& (255 - 2 ^ v) = fixAt v false x) && decide (((x &&& (255 - 2 ^ v)) ||| 2 ^ v) = fixAt v true x)) = true := by kernel_rfl
theorem to_is {x v : Nat} (hx : x < 256) (hv : v < 8) : x &&& (255 - 2 ^ v) = fixAt v false x ∧ ((x &&& (255 - 2 ^ v)) ||| 2 ^ v) = fixAt v true x := by
  have h := List.all_eq_true.1 to_all x (List.mem_range.2 hx)
  have h := List.all_eq_true.1 h v (List.mem_range.2 hv)
  rw [Bool.and_eq_true] at h
  exact ⟨of_decide_eq_true h.1, of_decide_eq_true h.2⟩
set_option maxHeartbeats 1000000 in
theorem to_any (x v : Nat) (b : Bool) (hx : x < 256) (hv : v < 8) (w : World) :
    Calls Tryz.prog 48 #[.int .u8 (x : Int), .int .i64 (v : Int), .bool b] w fun e w' => e = .returned (.int .u8 (fixAt v b x : Int)) ∧ w' = w := by
  obtain ⟨h0, h1⟩ := to_is hx hv
  obtain ⟨P, hP⟩ : ∃ P : Nat, 2 ^ v = P := ⟨_, rfl⟩
  have P8 : P < 256 := by rw [← hP]; exact Nat.pow_lt_pow_right (n := 8) (by omega) hv
  have hp : (2 : Int) ^ v % 256 = (P : Int) := by
    have : (2 : Int) ^ v = ((2 ^ v : Nat) : Int) := by push_cast; rfl
    rw [this, hP]
    exact Int.emod_eq_of_lt (Int.natCast_nonneg _) (Int.ofNat_lt.2 P8)
  have f8 : fixAt v false x < 256 := fixl hx hv false
  have hA : bits .andNot .u8 (x : Int) (P : Int) = (fixAt v false x : Int) := by rw [u8_andNot_nat _ _ hx P8, ← hP, h0]
  have hO : bits .or .u8 (fixAt v false x : Int) (P : Int) = (fixAt v true x : Int) := by rw [u8_or_nat _ _ f8 P8, ← h0, ← hP, h1]
  have hvi : (v : Int) < 8 := by omega
  generalize hy0 : fixAt v false x = y0 at hA hO f8
  generalize hy1 : fixAt v true x = y1 at hO
  clear h0 h1 hP
  cases b with
  | false =>
    clear hy1 hO
    go_enter Tryz.func48, Tryz.ntmps48
    go_wp2_with fail
    go_ret
    exact ⟨by rw [hy0]; rfl, rfl⟩
  | true =>
    clear hy0
    go_enter Tryz.func48, Tryz.ntmps48
    go_wp2_with fail
    go_ret
    exact ⟨by rw [hy1]; rfl, rfl⟩
theorem three_tabs (w : World) (F : Nat → Bool) : IsTab (((w.alloc (.cells #[.int .u64 (word F 0 : Int), .int .u64 (word F 1 : Int), .int .u64 (word F 2 : Int), .int .u64 (word F 3 : Int)] 24)).alloc (.cells #[.int .u64 0, .int .u64 0, .int .u64 0, .int .u64 0] 24)).alloc (.cells #[.int .u64 0, .int .u64 0, .int .u64 0, .int .u64 0] 24)) w.heap.size F ∧ IsTab (((w.alloc (.cells #[.int .u64 (word F 0 : Int), .int .u64 (word F 1 : Int), .int .u64 (word F 2 : Int), .int .u64 (word F 3 : Int)] 24)).alloc (.cells #[.int .u64 0, .int .u64 0, .int .u64 0, .int .u64 0] 24)).alloc (.cells #[.int .u64 0, .int .u64 0, .int .u64 0, .int .u64 0] 24)) (w.heap.size + 1) (fun _ => false) ∧ IsTab (((w.alloc (.cells #[.int .u64 (word F 0 : Int), .int .u64 (word F 1 : Int), .int .u64 (word F 2 : Int), .int .u64 (word F 3 : Int)] 24)).alloc (.cells #[.int .u64 0, .int .u64 0, .int .u64 0, .int .u64 0] 24)).alloc (.cells #[.int .u64 0, .int .u64 0, .int .u64 0, .int .u64 0] 24)) (w.heap.size + 1 + 1) (fun _ => false) ∧ Below w.heap.size w (((w.alloc (.cells #[.int .u64 (word F 0 : Int), .int .u64 (word F 1 : Int), .int .u64 (word F 2 : Int), .int .u64 (word F 3 : Int)] 24)).alloc (.cells #[.int .u64 0, .int .u64 0, .int .u64 0, .int .u64 0] 24)).alloc (.cells #[.int .u64 0, .int .u64 0, .int .u64 0, .int .u64 0] 24)) :=
  ⟨((IsTab.new w F).alloc _).alloc _, (IsTab.zeroAt (by simp)).alloc _, IsTab.zeroAt (by simp), (((Below.refl _ w).alloc (Nat.le_refl _) _).alloc (by simp) _).alloc (by simp; omega) _⟩
set_option maxRecDepth 100000 in
set_option maxHeartbeats 2000000 in
theorem rsubst_any (F : Nat → Bool) (ad : Option Addr) (n cap : Nat) (T : Nat → Nat → Bool) (w : World) (hT : TabsAt w ad n T) (hn : n ≤ 8) :
    Calls Tryz.prog 18 #[tab F, .slice ad n cap] w fun e w' => e = .returned (tab (sbF n T F)) ∧ Below w.heap.size w w' := by
  conv in #[tab F, Value.slice ad n cap] => unfold tab
  have TA : Aside (TabsAt w ad n T) := hT
  have nA : Aside (n ≤ 8) := hn
  clear hT hn
  go_enter Tryz.func18, Tryz.ntmps18
  go_upto_region 2 with fail
  obtain ⟨TF, TR, TH, B3⟩ := three_tabs w F
  generalize ((w.alloc (.cells #[.int .u64 (word F 0 : Int), .int .u64 (word F 1 : Int), .int .u64 (word F 2 : Int), .int .u64 (word F 3 : Int)] 24)).alloc (.cells #[.int .u64 0, .int .u64 0, .int .u64 0, .int .u64 0] 24)).alloc (.cells #[.int .u64 0, .int .u64 0, .int .u64 0, .int .u64 0] 24) = w3 at TF TR TH B3 ⊢
  have TF3 : Aside (IsTab w3 w.heap.size F) := TF
  have TR3 : Aside (IsTab w3 (w.heap.size + 1) (fun _ => false)) := TR
  have TH3 : Aside (IsTab w3 (w.heap.size + 1 + 1) (fun y => decide (y < 0) && sbF n T F y)) := TH.ext fun y _ => by simp
  have B3A : Aside (Below w.heap.size w w3) := B3
  obtain ⟨bf, hbf⟩ : ∃ bf, w.heap.size = bf := ⟨_, rfl⟩
  have bd : Aside (w.heap.size ≤ bf ∧ bf ≠ bf + 1 + 1 ∧ bf + 1 ≠ bf + 1 + 1 ∧ w.heap.size ≤ bf + 1 ∧ w.heap.size ≤ bf + 1 + 1) := ⟨by omega, by omega, by omega, by omega, by omega⟩
  rw [hbf] at TF3 TR3 TH3 ⊢
  generalize bf + 1 + 1 = bh at TH3 bd ⊢
  generalize bf + 1 = br at TR3 bd ⊢
  clear TF TR TH B3 hbf
  go_upto_region 3 with fail
  go_loopg [6, 7, 8] 256 (fun gn s6 _s7 _s8 wr => ∃ x : Nat, x + gn = 256 ∧ s6 = .int .i64 (x : Int) ∧ Aside (IsTab wr bh (fun y => decide (y < x) && sbF n T F y)) ∧ Aside (IsTab wr bf F) ∧ Aside (IsTab wr br (fun _ => false)) ∧ Aside (Below w.heap.size w wr))
  case atStart => exact ⟨0, by omega, rfl, TH3, TF3, TR3, B3A⟩
  case round =>
    obtain ⟨x, hx, rfl, th, tf, tr, B4⟩ := hrel
    have hX : Aside (x + gk = 256) := hx
    clear hx TH3 TF3 TR3 B3A
    by_cases x8 : x < 256
    · have xi : (x : Int) < 256 := by omega
      have xA : Aside (x < 256) := x8
      have x0 : (0 : Int) ≤ (x : Int) := by omega
      clear x8
      go_upto_region 7 with fail
      obtain ⟨go, rfl⟩ : ∃ g, g = gk := ⟨_, rfl⟩
      obtain ⟨wo, rfl⟩ : ∃ u, u = wr := ⟨_, rfl⟩
      go_loopg [7, 8] n (fun gn s7 s8 wq => ∃ v : Nat, v + gn = n ∧ s7 = .int .u8 (sbA T x v : Int) ∧ s8 = .int .i64 (v : Int) ∧ Aside (Below wo.heap.size wo wq))
      case atStart => exact ⟨0, by omega, rfl, rfl, Below.refl _ _⟩
      case round =>
        obtain ⟨v, hv, rfl, rfl, B5⟩ := hrel
        have hV : Aside (v + gk = n) := hv
        clear hv
        have tq := TA.out.kept (Rf.below_far B4.out B5.out)
        have sb := sb_bit T xA.out v (by have := nA.out; have := hV.out; omega)
        by_cases vn : v < n
        · have vni : (v : Int) < (n : Int) := by omega
          have v8 : (v : Int) < 8 := by have := nA.out; omega
          have vA : Aside (v < n) := vn
          obtain ⟨b, off, rfl, hb⟩ := tq.some (by omega)
          obtain ⟨y0, y1, y2, y3⟩ := tq.get vn
          have KE := Rf.eval_any (T v) x xA.out wr
          have KT : Aside (∀ u, Calls Tryz.prog 48 #[.int .u8 (sbA T x v : Int), .int .i64 (v : Int), .bool (T v x)] u fun e w' => e = .returned (.int .u8 (sbA T x (v + 1) : Int)) ∧ w' = u) := fun u => to_any (sbA T x v) v (T v x) sb.1 (by have := nA.out; omega) u
          obtain ⟨z1, hz1⟩ : ∃ z, sbA T x (v + 1) = z := ⟨_, rfl⟩
          have z1A : Aside (sbA T x (v + 1) = z1) := hz1
          rw [hz1] at KT
          generalize sbA T x v = z0 at KT sb ⊢
          generalize T v x = tv at KT KE
          unfold tab at KE
          generalize word (T v) 0 = q0 at y0 KE
          generalize word (T v) 1 = q1 at y1 KE
          generalize word (T v) 2 = q2 at y2 KE
          generalize word (T v) 3 = q3 at y3 KE
          clear hz1 vn hb sb tq
          go_wp2_with (first
            | (go_at_call 49; refine KE.mono ?_; clear KE; rintro e w6 ⟨rfl, b6⟩; have K7 := KT.out w6)
            | (go_at_call 48; refine K7.mono ?_; clear K7; rintro e w7 ⟨rfl, e7⟩; subst w7))
          go_roundg (gk - 1)
          case measure => have := hV.out; have := vA.out; omega
          case rel =>
            have := hV.out
            have := vA.out
            exact ⟨v + 1, by omega, by rw [z1A.out], rfl, Rf.below_far B5.out b6⟩
        · have ev : v = n := by have := hV.out; omega
          subst ev
          have vni : ¬ (v : Int) < (v : Int) := by omega
          have tf5 := Rf.IsTab.kept tf.out B5.out
          have th5 := Rf.IsTab.kept th.out B5.out
          have tr5 : Aside (IsTab wr br (fun _ => false)) := Rf.IsTab.kept tr.out B5.out
          obtain ⟨y0, y1, y2, y3⟩ := tf5.copy
          have KE := Rf.eval_any F (sbA T x v) sb.1 wr
          have KS : Aside (∀ u, Below wr.heap.size wr u → Calls Tryz.prog 47 #[.pointer (some ⟨bh, 0, none⟩), .int .u8 (x : Int), .bool (F (sbA T x v))] u fun e w' => e = .returned (.tuple #[]) ∧ IsTab w' bh (fun y => (decide (y < x) && sbF v T F y) || (decide (y = x) && F (sbA T x v))) ∧ Rf.Turned bh u w') := fun u hu => Rf.set_any bh _ x xA.out _ u (Rf.IsTab.kept th5 hu)
          have nx : Aside (∀ u, IsTab u bh (fun y => (decide (y < x) && sbF v T F y) || (decide (y = x) && F (sbA T x v))) → IsTab u bh (fun y => decide (y < x + 1) && sbF v T F y)) := fun u hu => hu.ext fun y _ => by
            by_cases c : y = x
            · subst c
              simp [sbF]
            · by_cases d : y < x
              · simp [d, c, show y < x + 1 by omega]
              · simp [d, c, show ¬ y < x + 1 by omega]
          have tf5A : Aside (IsTab wr bf F) := tf5
          generalize F (sbA T x v) = fv at KE KS nx
          generalize sbA T x v = z0 at KE sb ⊢
          unfold tab at KE
          clear vn tq sb tf5 th5
          go_wp2_with (first
            | (go_at_call 49; refine KE.mono ?_; clear KE; rintro e w6 ⟨rfl, b6⟩; have K7 := KS.out w6 b6)
            | (go_at_call 47; refine K7.mono ?_; clear K7; rintro e w7 ⟨rfl, t7, u7⟩))
          go_roundg (go - 1)
          case measure => have := hX.out; have := xA.out; omega
          case rel =>
            have h1 := hX.out
            have h2 := xA.out
            have bdo := bd.out
            have B6 := Rf.below_far (Rf.below_far B4.out B5.out) b6
            exact ⟨x + 1, by omega, rfl, nx.out _ t7, u7.tab (Rf.IsTab.kept tf5A.out b6) (by omega), u7.tab (Rf.IsTab.kept tr5.out b6) (by omega), B6.trans (u7.below B6.size (by omega))⟩
    · have ex : x = 256 := by have := hX.out; omega
      subst ex
      have xi : ¬ ((256 : Nat) : Int) < 256 := by omega
      have th' := th.out.ext (G := sbF n T F) fun y hy => by simp [hy]
      obtain ⟨y0, y1, y2, y3⟩ := th'.copy
      obtain ⟨z0, z1, z2, z3⟩ := tr.out.copy
      have f0 := tr.out.free 0
      have f1 := tr.out.free 1
      have f2 := tr.out.free 2
      have f3 := tr.out.free 3
      have trA := tr
      have bdo := bd
      clear x8 th tf tr th' bd
      go_wp2_with fail
      have bdo := bdo.out
      have tt := Rf.laid_turned wr br (sbF n T F)
      exact bodyPost_ret (Rf.results_tab rfl rfl (Rf.laid_tab trA.out (sbF n T F))) rfl ⟨rfl, B4.out.trans (tt.below B4.out.size (by omega))⟩
end Go.Proofs.YtancdjjhjfhcbaaGreat
