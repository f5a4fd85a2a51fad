/-
  Package build: the paths to 1 (paths, Cubes).
-/
import Derived.Test.YtfaccdnnjkkcfaaGreatDoorBdO
import Derived.Deep.RegionHeld3
import Derived.BigQuiet
import Derived.Laws.BitsAllLaws
namespace Go.Proofs.YtfaccdnnjkkcfaaGreatDoor
open Go Go.RowKit
open Rf (fixAt fixF tab word same IsTab Cols blockOf)

/-- The paths to 1 that go on from a node, where (m, q) is the way to it: within d levels. -/
def pathsN (M : Mdl) : Nat → Nat → Nat → Nat → List (Nat × Nat)
  | 0, x, m, q => if x = 1 then [(m, q)] else []
  | d + 1, x, m, q => if x = 0 then [] else if x = 1 then [(m, q)] else pathsN M d (M.nd x).2.1 (m ||| 2 ^ M.v (M.nd x).1) q ++ pathsN M d (M.nd x).2.2 (m ||| 2 ^ M.v (M.nd x).1) (q ||| 2 ^ M.v (M.nd x).1)
theorem pathsN_zero (M : Mdl) (d m q : Nat) : pathsN M d 0 m q = [] := by cases d <;> rfl
theorem pathsN_one (M : Mdl) (d m q : Nat) : pathsN M d 1 m q = [(m, q)] := by cases d <;> rfl
theorem pathsN_in (M : Mdl) (d x m q : Nat) (h : ¬ x < 2) : pathsN M (d + 1) x m q = pathsN M d (M.nd x).2.1 (m ||| 2 ^ M.v (M.nd x).1) q ++ pathsN M d (M.nd x).2.2 (m ||| 2 ^ M.v (M.nd x).1) (q ||| 2 ^ M.v (M.nd x).1) := by
  rw [pathsN, if_neg (by omega), if_neg (by omega)]
theorem pathsN_le (M : Mdl) (d : Nat) : ∀ x m q, (pathsN M d x m q).length ≤ 2 ^ d := by
  induction d with
  | zero => intro x m q; rw [pathsN]; split <;> simp
  | succ d ih =>
    intro x m q
    rw [pathsN]
    split
    · simp
    · split
      · have := Nat.pow_pos (n := d + 1) (show 0 < 2 by omega)
        simp only [List.length_cons, List.length_nil]
        omega
      · have h1 := ih (M.nd x).2.1 (m ||| 2 ^ M.v (M.nd x).1) q
        have h2 := ih (M.nd x).2.2 (m ||| 2 ^ M.v (M.nd x).1) (q ||| 2 ^ M.v (M.nd x).1)
        rw [List.length_append, Nat.pow_succ]
        omega

/-- What the call leaves. -/
def PathsC (B : Nat) (w : World) (ad : Option Addr) (ps : List (Nat × Nat)) (e : Ending) (w' : World) : Prop :=
  ∃ ad' cap', e = .returned (.slice ad' ps.length cap') ∧ OwnP w' B ad' ps cap' ∧ Apd w w' ad ad'
theorem loadW {w : World} {b S g n : Nat} (h : IsBk w b S g n) : (Instr.loadAt 94 (.pointer (some ⟨b, 0, none⟩))).run Tryz.prog w = .ok (wkv S g n) w := by
  have c0 := h.c0
  have c1 := h.c1
  unfold wkv
  go_simp

set_option maxRecDepth 100000 in
set_option maxHeartbeats 4000000 in
theorem paths_step {w : World} {S B : Nat} {F0 : Nat → Prop} {M : Mdl} {x g m q d : Nat} {ad : Option Addr} {ps : List (Nat × Nat)} {cap : Nat} (h : St w S F0 M) (xn : M.isNode x) (row : w.rowIs g 3 M.n (fun i => .int .i64 (M.v i : Int)))
    (hF : ∀ k, F0 k → k < B) (hg : g < B) (hB : B ≤ w.heap.size) (hm : m < 256) (hq : q < 256) (own : OwnP w B ad ps cap) (len0 : ps.length ≤ 2000 ∧ (¬ x < 2 → ps.length + 2 ^ (d + 2) ≤ 2000))
    (ih : x ∈ M.hs → ∀ {w' : World} {y m q : Nat} {ad : Option Addr} {ps : List (Nat × Nat)} {cap : Nat}, St w' S F0 M → M.isNode y → M.lev x < M.lev y → w'.rowIs g 3 M.n (fun i => .int .i64 (M.v i : Int)) → B ≤ w'.heap.size → m < 256 → q < 256 → OwnP w' B ad ps cap → ps.length + 2 ^ (d + 1) ≤ 2000 → Calls Tryz.prog 49 #[wkv S g M.n, .int .u32 (y : Int), .agg #[.int .u8 (m : Int), .int .u8 (q : Int)], .slice ad ps.length cap] w' (PathsC B w' ad (ps ++ pathsN M d y m q))) :
    Calls Tryz.prog 49 #[wkv S g M.n, .int .u32 (x : Int), .agg #[.int .u8 (m : Int), .int .u8 (q : Int)], .slice ad ps.length cap] w (PathsC B w ad (ps ++ pathsN M (d + 1) x m q)) := by
  have o := h.ok
  have B0 := ((Below.refl _ w).alloc (Nat.le_refl _) (.cells #[.pointer (some ⟨S, 0, none⟩), .slice (some ⟨g, 0, none⟩) M.n M.n] 94)).alloc (by simp) (.cells #[.int .u8 (m : Int), .int .u8 (q : Int)] 49)
  have TW : IsBk _ w.heap.size S g M.n := (Is2.new 94 w (.pointer (some ⟨S, 0, none⟩)) (.slice (some ⟨g, 0, none⟩) M.n M.n)).alloc (.cells #[.int .u8 (m : Int), .int .u8 (q : Int)] 49)
  have TP := Is2.newAt 49 (w := w.alloc (.cells #[.pointer (some ⟨S, 0, none⟩), .slice (some ⟨g, 0, none⟩) M.n M.n] 94)) (n := w.heap.size + 1) (by simp) (.int .u8 (m : Int)) (.int .u8 (q : Int))
  have own4 := own.below B0
  unfold wkv
  by_cases h2 : x < 2
  · clear ih
    have h01 : x = 0 ∨ x = 1 := by omega
    rcases h01 with rfl | rfl
    · rw [pathsN_zero, List.append_nil]
      go_enter Tryz.func49, Tryz.ntmps49
      go_wp2_with fail
      go_ret
      exact ⟨ad, cap, rfl, own4, Apd.of_below B0 ad⟩
    · rw [pathsN_one]
      have ln : ps.length ≤ 2000 := len0.1
      clear len0
      go_enter Tryz.func49, Tryz.ntmps49
      go_upto_region 1 with fail
      generalize (w.alloc (.cells #[.pointer (some ⟨S, 0, none⟩), .slice (some ⟨g, 0, none⟩) M.n M.n] 94)).alloc (.cells #[.int .u8 (m : Int), .int .u8 (q : Int)] 49) = w4 at B0 TW TP own4 ⊢
      obtain ⟨b, hb⟩ : ∃ b, w.heap.size = b := ⟨_, rfl⟩
      have hbA : Aside (w.heap.size = b) := hb
      rw [hb] at TW TP ⊢
      clear hb
      have e0 := TP.c0
      have e1 := TP.c1
      go_wp2_with (first
        | (at_builtin; refine append_pair (own4.new _) (m, q) w4.heap.size (Is2.new 49 w4 _ _) (by omega) (by have := B0.size; simp; omega) rfl _ _ rfl rfl rfl ?_; intro g' cap' w7 o7 g7 at7 lt7))
      go_ret
      exact ⟨some ⟨g', 0, none⟩, cap', by rw [List.length_append]; rfl, o7, (Apd.of_below B0 ad).trans ((Apd.of_below (nb w4 _) ad).trans (Apd.grown g7 at7))⟩
  · have len := len0.2 h2
    clear len0
    have xm : x ∈ M.hs := xn.resolve_left h2
    have hx : x < 4294967296 := by have := (o.range x xm).2; omega
    rw [pathsN_in M d x m q h2]
    obtain ⟨l, hl⟩ : ∃ l, (M.nd x).1 = l := ⟨_, rfl⟩
    obtain ⟨lo, hlo⟩ : ∃ lo, (M.nd x).2.1 = lo := ⟨_, rfl⟩
    obtain ⟨hi, hhi⟩ : ∃ hi, (M.nd x).2.2 = hi := ⟨_, rfl⟩
    have ln : l < M.n := by rw [← hl]; exact o.lv x xm
    have n8 := o.le8
    have hv : M.v l < 8 := by have := o.vlt l ln; omega
    have KLev : ∀ {w' : World}, St w' S F0 M → Calls Tryz.prog 56 #[.pointer (some ⟨S, 0, none⟩), .int .u32 (x : Int)] w' fun e w'' => e = .returned (.int .i64 (l : Int)) ∧ w'' = w' := fun h' => by rw [← hl, ← Mdl.lev_in o xm, ← Mdl.levI_node xn]; exact s_level h' x hx
    have KLow : ∀ {w' : World}, St w' S F0 M → Calls Tryz.prog 57 #[.pointer (some ⟨S, 0, none⟩), .int .u32 (x : Int)] w' fun e w'' => e = .returned (.int .u32 (lo : Int)) ∧ w'' = w' := fun h' => by rw [← hlo, ← Mdl.lowN_in o xm]; exact s_low h' x hx
    have KHigh : ∀ {w' : World}, St w' S F0 M → Calls Tryz.prog 58 #[.pointer (some ⟨S, 0, none⟩), .int .u32 (x : Int)] w' fun e w'' => e = .returned (.int .u32 (hi : Int)) ∧ w'' = w' := fun h' => by rw [← hhi, ← Mdl.highN_in o xm]; exact s_high h' x hx
    have hlov : M.isNode lo ∧ M.lev x < M.lev lo := by rw [← hlo]; exact ⟨(o.lo x xm).1, by rw [Mdl.lev_in o xm]; exact (o.lo x xm).2⟩
    have hhiv : M.isNode hi ∧ M.lev x < M.lev hi := by rw [← hhi]; exact ⟨(o.hi x xm).1, by rw [Mdl.lev_in o xm]; exact (o.hi x xm).2⟩
    rw [hl, hlo, hhi]
    obtain ⟨P, hP⟩ : ∃ P, 2 ^ M.v l = P := ⟨_, rfl⟩
    have P8 : P < 256 := by rw [← hP]; exact Nat.lt_of_le_of_lt (Nat.pow_le_pow_right (by omega) (show M.v l ≤ 7 by omega)) (by decide)
    have mP : m ||| P < 256 := Nat.or_lt_two_pow (n := 8) hm P8
    have qP : q ||| P < 256 := Nat.or_lt_two_pow (n := 8) hq P8
    have om : bits .or .u8 (m : Int) (P : Int) = ((m ||| P : Nat) : Int) := u8_or_nat _ _ hm P8
    have oq : bits .or .u8 (q : Int) (P : Int) = ((q ||| P : Nat) : Int) := u8_or_nat _ _ hq P8
    rw [hP]
    have sh : IntKind.u8.wrap (2 ^ M.v l) = (P : Int) := by
      have e : ((2 : Int) ^ M.v l) = (P : Int) := by rw [← hP]; push_cast; rfl
      rw [e, IntKind.wrap_u8]
      omega
    have dup : 2 ^ (d + 2) = 2 ^ (d + 1) + 2 ^ (d + 1) := by rw [Nat.pow_succ 2 (d + 1)]; omega
    have dup1 : 2 ^ (d + 1) = 2 ^ d + 2 ^ d := by rw [Nat.pow_succ]; omega
    have le1 := pathsN_le M d lo (m ||| P) q
    have KL : Aside (∀ {w' : World}, St w' S F0 M → w'.rowIs g 3 M.n (fun i => .int .i64 (M.v i : Int)) → B ≤ w'.heap.size → OwnP w' B ad ps cap → Calls Tryz.prog 49 #[.agg #[.pointer (some ⟨S, 0, none⟩), .slice (some ⟨g, 0, none⟩) M.n M.n], .int .u32 (lo : Int), .agg #[.int .u8 ((m ||| P : Nat) : Int), .int .u8 (q : Int)], .slice ad ps.length cap] w' (PathsC B w' ad (ps ++ pathsN M d lo (m ||| P) q))) := fun a b c e => ih xm a hlov.1 hlov.2 b c mP hq e (by omega)
    have KH : Aside (∀ {w' : World} {ad : Option Addr} {cap : Nat}, St w' S F0 M → w'.rowIs g 3 M.n (fun i => .int .i64 (M.v i : Int)) → B ≤ w'.heap.size → OwnP w' B ad (ps ++ pathsN M d lo (m ||| P) q) cap → Calls Tryz.prog 49 #[.agg #[.pointer (some ⟨S, 0, none⟩), .slice (some ⟨g, 0, none⟩) M.n M.n], .int .u32 (hi : Int), .agg #[.int .u8 ((m ||| P : Nat) : Int), .int .u8 ((q ||| P : Nat) : Int)], .slice ad (ps ++ pathsN M d lo (m ||| P) q).length cap] w' (PathsC B w' ad ((ps ++ pathsN M d lo (m ||| P) q) ++ pathsN M d hi (m ||| P) (q ||| P)))) := fun a b c e => ih xm a hhiv.1 hhiv.2 b c mP qP e (by rw [List.length_append]; omega)
    rw [← List.append_assoc]
    generalize (ps ++ pathsN M d lo (m ||| P) q) = ps1 at KL KH ⊢
    generalize (ps1 ++ pathsN M d hi (m ||| P) (q ||| P)) = ps2 at KH ⊢
    have hn : ¬ (x : Int) = 0 := by omega
    have hn1 : ¬ (x : Int) = 1 := by omega
    have hn' : ¬ x = 0 := by omega
    have hn1' : ¬ x = 1 := by omega
    have mv : min (M.v l) 8 = M.v l := by omega
    clear ih hl hlo hhi hlov hhiv le1 dup dup1 len hP h2
    go_enter Tryz.func49, Tryz.ntmps49
    go_upto_region 1 with fail
    generalize (w.alloc (.cells #[.pointer (some ⟨S, 0, none⟩), .slice (some ⟨g, 0, none⟩) M.n M.n] 94)).alloc (.cells #[.int .u8 (m : Int), .int .u8 (q : Int)] 49) = w4 at B0 TW TP own4 ⊢
    obtain ⟨b, hb⟩ : ∃ b, w.heap.size = b := ⟨_, rfl⟩
    have hbA : Aside (w.heap.size = b) := hb
    have bB : B ≤ b := hb ▸ hB
    have offP : ∀ k, b ≤ k → blockOf ad ≠ some k := fun k hk e => by have := (own.blockGe k e).2; omega
    have h4 := h.below B0
    have row4 := row.of_block (B0.block g row.lt)
    have B0A : Aside (Below w.heap.size w w4) := B0
    rw [hb] at TW TP ⊢
    have sz4 : b ≤ w4.heap.size := hb ▸ B0.size
    clear hb B0 own h row hB
    have cv : ∀ q, (w4.drewN q).cell? ⟨g, l, none⟩ = some (.int .i64 (M.v l : Int)) := fun q => row4.cell ln
    have d0 : ∀ q, (w4.drewN q).cell? ⟨b, 0, none⟩ = some (.pointer (some ⟨S, 0, none⟩)) := fun q => TW.c0
    have d1 : ∀ q, (w4.drewN q).cell? ⟨b, 1, none⟩ = some (.slice (some ⟨g, 0, none⟩) M.n M.n) := fun q => TW.c1
    have KQ : ∀ q, Calls Tryz.prog 56 #[.pointer (some ⟨S, 0, none⟩), .int .u32 (x : Int)] (w4.drewN q) fun e w' => e = .returned (.int .i64 (l : Int)) ∧ w' = w4.drewN q := fun q => KLev (h4.drewN q)
    go_upto_region 6 with fail
    have jn : (l : Int) < (M.n : Int) := by omega
    go_quiet ((go_at_call 56; exact Calls.quiet_of_same (KQ _)))
    have h5 := h4.drewN nq
    have TW5 : IsBk (w4.drewN nq) b S g M.n := TW
    have TP5 : Is2 49 (w4.drewN nq) (b + 1) (.int .u8 (m : Int)) (.int .u8 (q : Int)) := TP
    have row5 : (w4.drewN nq).rowIs g 3 M.n (fun i => .int .i64 (M.v i : Int)) := row4
    have own5 : OwnP (w4.drewN nq) B ad ps cap := own4
    have sz5 : b ≤ (w4.drewN nq).heap.size := sz4
    have B5 : Aside (Below w.heap.size w (w4.drewN nq)) := ⟨B0A.out.os, B0A.out.tape, B0A.out.output, B0A.out.size, B0A.out.block⟩
    clear KQ cv d1 d0 KLev h4 TW TP row4 own4 sz4 B0A jn
    generalize w4.drewN nq = w5 at h5 TW5 TP5 row5 own5 sz5 B5 ⊢
    have p0 := TP5.c0
    have f0 := TP5.free 0
    go_upto_region 8 with fail
    have TP6 := TP5.set0 (.int .u8 ((m ||| P : Nat) : Int))
    have TW6 : IsBk _ b S g M.n := Is2.other (c := ⟨b + 1, 0, none⟩) TW5 (by show b ≠ b + 1; omega) (.int .u8 ((m ||| P : Nat) : Int))
    have h6 := h5.kept (w' := w5.setCell ⟨b + 1, 0, none⟩ (.int .u8 ((m ||| P : Nat) : Int))) fun k hk => Below.heap_setCell _ _ _ _ (by have := hF k hk; show k ≠ b + 1; omega)
    have row6 := row5.setOther (a := ⟨b + 1, 0, none⟩) (by show g ≠ b + 1; omega) (.int .u8 ((m ||| P : Nat) : Int))
    have own6 := own5.set (offP (b + 1) (by omega)) 0 (.int .u8 ((m ||| P : Nat) : Int))
    have B6 : Aside (Below w.heap.size w (w5.setCell ⟨b + 1, 0, none⟩ (.int .u8 ((m ||| P : Nat) : Int)))) := B5.out.setCell (by have := hbA.out; show w.heap.size ≤ b + 1; omega) _
    have sz6 : b ≤ (w5.setCell ⟨b + 1, 0, none⟩ (.int .u8 ((m ||| P : Nat) : Int))).heap.size := by have := TW6.lt; omega
    clear h5 TW5 TP5 row5 own5 sz5 B5 p0 f0
    generalize w5.setCell ⟨b + 1, 0, none⟩ (.int .u8 ((m ||| P : Nat) : Int)) = w6 at TP6 TW6 h6 row6 own6 B6 sz6 ⊢
    have C6 : w6.drew.cell? ⟨b, 0, none⟩ = some (.pointer (some ⟨S, 0, none⟩)) ∧ w6.drew.cell? ⟨b, 1, none⟩ = some (.slice (some ⟨g, 0, none⟩) M.n M.n) ∧ w6.drew.cell? ⟨b + 1, 0, none⟩ = some (.int .u8 ((m ||| P : Nat) : Int)) ∧ w6.drew.cell? ⟨b + 1, 1, none⟩ = some (.int .u8 (q : Int)) := ⟨TW6.c0, TW6.c1, TP6.c0, TP6.c1⟩
    have Ka := KLow h6.drew
    have Kb := KL.out h6.drew row6 (show B ≤ w6.drew.heap.size from Nat.le_trans bB sz6) own6.drew
    go_region_held3 (fun u => u.cell? ⟨b, 0, none⟩ = some (.pointer (some ⟨S, 0, none⟩)) ∧ u.cell? ⟨b, 1, none⟩ = some (.slice (some ⟨g, 0, none⟩) M.n M.n) ∧ u.cell? ⟨b + 1, 0, none⟩ = some (.int .u8 ((m ||| P : Nat) : Int)) ∧ u.cell? ⟨b + 1, 1, none⟩ = some (.int .u8 (q : Int))) (first | assumption) (first
      | (go_at_call 57; refine Ka.mono ?_; clear Ka; rintro e w7 ⟨rfl, e7⟩; subst w7)
      | (go_at_call 49; refine Kb.mono ?_; clear Kb; rintro e w8 ⟨ad8, cap8, rfl, o8, a8⟩; have TW8 : IsBk w8 b S g M.n := (a8.block b TW6.lt (offP b (Nat.le_refl _))).trans TW6; have TP8 : Is2 49 w8 (b + 1) (.int .u8 ((m ||| P : Nat) : Int)) (.int .u8 (q : Int)) := (a8.block (b + 1) TP6.lt (offP (b + 1) (by omega))).trans TP6; have C8 : w8.cell? ⟨b, 0, none⟩ = some (.pointer (some ⟨S, 0, none⟩)) ∧ w8.cell? ⟨b, 1, none⟩ = some (.slice (some ⟨g, 0, none⟩) M.n M.n) ∧ w8.cell? ⟨b + 1, 0, none⟩ = some (.int .u8 ((m ||| P : Nat) : Int)) ∧ w8.cell? ⟨b + 1, 1, none⟩ = some (.int .u8 (q : Int)) := ⟨TW8.c0, TW8.c1, TP8.c0, TP8.c1⟩))
    have bel8 := a8.below (B := B) (show B ≤ w6.drew.heap.size from Nat.le_trans bB sz6) (fun k e => (own6.blockGe k e).1)
    have h8 : St w8 S F0 M := h6.drew.kept fun k hk => bel8.block k (hF k hk)
    have row8 : w8.rowIs g 3 M.n (fun i => .int .i64 (M.v i : Int)) := row6.of_block (bel8.block g hg)
    have sz8 : b ≤ w8.heap.size := by have := TW8.lt; omega
    have A8 : Aside (Apd w w8 ad ad8) := (Apd.of_below B6.out.drew ad).trans a8
    have off8 : ∀ k, k = b ∨ k = b + 1 → blockOf ad8 ≠ some k := fun k hk e => by
      have l1 := TW6.lt
      have l2 := TP6.lt
      rcases a8.place k e with e' | e'
      · exact offP k (by omega) e'
      · have e'' : w6.heap.size ≤ k := e'
        omega
    have t0 := TP8.c1
    have t1 := TP8.free 1
    clear C8 C6 h6 row6 own6 B6 sz6 TW6 TP6 bel8 a8 offP
    go_upto_region 10 with fail
    have TP9 := TP8.set1 (.int .u8 ((q ||| P : Nat) : Int))
    have TW9 : IsBk _ b S g M.n := Is2.other (c := ⟨b + 1, 1, none⟩) TW8 (by show b ≠ b + 1; omega) (.int .u8 ((q ||| P : Nat) : Int))
    have h9 := h8.kept (w' := w8.setCell ⟨b + 1, 1, none⟩ (.int .u8 ((q ||| P : Nat) : Int))) fun k hk => Below.heap_setCell _ _ _ _ (by have := hF k hk; show k ≠ b + 1; omega)
    have row9 := row8.setOther (a := ⟨b + 1, 1, none⟩) (by show g ≠ b + 1; omega) (.int .u8 ((q ||| P : Nat) : Int))
    have own9 := o8.set (off8 (b + 1) (.inr rfl)) 1 (.int .u8 ((q ||| P : Nat) : Int))
    have A9 : Aside (Apd w (w8.setCell ⟨b + 1, 1, none⟩ (.int .u8 ((q ||| P : Nat) : Int))) ad ad8) := by
      have a := A8.out
      have e := hbA.out
      exact ⟨a.os, a.tape, a.output, Nat.le_trans a.size (by simp [World.setCell]), fun k hk hn => (Below.heap_setCell _ _ _ _ (by show k ≠ b + 1; omega)).trans (a.block k hk hn), a.place⟩
    have sz9 : b ≤ (w8.setCell ⟨b + 1, 1, none⟩ (.int .u8 ((q ||| P : Nat) : Int))).heap.size := by have := TW9.lt; omega
    clear h8 TW8 TP8 row8 o8 sz8 A8 t0 t1
    generalize w8.setCell ⟨b + 1, 1, none⟩ (.int .u8 ((q ||| P : Nat) : Int)) = w9 at TP9 TW9 h9 row9 own9 A9 sz9 ⊢
    have C9 : w9.drew.cell? ⟨b, 0, none⟩ = some (.pointer (some ⟨S, 0, none⟩)) ∧ w9.drew.cell? ⟨b, 1, none⟩ = some (.slice (some ⟨g, 0, none⟩) M.n M.n) ∧ w9.drew.cell? ⟨b + 1, 0, none⟩ = some (.int .u8 ((m ||| P : Nat) : Int)) ∧ w9.drew.cell? ⟨b + 1, 1, none⟩ = some (.int .u8 ((q ||| P : Nat) : Int)) := ⟨TW9.c0, TW9.c1, TP9.c0, TP9.c1⟩
    have Ka := KHigh h9.drew
    have Kb := KH.out h9.drew row9 (show B ≤ w9.drew.heap.size from Nat.le_trans bB sz9) own9.drew
    go_region_held3 (fun u => u.cell? ⟨b, 0, none⟩ = some (.pointer (some ⟨S, 0, none⟩)) ∧ u.cell? ⟨b, 1, none⟩ = some (.slice (some ⟨g, 0, none⟩) M.n M.n) ∧ u.cell? ⟨b + 1, 0, none⟩ = some (.int .u8 ((m ||| P : Nat) : Int)) ∧ u.cell? ⟨b + 1, 1, none⟩ = some (.int .u8 ((q ||| P : Nat) : Int))) (first | assumption) (first
      | (go_at_call 58; refine Ka.mono ?_; clear Ka; rintro e w10 ⟨rfl, e10⟩; subst w10)
      | (go_at_call 49; refine Kb.mono ?_; clear Kb; rintro e w11 ⟨ad11, cap11, rfl, o11, a11⟩; have TW11 : IsBk w11 b S g M.n := (a11.block b TW9.lt (off8 b (.inl rfl))).trans TW9; have TP11 : Is2 49 w11 (b + 1) (.int .u8 ((m ||| P : Nat) : Int)) (.int .u8 ((q ||| P : Nat) : Int)) := (a11.block (b + 1) TP9.lt (off8 (b + 1) (.inr rfl))).trans TP9; have C11 : w11.cell? ⟨b, 0, none⟩ = some (.pointer (some ⟨S, 0, none⟩)) ∧ w11.cell? ⟨b, 1, none⟩ = some (.slice (some ⟨g, 0, none⟩) M.n M.n) ∧ w11.cell? ⟨b + 1, 0, none⟩ = some (.int .u8 ((m ||| P : Nat) : Int)) ∧ w11.cell? ⟨b + 1, 1, none⟩ = some (.int .u8 ((q ||| P : Nat) : Int)) := ⟨TW11.c0, TW11.c1, TP11.c0, TP11.c1⟩))
    go_wp2_with fail
    go_ret
    have e9 : Apd w w9.drew ad ad8 := ⟨A9.out.os, A9.out.tape, A9.out.output, A9.out.size, A9.out.block, A9.out.place⟩
    exact ⟨ad11, cap11, rfl, o11, e9.trans a11⟩
theorem paths_any (d : Nat) : ∀ {w : World} {S B : Nat} {F0 : Nat → Prop} {M : Mdl} {x g m q : Nat} {ad : Option Addr} {ps : List (Nat × Nat)} {cap : Nat}, St w S F0 M → M.isNode x → M.n - M.lev x ≤ d → w.rowIs g 3 M.n (fun i => .int .i64 (M.v i : Int)) →
    (∀ k, F0 k → k < B) → g < B → B ≤ w.heap.size → m < 256 → q < 256 → OwnP w B ad ps cap → ps.length + 2 ^ (d + 1) ≤ 2000 →
    Calls Tryz.prog 49 #[wkv S g M.n, .int .u32 (x : Int), .agg #[.int .u8 (m : Int), .int .u8 (q : Int)], .slice ad ps.length cap] w (PathsC B w ad (ps ++ pathsN M d x m q)) := by
  induction d with
  | zero =>
    intro w S B F0 M x g m q ad ps cap h xn hf row hF hg hB hm hq own len
    have x2 : x < 2 := by
      rcases xn with c | c
      · exact c
      · have := h.ok.lv x c
        rw [Mdl.lev_in h.ok c] at hf
        omega
    have e : pathsN M 0 x m q = pathsN M (0 + 1) x m q := by
      have h01 : x = 0 ∨ x = 1 := by omega
      rcases h01 with rfl | rfl
      · rw [pathsN_zero, pathsN_zero]
      · rw [pathsN_one, pathsN_one]
    rw [e]
    refine paths_step h xn row hF hg hB hm hq own ⟨by omega, fun n2 => absurd x2 n2⟩ fun xm => ?_
    have := h.ok.lv x xm
    rw [Mdl.lev_in h.ok xm] at hf
    omega
  | succ d ih =>
    intro w S B F0 M x g m q ad ps cap h xn hf row hF hg hB hm hq own len
    refine paths_step h xn row hF hg hB hm hq own ⟨Nat.le_trans (Nat.le_add_right _ _) len, fun _ => len⟩ fun xm => ?_
    intro w' y m q ad ps cap h' yn hy r' hB' hm' hq' own' len'
    exact ih h' yn (by have := Mdl.lev_le h.ok yn; omega) r' hF hg hB' hm' hq' own' len'
/-- The paths to 1 from a node. -/
def pathsL (M : Mdl) (x : Nat) : List (Nat × Nat) := pathsN M M.n x 0 0
theorem OwnP.mono {w : World} {B B' : Nat} {ad : Option Addr} {ps : List (Nat × Nat)} {cap : Nat} (h : OwnP w B ad ps cap) (hB : B' ≤ B) : OwnP w B' ad ps cap := by
  obtain ⟨h1, h2⟩ := h
  refine ⟨h1, ?_⟩
  rcases h2 with h2 | ⟨g, cap', cur, hv, hb, hh, r⟩
  · exact .inl h2
  · exact .inr ⟨g, cap', cur, hv, Nat.le_trans hB hb, hh, r⟩
section
variable {w : World} {S : Nat} {F0 : Nat → Prop} {M : Mdl}
theorem cubes_op (h : St w S F0 M) {x : Nat} (xn : M.isNode x) :
    Calls Tryz.prog 15 #[.pointer (some ⟨S, 0, none⟩), .int .u32 (x : Int)] w fun e w' => ∃ ad cap, e = .returned (.tuple #[.slice ad (pathsL M x).length cap, .int .i64 0]) ∧ OwnP w' w.heap.size ad (pathsL M x) cap ∧ Below w.heap.size w w' := by
  have xb := Mdl.isNode_lt h.ok xn
  have n8 := h.ok.le8
  have K1 : Calls Tryz.prog 47 #[.pointer (some ⟨S, 0, none⟩), .int .u32 (x : Int)] _ _ := s_is h x (by omega)
  rw [Mdl.nodeB_true xn] at K1
  have K2 := start_any h
  have KP : Aside (∀ u g, Below w.heap.size w u → u.rowIs g 3 M.n (fun i => .int .i64 (M.v i : Int)) → Calls Tryz.prog 49 #[wkv S g M.n, .int .u32 (x : Int), .agg #[.int .u8 0, .int .u8 0], .slice none 0 0] u (PathsC u.heap.size u none (pathsL M x))) := fun u g k r => by
    have p : 2 ^ (M.n + 1) ≤ 2 ^ 9 := Nat.pow_le_pow_right (by omega) (by omega)
    exact paths_any (m := 0) (q := 0) (ps := []) M.n (h.below k) xn (by omega) r (fun k' hk' => by have := (h.below k).lt k' hk'; omega) r.lt (Nat.le_refl _) (by omega) (by omega) (OwnP.nil u u.heap.size) (by simp only [List.length_nil]; omega)
  clear xb
  go_enter Tryz.func15, Tryz.ntmps15
  go_wp2_with (first
    | (go_at_call 47; refine K1.mono ?_; clear K1; rintro e w5 ⟨rfl, e5⟩; subst w5)
    | (go_at_call 44; refine K2.mono ?_; clear K2; rintro e w5 ⟨g, rfl, r5, b5, g5⟩; have K3 := KP.out w5 g b5 r5)
    | (go_at_call 49; refine K3.mono ?_; clear K3; rintro e w6 ⟨ad6, cap6, rfl, o6, a6⟩))
  go_ret2
  exact ⟨ad6, cap6, rfl, o6.mono b5.size, Rf.below_far b5 (a6.below (Nat.le_refl _) fun k e => by simp [blockOf] at e)⟩
theorem cubes_bad (h : St w S F0 M) {x : Nat} (hx : x < 4294967296) (xn : ¬ M.isNode x) :
    Calls Tryz.prog 15 #[.pointer (some ⟨S, 0, none⟩), .int .u32 (x : Int)] w fun e w' => e = .returned (.tuple #[.slice none 0 0, .int .i64 101]) ∧ w' = w := by
  have K1 : Calls Tryz.prog 47 #[.pointer (some ⟨S, 0, none⟩), .int .u32 (x : Int)] _ _ := s_is h x hx
  rw [Mdl.nodeB_false xn] at K1
  go_enter Tryz.func15, Tryz.ntmps15
  go_wp2_with (first
    | (go_at_call 47; refine K1.mono ?_; clear K1; rintro e w5 ⟨rfl, e5⟩; subst w5))
  go_ret2
  exact ⟨rfl, rfl⟩
end
end Go.Proofs.YtfaccdnnjkkcfaaGreatDoor
