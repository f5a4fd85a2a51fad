/-
  Package quant: the walk, over whatever joins the halves.
-/
import Derived.Test.YtlhanbjjlifjjaaGreatQtW
import Derived.Deep.RegionHeld3
import Derived.BigQuiet
namespace Go.Proofs.YtlhanbjjlifjjaaGreat
open Go Go.RowKit
open Rf (fixAt fixF)

/-- A walk as a value. -/
def cutV (S o z f : Nat) : Value := .agg #[.pointer (some ⟨S, 0, none⟩), .int .u8 (o : Int), .int .u8 (z : Int), .func (.func f) #[] #[]]
/-- A block that holds one. -/
def IsC (w : World) (g S o z f : Nat) : Prop := w.heap[g]? = some (.cells #[.pointer (some ⟨S, 0, none⟩), .int .u8 (o : Int), .int .u8 (z : Int), .func (.func f) #[] #[]] 90 (0, 0))
/-- What the walk leaves. -/
def LeftQ (S : Nat) (F0 : Nat → Prop) (w : World) (M : Mdl) (k h : Nat) (X : Nat → Bool) (e : Ending) (w' : World) : Prop :=
  ∃ (x : Nat) (er : Int) (M' : Mdl) (F' : Nat → Prop), e = .returned (.tuple #[.int .u32 (x : Int), .int .i64 er]) ∧ ToldQ M k X x er M' ∧ (h < 2 → x = h ∧ er = 0) ∧ St w' S F' M' ∧ Wf F0 F' w w'
def HalfL (S : Nat) (F0 : Nat → Prop) (w : World) (M : Mdl) (L : Nat) (X0 X1 : Nat → Bool) (e : Ending) (w' : World) : Prop :=
  ∃ (p q : Nat) (er : Int) (M' : Mdl) (F' : Nat → Prop), e = .returned (.tuple #[.int .u32 (p : Int), .int .u32 (q : Int), .int .i64 er]) ∧ ((er = 0 ∧ Pr2 M L X0 X1 p q M') ∨ (er = 60 ∧ StuckQ M L M')) ∧ St w' S F' M' ∧ Wf F0 F' w w'
section
variable {w : World} {S : Nat} {F0 : Nat → Prop} {M : Mdl} {g o z f h m nv : Nat} {J : Nat → Bool → Bool → Bool} {Q : (Nat → Bool) → Nat → Bool}
theorem IsC.cells (i : IsC w g S o z f) : w.cell? ⟨g, 0, none⟩ = some (.pointer (some ⟨S, 0, none⟩)) ∧ w.cell? ⟨g, 1, none⟩ = some (.int .u8 (o : Int)) ∧ w.cell? ⟨g, 2, none⟩ = some (.int .u8 (z : Int)) ∧ w.cell? ⟨g, 3, none⟩ = some (.func (.func f) #[] #[]) := by
  unfold IsC at i
  refine ⟨?_, ?_, ?_, ?_⟩ <;> simp [World.cell?, i]
theorem IsC.new (w : World) (S o z f : Nat) : IsC (w.alloc (.cells #[.pointer (some ⟨S, 0, none⟩), .int .u8 (o : Int), .int .u8 (z : Int), .func (.func f) #[] #[]] 90)) w.heap.size S o z f := Go.Deep.blk_alloc_new _ _
theorem IsC.lt (i : IsC w g S o z f) : g < w.heap.size := (Array.getElem?_eq_some_iff.1 i).1
theorem IsC.below {w' : World} (i : IsC w g S o z f) (k : Below w.heap.size w w') : IsC w' g S o z f := (k.block _ i.lt).trans i
theorem IsC.wf {w' : World} {F' : Nat → Prop} (i : IsC w g S o z f) (s : St w S F0 M) (k : Wf F0 F' w w') : IsC w' g S o z f := (k.block _ i.lt (s.row i (by decide))).trans i
/-- What the walk comes to, from a level on. -/
def WalkAt (Q : (Nat → Bool) → Nat → Bool) (S o z f m nv n L : Nat) : Prop := ∀ (w : World) (F0 : Nat → Prop) (M : Mdl) (x : Nat), M.n = n → St w S F0 M → ByLev M m o → ByLev M nv z → M.isNode x → L ≤ M.lev x → Calls Tryz.prog 70 #[cutV S o z f, .int .u32 (x : Int)] w (LeftQ S F0 w M L x (Q (M.tbl x)))
/-- What a joiner comes to. -/
def JoinAt (Q : (Nat → Bool) → Nat → Bool) (S o z f m nv n : Nat) : Prop := ∀ L, L < n → WalkAt Q S o z f m nv n (L + 1) → ∀ (w : World) (F0 : Nat → Prop) (M : Mdl) (h : Nat), M.n = n → St w S F0 M → ByLev M m o → ByLev M nv z → h ∈ M.hs → (M.nd h).1 = L → m.testBit (M.v L) = true → Calls Tryz.prog f #[cutV S o z f, .int .u32 (h : Int)] w (LeftQ S F0 w M L h (Q (M.tbl h)))
theorem lo_any (s : St w S F0 M) (hm : h ∈ M.hs) : Calls Tryz.prog 51 #[.pointer (some ⟨S, 0, none⟩), .int .u32 (h : Int)] w fun e w' => e = .returned (.int .u32 ((M.nd h).2.1 : Int)) ∧ w' = w := by
  have := s_low s h (by have := Mdl.isNode_lt s.ok (.inr hm : M.isNode h); omega)
  rwa [Mdl.lowN_in s.ok hm] at this
theorem hi_any (s : St w S F0 M) (hm : h ∈ M.hs) : Calls Tryz.prog 52 #[.pointer (some ⟨S, 0, none⟩), .int .u32 (h : Int)] w fun e w' => e = .returned (.int .u32 ((M.nd h).2.2 : Int)) ∧ w' = w := by
  have := s_high s h (by have := Mdl.isNode_lt s.ok (.inr hm : M.isNode h); omega)
  rwa [Mdl.highN_in s.ok hm] at this
set_option maxRecDepth 100000 in
set_option maxHeartbeats 2000000 in
theorem halves_any {n L : Nat} (ih : WalkAt Q S o z f m nv n (L + 1)) (en : M.n = n) (s : St w S F0 M) (bo : ByLev M m o) (bz : ByLev M nv z) (hm : h ∈ M.hs) (hL : (M.nd h).1 = L) :
    Calls Tryz.prog 71 #[cutV S o z f, .int .u32 (h : Int)] w (HalfL S F0 w M L (Q (M.tbl (M.nd h).2.1)) (Q (M.tbl (M.nd h).2.2))) := by
  have ok := s.ok
  obtain ⟨la, lA⟩ := ok.lo h hm
  obtain ⟨lb, lB⟩ := ok.hi h hm
  rw [hL] at lA lB
  have Kl : Aside (∀ {u : World}, St u S F0 M → Calls Tryz.prog 51 #[.pointer (some ⟨S, 0, none⟩), .int .u32 (h : Int)] u fun e w' => e = .returned (.int .u32 ((M.nd h).2.1 : Int)) ∧ w' = u) := fun {u} su => lo_any su hm
  have Kh : Aside (∀ {u : World} {F' : Nat → Prop} {M' : Mdl}, Mdl.Grew M M' → St u S F' M' → Calls Tryz.prog 52 #[.pointer (some ⟨S, 0, none⟩), .int .u32 (h : Int)] u fun e w' => e = .returned (.int .u32 ((M.nd h).2.2 : Int)) ∧ w' = u) := fun {u F' M'} gr su => by
    have := hi_any su (gr.keep h hm).1
    rwa [(gr.keep h hm).2] at this
  have W0 : Aside (∀ {u : World}, St u S F0 M → Calls Tryz.prog 70 #[cutV S o z f, .int .u32 ((M.nd h).2.1 : Int)] u (LeftQ S F0 u M (L + 1) (M.nd h).2.1 (Q (M.tbl (M.nd h).2.1)))) := fun {u} su => ih u F0 M _ en su bo bz la lA
  have W1 : Aside (∀ {u : World} {F' : Nat → Prop} {M' : Mdl}, Mdl.Grew M M' → St u S F' M' → Calls Tryz.prog 70 #[cutV S o z f, .int .u32 ((M.nd h).2.2 : Int)] u (LeftQ S F' u M' (L + 1) (M.nd h).2.2 (Q (M.tbl (M.nd h).2.2)))) := fun {u F' M'} gr su => by
    have := ih u F' M' _ (gr.n.trans en) su (bo.grew gr) (bz.grew gr) (gr.isNode lb) (by rw [gr.lev lb]; exact lB)
    rwa [show M'.tbl (M.nd h).2.2 = M.tbl (M.nd h).2.2 from funext fun y => gr.tbl ok lb y] at this
  generalize (M.nd h).2.1 = a at Kl W0
  generalize (M.nd h).2.2 = b at Kh W1
  generalize Q (M.tbl a) = X0 at W0
  generalize Q (M.tbl b) = X1 at W1
  clear ih la lA lb lB bo bz hL hm
  unfold cutV
  unfold cutV at W0 W1
  go_enter Tryz.func71, Tryz.ntmps71
  go_upto_region 1 with fail
  have i4 := IsC.new w S o z f
  have B4 := nb w (.cells #[.pointer (some ⟨S, 0, none⟩), .int .u8 (o : Int), .int .u8 (z : Int), .func (.func f) #[] #[]] 90)
  have s4 := s.below B4
  generalize w.alloc (.cells #[.pointer (some ⟨S, 0, none⟩), .int .u8 (o : Int), .int .u8 (z : Int), .func (.func f) #[] #[]] 90) = w4 at i4 B4 s4 ⊢
  obtain ⟨g, hg⟩ : ∃ g, w.heap.size = g := ⟨_, rfl⟩
  have B4A : Aside (Below w.heap.size w w4) := B4
  rw [hg] at i4 ⊢
  clear hg B4 s
  have C4 := i4.cells
  have i4d : IsC w4.drew g S o z f := i4
  have s4d := s4.drew
  have K1 := Kl.out s4d
  have K2 := W0.out s4d
  go_region_held3 (fun u => u.cell? ⟨g, 0, none⟩ = some (.pointer (some ⟨S, 0, none⟩)) ∧ u.cell? ⟨g, 1, none⟩ = some (.int .u8 (o : Int)) ∧ u.cell? ⟨g, 2, none⟩ = some (.int .u8 (z : Int)) ∧ u.cell? ⟨g, 3, none⟩ = some (.func (.func f) #[] #[])) (first | assumption | exact C4) (first
    | (go_at_call 51; refine K1.mono ?_; clear K1; rintro e w5 ⟨rfl, e5⟩; subst w5)
    | (go_at_call 70; refine K2.mono ?_; clear K2; rintro e w8 ⟨p, er, M8, F8, rfl, t8, c8, s8, b8⟩; have i8 := i4d.wf s4d b8; have C8 := i8.cells))
  have B8 : Aside (Wf F0 F8 w w8) := (Wf.of_below B4A.out.drew F0).trans b8
  clear c8 b8 i4 i4d s4 s4d C4 Kl W0 B4A
  rcases t8 with ⟨rfl, g8⟩ | ⟨rfl, rfl, g8⟩
  rotate_left
  · have t : Aside (StuckQ M L M8) := g8.raise (Nat.le_succ L)
    clear g8 C8 i8 Kh W1
    go_wp2_with fail
    go_ret3
    exact ⟨_, _, _, M8, F8, rfl, .inr ⟨rfl, t.out⟩, s8, B8.out⟩
  · have gA : Aside (GotQ M (L + 1) X0 p M8) := g8
    have i8d : IsC w8.drew g S o z f := i8
    have s8d := s8.drew
    have K1 := Kh.out g8.grew s8d
    have K2 := W1.out g8.grew s8d
    have o8 : Aside M8.Ok := s8.ok
    clear g8 Kh W1
    go_upto_region 4 with fail
    go_region_held3 (fun u => u.cell? ⟨g, 0, none⟩ = some (.pointer (some ⟨S, 0, none⟩)) ∧ u.cell? ⟨g, 1, none⟩ = some (.int .u8 (o : Int)) ∧ u.cell? ⟨g, 2, none⟩ = some (.int .u8 (z : Int)) ∧ u.cell? ⟨g, 3, none⟩ = some (.func (.func f) #[] #[])) (first | assumption | exact C8) (first
      | (go_at_call 52; refine K1.mono ?_; clear K1; rintro e w5 ⟨rfl, e5⟩; subst w5)
      | (go_at_call 70; refine K2.mono ?_; clear K2; rintro e w9 ⟨q, er, M9, F9, rfl, t9, c9, s9, b9⟩; have i9 := i8d.wf s8d b9; have C9 := i9.cells))
    have B9 : Aside (Wf F0 F9 w w9) := (B8.out.trans ((Wf.refl F8 w8).drew)).trans b9
    clear c9 b9 i8 i8d s8 s8d C8 C9 i9 B8
    rcases t9 with ⟨rfl, g9⟩ | ⟨rfl, rfl, g9⟩
    rotate_left
    · have t : Aside (StuckQ M L M9) := StuckQ.high gA.out g9
      clear g9
      go_wp2_with fail
      go_ret3
      exact ⟨_, _, _, M9, F9, rfl, .inr ⟨rfl, t.out⟩, s9, B9.out⟩
    · have t : Aside (Pr2 M L X0 X1 p q M9) := gA.out.pair o8.out g9
      clear g9
      go_wp2_with fail
      go_ret3
      exact ⟨p, q, 0, M9, F9, rfl, .inl ⟨rfl, t.out⟩, s9, B9.out⟩
set_option maxHeartbeats 1000000 in
theorem answer_k {a b c k f : Nat} {R : Nat → Nat → Nat → Option Nat} {op : Bool → Bool → Bool → Bool} (r : IsRule R op) (rl : Rl f R) (hf : ∀ (vs : Array Value) (w : World), (callFunc f vs).run Tryz.prog w = .ok (.enter f vs) w) (s : St w S F0 M) (ha : M.isNode a ∧ k ≤ M.lev a) (hb : M.isNode b ∧ k ≤ M.lev b) (hc : M.isNode c ∧ k ≤ M.lev c) :
    Calls Tryz.prog 55 #[.pointer (some ⟨S, 0, none⟩), arg3 a b c, fv f] w (Left S F0 w M k (ans M op a b c)) := by
  have o := s.ok
  have Ki : Aside (∀ {u : World}, St u S F0 M → ∀ (z : Nat), M.isNode z → Calls Tryz.prog 53 #[.pointer (some ⟨S, 0, none⟩), .int .u32 (z : Int)] u fun e w' => e = .returned (.bool true) ∧ w' = u) := fun {u} su z hz => by
    have := s_is su z (by have := Mdl.isNode_lt o hz; omega)
    rwa [Mdl.nodeB_true hz] at this
  have Kw : Aside (∀ {u : World}, St u S F0 M → Calls Tryz.prog 76 #[.pointer (some ⟨S, 0, none⟩), arg3 a b c, fv f] u (Left S F0 u M k (ans M op a b c))) := fun {u} su => lwalk_any r rl hf _ (Nat.le_refl _) su ha hb hc
  conv in #[Value.pointer (some ⟨S, 0, none⟩), arg3 a b c, fv f] => unfold arg3
  have na := ha.1
  have nb2 := hb.1
  have nc := hc.1
  clear ha hb hc
  go_enter Tryz.func55, Tryz.ntmps55
  go_upto_region 1 with fail
  have i4 := IsA.new w a b c
  have B4 := nb w (.cells #[.int .u32 (a : Int), .int .u32 (b : Int), .int .u32 (c : Int)] 102)
  have s4 := s.below B4
  generalize w.alloc (.cells #[.int .u32 (a : Int), .int .u32 (b : Int), .int .u32 (c : Int)] 102) = w4 at i4 B4 s4 ⊢
  have B4A : Aside (Below w.heap.size w w4) := B4
  generalize w.heap.size = g at i4 ⊢
  obtain ⟨x0, x1, x2⟩ := i4.cells
  have K1 := fun z hz => Ki.out s4 z hz
  have K2 := Kw.out s4
  unfold arg3 at K2
  clear Ki Kw B4 s i4
  go_wp2_with (first
    | (go_at_call 53; refine (K1 _ (by assumption)).mono ?_; rintro e w5 ⟨rfl, e5⟩; subst w5)
    | (go_at_call 76; refine K2.mono ?_; clear K2; rintro e w8 ⟨p, er, M8, F8, rfl, t8, s8, b8⟩; have t8A : Aside (Told M k (ans M op a b c) p er M8) := t8; clear t8))
  go_ret2
  exact ⟨p, er, M8, F8, rfl, t8A.out, s8, (Wf.of_below B4A.out F0).trans b8⟩
theorem or_k {a b k : Nat} (s : St w S F0 M) (ha : M.isNode a ∧ k ≤ M.lev a) (hb : M.isNode b ∧ k ≤ M.lev b) :
    Calls Tryz.prog 23 #[.pointer (some ⟨S, 0, none⟩), .int .u32 (a : Int), .int .u32 (b : Int)] w (Left S F0 w M k (ans M oOr a b 0)) := by
  have K := answer_k (a := a) (b := b) (c := 0) rule_or or_rl call_or s ha hb ⟨.inl (by omega), by rw [Mdl.lev_const (by omega)]; exact Nat.le_trans ha.2 (Mdl.lev_le s.ok ha.1)⟩
  unfold arg3 fv at K
  go_enter Tryz.func23, Tryz.ntmps23
  go_wp2_with (first
    | (go_at_call 55; refine K.mono ?_; clear K; rintro e w8 ⟨p, er, M8, F8, rfl, t8, s8, b8⟩; have t8A : Aside (Told M k (ans M oOr a b 0) p er M8) := t8; clear t8))
  go_ret2
  exact ⟨p, er, M8, F8, rfl, t8A.out, s8, b8⟩
theorem and_k {a b k : Nat} (s : St w S F0 M) (ha : M.isNode a ∧ k ≤ M.lev a) (hb : M.isNode b ∧ k ≤ M.lev b) :
    Calls Tryz.prog 24 #[.pointer (some ⟨S, 0, none⟩), .int .u32 (a : Int), .int .u32 (b : Int)] w (Left S F0 w M k (ans M oAnd a b 0)) := by
  have K := answer_k (a := a) (b := b) (c := 0) rule_and and_rl call_and s ha hb ⟨.inl (by omega), by rw [Mdl.lev_const (by omega)]; exact Nat.le_trans ha.2 (Mdl.lev_le s.ok ha.1)⟩
  unfold arg3 fv at K
  go_enter Tryz.func24, Tryz.ntmps24
  go_wp2_with (first
    | (go_at_call 55; refine K.mono ?_; clear K; rintro e w8 ⟨p, er, M8, F8, rfl, t8, s8, b8⟩; have t8A : Aside (Told M k (ans M oAnd a b 0) p er M8) := t8; clear t8))
  go_ret2
  exact ⟨p, er, M8, F8, rfl, t8A.out, s8, b8⟩
set_option maxRecDepth 100000 in
set_option maxHeartbeats 2000000 in
theorem either_join (S o z m nv n : Nat) : JoinAt (exQ m) S o z 43 m nv n := by
  intro L hLn ih w F0 M h en s bo bz hm hL hbit
  have ok := s.ok
  have hLM : L < M.n := by omega
  have KH := halves_any ih en (s.below (nb w (.cells #[.pointer (some ⟨S, 0, none⟩), .int .u8 (o : Int), .int .u8 (z : Int), .func (.func 43) #[] #[]] 90))) bo bz hm hL
  have e : Aside (Eqt (exQ m (M.tbl h)) (fun y => jEx (M.v L) (exQ m (M.tbl (M.nd h).2.1) y) (exQ m (M.tbl (M.nd h).2.2) y))) := (ex_is m).at ok hm hL hbit
  have h2 : Aside (¬ h < 2) := by have := (ok.range h hm).1; show ¬ _; omega
  generalize exQ m (M.tbl (M.nd h).2.1) = X0 at KH e
  generalize exQ m (M.tbl (M.nd h).2.2) = X1 at KH e
  generalize exQ m (M.tbl h) = X at e
  clear ih bo bz hm hL hbit hLM
  unfold cutV
  unfold cutV at KH
  go_enter Tryz.func43, Tryz.ntmps43
  go_upto_region 1 with fail
  have i4 := IsC.new w S o z 43
  have B4 := nb w (.cells #[.pointer (some ⟨S, 0, none⟩), .int .u8 (o : Int), .int .u8 (z : Int), .func (.func 43) #[] #[]] 90)
  have s4 := s.below B4
  generalize w.alloc (.cells #[.pointer (some ⟨S, 0, none⟩), .int .u8 (o : Int), .int .u8 (z : Int), .func (.func 43) #[] #[]] 90) = w4 at i4 B4 s4 KH ⊢
  obtain ⟨g, hg⟩ : ∃ g, w.heap.size = g := ⟨_, rfl⟩
  have B4A : Aside (Below w.heap.size w w4) := B4
  rw [hg] at i4 ⊢
  clear hg B4 s
  obtain ⟨C0, C1, C2, C3⟩ := i4.cells
  go_upto_region 2 with (first
    | (go_at_call 71; refine KH.mono ?_; clear KH; rintro e w8 ⟨p, q, er, M8, F8, rfl, t8, s8, b8⟩))
  have i8 := i4.wf s4 b8
  have B8 : Aside (Wf F0 F8 w w8) := (Wf.of_below B4A.out F0).trans b8
  clear C0 C1 C2 C3 i4 s4 b8 B4A
  rcases t8 with ⟨rfl, g8⟩ | ⟨rfl, g8⟩
  rotate_left
  · have t : Aside (StuckQ M L M8) := g8
    clear g8 i8
    go_wp2_with fail
    go_ret2
    exact ⟨0, 60, M8, F8, rfl, .inr ⟨rfl, rfl, t.out⟩, fun c => absurd c h2.out, s8, B8.out⟩
  · have K := or_k (k := L + 1) s8 ⟨g8.lo.1, g8.lo.2.1⟩ ⟨g8.hi.1, g8.hi.2.1⟩
    have gA : Aside (Pr2 M L X0 X1 p q M8) := g8
    obtain ⟨C0, C1, C2, C3⟩ := i8.cells
    clear g8
    go_wp2_with (first
      | (go_at_call 23; refine K.mono ?_; clear K; rintro e w9 ⟨x, er, M9, F9, rfl, t9, s9, b9⟩; have t9A : Aside (Told M8 (L + 1) (ans M8 oOr p q 0) x er M9) := t9; clear t9))
    go_ret2
    exact ⟨x, er, M9, F9, rfl, gA.out.taken (J := jEx (M.v L)) (fun _ _ _ => rfl) e.out t9A.out, fun c => absurd c h2.out, s9, B8.out.trans b9⟩
set_option maxRecDepth 100000 in
set_option maxHeartbeats 2000000 in
theorem both_join (S o z m nv n : Nat) : JoinAt (allQ m) S o z 44 m nv n := by
  intro L hLn ih w F0 M h en s bo bz hm hL hbit
  have ok := s.ok
  have hLM : L < M.n := by omega
  have KH := halves_any ih en (s.below (nb w (.cells #[.pointer (some ⟨S, 0, none⟩), .int .u8 (o : Int), .int .u8 (z : Int), .func (.func 44) #[] #[]] 90))) bo bz hm hL
  have e : Aside (Eqt (allQ m (M.tbl h)) (fun y => jAll (M.v L) (allQ m (M.tbl (M.nd h).2.1) y) (allQ m (M.tbl (M.nd h).2.2) y))) := (all_is m).at ok hm hL hbit
  have h2 : Aside (¬ h < 2) := by have := (ok.range h hm).1; show ¬ _; omega
  generalize allQ m (M.tbl (M.nd h).2.1) = X0 at KH e
  generalize allQ m (M.tbl (M.nd h).2.2) = X1 at KH e
  generalize allQ m (M.tbl h) = X at e
  clear ih bo bz hm hL hbit hLM
  unfold cutV
  unfold cutV at KH
  go_enter Tryz.func44, Tryz.ntmps44
  go_upto_region 1 with fail
  have i4 := IsC.new w S o z 44
  have B4 := nb w (.cells #[.pointer (some ⟨S, 0, none⟩), .int .u8 (o : Int), .int .u8 (z : Int), .func (.func 44) #[] #[]] 90)
  have s4 := s.below B4
  generalize w.alloc (.cells #[.pointer (some ⟨S, 0, none⟩), .int .u8 (o : Int), .int .u8 (z : Int), .func (.func 44) #[] #[]] 90) = w4 at i4 B4 s4 KH ⊢
  obtain ⟨g, hg⟩ : ∃ g, w.heap.size = g := ⟨_, rfl⟩
  have B4A : Aside (Below w.heap.size w w4) := B4
  rw [hg] at i4 ⊢
  clear hg B4 s
  obtain ⟨C0, C1, C2, C3⟩ := i4.cells
  go_upto_region 2 with (first
    | (go_at_call 71; refine KH.mono ?_; clear KH; rintro e w8 ⟨p, q, er, M8, F8, rfl, t8, s8, b8⟩))
  have i8 := i4.wf s4 b8
  have B8 : Aside (Wf F0 F8 w w8) := (Wf.of_below B4A.out F0).trans b8
  clear C0 C1 C2 C3 i4 s4 b8 B4A
  rcases t8 with ⟨rfl, g8⟩ | ⟨rfl, g8⟩
  rotate_left
  · have t : Aside (StuckQ M L M8) := g8
    clear g8 i8
    go_wp2_with fail
    go_ret2
    exact ⟨0, 60, M8, F8, rfl, .inr ⟨rfl, rfl, t.out⟩, fun c => absurd c h2.out, s8, B8.out⟩
  · have K := and_k (k := L + 1) s8 ⟨g8.lo.1, g8.lo.2.1⟩ ⟨g8.hi.1, g8.hi.2.1⟩
    have gA : Aside (Pr2 M L X0 X1 p q M8) := g8
    obtain ⟨C0, C1, C2, C3⟩ := i8.cells
    clear g8
    go_wp2_with (first
      | (go_at_call 24; refine K.mono ?_; clear K; rintro e w9 ⟨x, er, M9, F9, rfl, t9, s9, b9⟩; have t9A : Aside (Told M8 (L + 1) (ans M8 oAnd p q 0) x er M9) := t9; clear t9))
    go_ret2
    exact ⟨x, er, M9, F9, rfl, gA.out.taken (J := jAll (M.v L)) (fun _ _ _ => rfl) e.out t9A.out, fun c => absurd c h2.out, s9, B8.out.trans b9⟩
set_option maxRecDepth 100000 in
set_option maxHeartbeats 2000000 in
theorem kept_any {n L : Nat} (i : IsQ m J Q) (ih : WalkAt Q S o z f m nv n (L + 1)) (en : M.n = n) (s : St w S F0 M) (bo : ByLev M m o) (bz : ByLev M nv z) (hm : h ∈ M.hs) (hL : (M.nd h).1 = L) (hbit : m.testBit (M.v L) = false) :
    Calls Tryz.prog 85 #[cutV S o z f, .int .u32 (h : Int)] w (LeftQ S F0 w M L h (Q (M.tbl h))) := by
  have ok := s.ok
  have hLM : L < M.n := by rw [← hL]; exact ok.lv h hm
  have KH := halves_any ih en (s.below (nb w (.cells #[.pointer (some ⟨S, 0, none⟩), .int .u8 (o : Int), .int .u8 (z : Int), .func (.func f) #[] #[]] 90))) bo bz hm hL
  obtain ⟨e0, e1⟩ := i.by ok hm hL hbit
  have e0A : Aside (Eqt (Q (M.tbl (M.nd h).2.1)) (fixF (Q (M.tbl h)) (M.v L) false)) := e0
  have e1A : Aside (Eqt (Q (M.tbl (M.nd h).2.2)) (fixF (Q (M.tbl h)) (M.v L) true)) := e1
  have h2 : Aside (¬ h < 2) := by have := (ok.range h hm).1; show ¬ _; omega
  have KL : Aside (∀ {u : World} {F' : Nat → Prop} {M' : Mdl}, Mdl.Grew M M' → St u S F' M' → Calls Tryz.prog 50 #[.pointer (some ⟨S, 0, none⟩), .int .u32 (h : Int)] u fun e w' => e = .returned (.int .i64 (L : Int)) ∧ w' = u) := fun {u F' M'} gr su => by
    have := lv_any su (gr.isNode (.inr hm : M.isNode h))
    rwa [gr.lev (.inr hm : M.isNode h), Mdl.lev_in ok hm, hL] at this
  generalize Q (M.tbl (M.nd h).2.1) = X0 at KH e0A
  generalize Q (M.tbl (M.nd h).2.2) = X1 at KH e1A
  generalize Q (M.tbl h) = X at e0A e1A
  clear ih bo bz hm hL hbit e0 e1
  unfold cutV
  unfold cutV at KH
  go_enter Tryz.func85, Tryz.ntmps85
  go_upto_region 1 with fail
  have i4 := IsC.new w S o z f
  have B4 := nb w (.cells #[.pointer (some ⟨S, 0, none⟩), .int .u8 (o : Int), .int .u8 (z : Int), .func (.func f) #[] #[]] 90)
  have s4 := s.below B4
  generalize w.alloc (.cells #[.pointer (some ⟨S, 0, none⟩), .int .u8 (o : Int), .int .u8 (z : Int), .func (.func f) #[] #[]] 90) = w4 at i4 B4 s4 KH ⊢
  obtain ⟨g, hg⟩ : ∃ g, w.heap.size = g := ⟨_, rfl⟩
  have B4A : Aside (Below w.heap.size w w4) := B4
  rw [hg] at i4 ⊢
  clear hg B4 s
  obtain ⟨C0, C1, C2, C3⟩ := i4.cells
  go_upto_region 2 with (first
    | (go_at_call 71; refine KH.mono ?_; clear KH; rintro e w8 ⟨p, q, er, M8, F8, rfl, t8, s8, b8⟩))
  have i8 := i4.wf s4 b8
  have B8 : Aside (Wf F0 F8 w w8) := (Wf.of_below B4A.out F0).trans b8
  clear C0 C1 C2 C3 i4 s4 b8 B4A
  rcases t8 with ⟨rfl, g8⟩ | ⟨rfl, g8⟩
  rotate_left
  · have t : Aside (StuckQ M L M8) := g8
    clear g8 i8
    go_wp2_with fail
    go_ret2
    exact ⟨0, 60, M8, F8, rfl, .inr ⟨rfl, rfl, t.out⟩, fun c => absurd c h2.out, s8, B8.out⟩
  · have C8 := i8.cells
    have g8' := g8.like e0A.out e1A.out
    have K1 := KL.out g8.grew s8.drew
    have o8 := s8.ok
    have s8d := s8.drew
    clear KL g8 e0A e1A
    go_upto_region 4 with fail
    by_cases hpq : p = q
    · subst hpq
      have t : Aside (GotQ M L X p M8) := g8'.same o8 hLM
      have Km := s_mk_same s8d L p g8'.lo.2.1 g8'.lo.1
      clear g8'
      go_region_held3 (fun u => u.cell? ⟨g, 0, none⟩ = some (.pointer (some ⟨S, 0, none⟩)) ∧ u.cell? ⟨g, 1, none⟩ = some (.int .u8 (o : Int)) ∧ u.cell? ⟨g, 2, none⟩ = some (.int .u8 (z : Int)) ∧ u.cell? ⟨g, 3, none⟩ = some (.func (.func f) #[] #[])) (first | assumption | exact C8) (first
        | (go_at_call 50; refine K1.mono ?_; clear K1; rintro e w5 ⟨rfl, e5⟩; subst w5)
        | (go_at_call 60; refine Km.mono ?_; clear Km; rintro e w9 ⟨rfl, e9⟩; subst w9))
      go_wp2_with fail
      go_ret2
      exact ⟨p, 0, M8, F8, rfl, .inl ⟨rfl, t.out⟩, fun c => absurd c h2.out, s8d, B8.out.drew⟩
    · have fit := g8'.fits hLM hpq
      by_cases hth : ∃ y ∈ M8.hs, M8.nd y = (L, p, q)
      · obtain ⟨y, ym, ye⟩ := hth
        have t : Aside (GotQ M L X y M8) := g8'.join o8 hLM hpq o8 (.inl ⟨ym, ye, rfl⟩)
        have Km := s_mk_there s8d L p q fit y ym ye
        clear ye hpq fit g8'
        go_region_held3 (fun u => u.cell? ⟨g, 0, none⟩ = some (.pointer (some ⟨S, 0, none⟩)) ∧ u.cell? ⟨g, 1, none⟩ = some (.int .u8 (o : Int)) ∧ u.cell? ⟨g, 2, none⟩ = some (.int .u8 (z : Int)) ∧ u.cell? ⟨g, 3, none⟩ = some (.func (.func f) #[] #[])) (first | assumption | exact C8) (first
          | (go_at_call 50; refine K1.mono ?_; clear K1; rintro e w5 ⟨rfl, e5⟩; subst w5)
          | (go_at_call 60; refine Km.mono ?_; clear Km; rintro e w9 ⟨rfl, F9, s9, b9⟩; have i9 := IsC.wf (show IsC w8.drew g S o z f from i8) s8d b9; have C9 := i9.cells))
        go_wp2_with fail
        go_ret2
        exact ⟨y, 0, M8, F9, rfl, .inl ⟨rfl, t.out⟩, fun c => absurd c h2.out, s9, B8.out.drew.trans b9⟩
      · have no : ∀ y ∈ M8.hs, M8.nd y ≠ (L, p, q) := fun y ym ye => hth ⟨y, ym, ye⟩
        clear hth
        by_cases full : M8.hs.length = M8.room
        · have t : Aside (StuckQ M L M8) := g8'.full full
          have Km := s_mk_full s8d L p q fit no full
          clear hpq fit no full g8'
          go_region_held3 (fun u => u.cell? ⟨g, 0, none⟩ = some (.pointer (some ⟨S, 0, none⟩)) ∧ u.cell? ⟨g, 1, none⟩ = some (.int .u8 (o : Int)) ∧ u.cell? ⟨g, 2, none⟩ = some (.int .u8 (z : Int)) ∧ u.cell? ⟨g, 3, none⟩ = some (.func (.func f) #[] #[])) (first | assumption | exact C8) (first
            | (go_at_call 50; refine K1.mono ?_; clear K1; rintro e w5 ⟨rfl, e5⟩; subst w5)
            | (go_at_call 60; refine Km.mono ?_; clear Km; rintro e w9 ⟨rfl, F9, s9, b9⟩; have i9 := IsC.wf (show IsC w8.drew g S o z f from i8) s8d b9; have C9 := i9.cells))
          go_wp2_with fail
          go_ret2
          exact ⟨0, 60, M8, F9, rfl, .inr ⟨rfl, rfl, t.out⟩, fun c => absurd c h2.out, s9, B8.out.drew.trans b9⟩
        · have lt : M8.hs.length < M8.room := by have := o8.len; omega
          have t : Aside (∀ {y : Nat} {M9 : Mdl}, M9.Ok → M8.Adds y (L, p, q) M9 → GotQ M L X y M9) := fun {y M9} o9 ad => g8'.join o8 hLM hpq o9 (.inr ad)
          have Km := s_mk_new s8d L p q fit no lt
          clear hpq fit no full lt g8'
          go_region_held3 (fun u => u.cell? ⟨g, 0, none⟩ = some (.pointer (some ⟨S, 0, none⟩)) ∧ u.cell? ⟨g, 1, none⟩ = some (.int .u8 (o : Int)) ∧ u.cell? ⟨g, 2, none⟩ = some (.int .u8 (z : Int)) ∧ u.cell? ⟨g, 3, none⟩ = some (.func (.func f) #[] #[])) (first | assumption | exact C8) (first
            | (go_at_call 50; refine K1.mono ?_; clear K1; rintro e w5 ⟨rfl, e5⟩; subst w5)
            | (go_at_call 60; refine Km.mono ?_; clear Km; rintro e w9 ⟨y, rfl, F9, M9, ad9, s9, b9, y9⟩; have adA : Aside (M8.Adds y (L, p, q) M9) := ad9; clear ad9 y9; have i9 := IsC.wf (show IsC w8.drew g S o z f from i8) s8d b9; have C9 := i9.cells))
          go_wp2_with fail
          go_ret2
          exact ⟨y, 0, M9, F9, rfl, .inl ⟨rfl, t.out s9.ok adA.out⟩, fun c => absurd c h2.out, s9, B8.out.drew.trans b9⟩
set_option maxRecDepth 100000 in
set_option maxHeartbeats 2000000 in
theorem fixed_join (S o z m nv n : Nat) (hnv : nv < 256) : JoinAt (resQ m nv) S o z 45 m nv n := by
  intro L hLn ih w F0 M h en s bo bz hm hL hbit
  have ok := s.ok
  have hLM : L < M.n := by omega
  have n8 := ok.le8
  obtain ⟨la, lA⟩ := ok.lo h hm
  obtain ⟨lb, lB⟩ := ok.hi h hm
  rw [hL] at lA lB
  have e := (res_is m nv hnv).at ok hm hL hbit
  have hz := and_bit8 z L bz.1
  rw [bz.at ok hLM] at hz
  have h2 : Aside (¬ h < 2) := by have := (ok.range h hm).1; show ¬ _; omega
  have KL : Aside (∀ {u : World}, St u S F0 M → Calls Tryz.prog 50 #[.pointer (some ⟨S, 0, none⟩), .int .u32 (h : Int)] u fun e w' => e = .returned (.int .i64 (L : Int)) ∧ w' = u) := fun {u} su => by
    have := lv_any su (.inr hm : M.isNode h)
    rwa [Mdl.lev_in ok hm, hL] at this
  have K0 : Aside (∀ {u : World}, St u S F0 M → Calls Tryz.prog 51 #[.pointer (some ⟨S, 0, none⟩), .int .u32 (h : Int)] u fun e w' => e = .returned (.int .u32 ((M.nd h).2.1 : Int)) ∧ w' = u) := fun {u} su => lo_any su hm
  have K1 : Aside (∀ {u : World}, St u S F0 M → Calls Tryz.prog 52 #[.pointer (some ⟨S, 0, none⟩), .int .u32 (h : Int)] u fun e w' => e = .returned (.int .u32 ((M.nd h).2.2 : Int)) ∧ w' = u) := fun {u} su => hi_any su hm
  have W0 : Aside (∀ {u : World}, St u S F0 M → Calls Tryz.prog 70 #[cutV S o z 45, .int .u32 ((M.nd h).2.1 : Int)] u (LeftQ S F0 u M (L + 1) (M.nd h).2.1 (resQ m nv (M.tbl (M.nd h).2.1)))) := fun {u} su => ih u F0 M _ en su bo bz la lA
  have W1 : Aside (∀ {u : World}, St u S F0 M → Calls Tryz.prog 70 #[cutV S o z 45, .int .u32 ((M.nd h).2.2 : Int)] u (LeftQ S F0 u M (L + 1) (M.nd h).2.2 (resQ m nv (M.tbl (M.nd h).2.2)))) := fun {u} su => ih u F0 M _ en su bo bz lb lB
  have eA : Aside (Eqt (resQ m nv (M.tbl h)) (if nv.testBit (M.v L) then resQ m nv (M.tbl (M.nd h).2.2) else resQ m nv (M.tbl (M.nd h).2.1))) := fun y hy => by
    rw [e y hy]
    unfold jRes
    cases nv.testBit (M.v L) <;> rfl
  generalize (M.nd h).2.1 = a at K0 W0 eA
  generalize (M.nd h).2.2 = b at K1 W1 eA
  generalize resQ m nv (M.tbl a) = X0 at W0 eA
  generalize resQ m nv (M.tbl b) = X1 at W1 eA
  generalize resQ m nv (M.tbl h) = X at eA
  have L8 : (L : Int) < 8 := by omega
  have hmn : min L 8 = L := by omega
  clear ih bo bz hm hL hbit e la lA lb lB n8
  unfold cutV
  unfold cutV at W0 W1
  go_enter Tryz.func45, Tryz.ntmps45
  go_upto_region 1 with fail
  have i4 := IsC.new w S o z 45
  have B4 := nb w (.cells #[.pointer (some ⟨S, 0, none⟩), .int .u8 (o : Int), .int .u8 (z : Int), .func (.func 45) #[] #[]] 90)
  have s4 := s.below B4
  generalize w.alloc (.cells #[.pointer (some ⟨S, 0, none⟩), .int .u8 (o : Int), .int .u8 (z : Int), .func (.func 45) #[] #[]] 90) = w4 at i4 B4 s4 ⊢
  obtain ⟨g, hg⟩ : ∃ g, w.heap.size = g := ⟨_, rfl⟩
  have B4A : Aside (Below w.heap.size w w4) := B4
  rw [hg] at i4 ⊢
  clear hg B4 s
  obtain ⟨C0, C1, C2, C3⟩ := i4.cells
  have KQ : ∀ q, Calls Tryz.prog 50 #[.pointer (some ⟨S, 0, none⟩), .int .u32 (h : Int)] (w4.drewN q) fun e w' => e = .returned (.int .i64 (L : Int)) ∧ w' = w4.drewN q := fun q => KL.out (s4.drewN q)
  have D0 : ∀ q, (w4.drewN q).cell? ⟨g, 0, none⟩ = some (.pointer (some ⟨S, 0, none⟩)) := fun q => C0
  have D2 : ∀ q, (w4.drewN q).cell? ⟨g, 2, none⟩ = some (.int .u8 (z : Int)) := fun q => C2
  cases c : nv.testBit (M.v L) with
  | true =>
    rw [c, if_pos rfl] at hz eA
    clear c K0 W0
    go_quiet ((go_at_call 50; exact Calls.quiet_of_same (KQ _)))
    have i5 : IsC (w4.drewN nq) g S o z 45 := i4
    have s5 := s4.drewN nq
    have B5 : Aside (Below w.heap.size w (w4.drewN nq)) := ⟨B4A.out.os, B4A.out.tape, B4A.out.output, B4A.out.size, B4A.out.block⟩
    clear i4 s4 B4A C0 C1 C2 C3 D0 D2 KQ KL
    generalize w4.drewN nq = w5 at i5 s5 B5 ⊢
    have C5 := i5.cells
    have s5d := s5.drew
    have i5d : IsC w5.drew g S o z 45 := i5
    have Ka := K1.out s5d
    have Kb := W1.out s5d
    go_upto_region 2 with fail
    go_region_held3 (fun u => u.cell? ⟨g, 0, none⟩ = some (.pointer (some ⟨S, 0, none⟩)) ∧ u.cell? ⟨g, 1, none⟩ = some (.int .u8 (o : Int)) ∧ u.cell? ⟨g, 2, none⟩ = some (.int .u8 (z : Int)) ∧ u.cell? ⟨g, 3, none⟩ = some (.func (.func 45) #[] #[])) (first | assumption | exact C5) (first
      | (go_at_call 52; refine Ka.mono ?_; clear Ka; rintro e w6 ⟨rfl, e6⟩; subst w6)
      | (go_at_call 70; refine Kb.mono ?_; clear Kb; rintro e w8 ⟨p, er, M8, F8, rfl, t8, c8, s8, b8⟩; have i8 := i5d.wf s5d b8; have C8 := i8.cells; have tA : Aside (ToldQ M L X p er M8) := (t8.raise (Nat.le_succ L)).like eA.out.symm; clear t8 c8))
    go_wp2_with fail
    go_ret2
    exact ⟨p, er, M8, F8, rfl, tA.out, fun c => absurd c h2.out, s8, (Wf.of_below B5.out.drew F0).trans b8⟩
  | false =>
    rw [c, if_neg (by decide)] at hz eA
    clear c K1 W1
    go_quiet ((go_at_call 50; exact Calls.quiet_of_same (KQ _)))
    have i5 : IsC (w4.drewN nq) g S o z 45 := i4
    have s5 := s4.drewN nq
    have B5 : Aside (Below w.heap.size w (w4.drewN nq)) := ⟨B4A.out.os, B4A.out.tape, B4A.out.output, B4A.out.size, B4A.out.block⟩
    clear i4 s4 B4A C0 C1 C2 C3 D0 D2 KQ KL
    generalize w4.drewN nq = w5 at i5 s5 B5 ⊢
    have C5 := i5.cells
    have s5d := s5.drew
    have i5d : IsC w5.drew g S o z 45 := i5
    have Ka := K0.out s5d
    have Kb := W0.out s5d
    go_upto_region 3 with fail
    go_region_held3 (fun u => u.cell? ⟨g, 0, none⟩ = some (.pointer (some ⟨S, 0, none⟩)) ∧ u.cell? ⟨g, 1, none⟩ = some (.int .u8 (o : Int)) ∧ u.cell? ⟨g, 2, none⟩ = some (.int .u8 (z : Int)) ∧ u.cell? ⟨g, 3, none⟩ = some (.func (.func 45) #[] #[])) (first | assumption | exact C5) (first
      | (go_at_call 51; refine Ka.mono ?_; clear Ka; rintro e w6 ⟨rfl, e6⟩; subst w6)
      | (go_at_call 70; refine Kb.mono ?_; clear Kb; rintro e w8 ⟨p, er, M8, F8, rfl, t8, c8, s8, b8⟩; have i8 := i5d.wf s5d b8; have C8 := i8.cells; have tA : Aside (ToldQ M L X p er M8) := (t8.raise (Nat.le_succ L)).like eA.out.symm; clear t8 c8))
    go_wp2_with fail
    go_ret2
    exact ⟨p, er, M8, F8, rfl, tA.out, fun c => absurd c h2.out, s8, (Wf.of_below B5.out.drew F0).trans b8⟩
set_option maxRecDepth 100000 in
set_option maxHeartbeats 2000000 in
theorem walkq_step {n L : Nat} (i : IsQ m J Q) (hf : ∀ (vs : Array Value) (w : World), (callFunc f vs).run Tryz.prog w = .ok (.enter f vs) w) (j : JoinAt Q S o z f m nv n) (ih : ∀ l, L ≤ l → l < n → WalkAt Q S o z f m nv n (l + 1)) : WalkAt Q S o z f m nv n L := by
  intro w F0 M h en s bo bz hh hL
  have ok := s.ok
  have n8 := ok.le8
  have ln := Mdl.lev_le ok hh
  have KL : Aside (∀ {u : World}, St u S F0 M → Calls Tryz.prog 50 #[.pointer (some ⟨S, 0, none⟩), .int .u32 (h : Int)] u fun e w' => e = .returned (.int .i64 (M.lev h : Int)) ∧ w' = u) := fun {u} su => lv_any su hh
  have hdiv : (o : Int) / 2 ^ (M.lev h) = ((o / 2 ^ (M.lev h) : Nat) : Int) := by push_cast; rfl
  have hmn : min (M.lev h) 8 = M.lev h := by omega
  have l8 : (M.lev h : Int) ≤ 8 := by omega
  by_cases c0 : o / 2 ^ (M.lev h) = 0
  · have t : Aside (GotQ M L (Q (M.tbl h)) h M) := GotQ.here hh hL (bo.idle ok i hh (Nat.le_refl _) c0)
    rw [c0] at hdiv
    have hd0 : (o : Int) / 2 ^ (M.lev h) = 0 := hdiv
    generalize M.lev h = l at KL hmn l8 hd0
    clear hdiv c0 hL ln ih j bo bz
    unfold cutV
    go_enter Tryz.func70, Tryz.ntmps70
    go_upto_region 1 with fail
    have i4 := IsC.new w S o z f
    have B4 := nb w (.cells #[.pointer (some ⟨S, 0, none⟩), .int .u8 (o : Int), .int .u8 (z : Int), .func (.func f) #[] #[]] 90)
    have s4 := s.below B4
    generalize w.alloc (.cells #[.pointer (some ⟨S, 0, none⟩), .int .u8 (o : Int), .int .u8 (z : Int), .func (.func f) #[] #[]] 90) = w4 at i4 B4 s4 ⊢
    have B4A : Aside (Below w.heap.size w w4) := B4
    generalize w.heap.size = g at i4 ⊢
    obtain ⟨C0, C1, C2, C3⟩ := i4.cells
    have K1 := KL.out s4
    clear KL B4 s
    go_wp2_with (first
      | (go_at_call 50; refine K1.mono ?_; clear K1; rintro e w5 ⟨rfl, e5⟩; subst w5))
    go_ret2
    exact ⟨h, 0, M, F0, rfl, .inl ⟨rfl, t.out⟩, fun _ => ⟨rfl, rfl⟩, s4, Wf.of_below B4A.out F0⟩
  · have lt : M.lev h < M.n := by
      refine Nat.lt_of_le_of_ne ln fun e => c0 ?_
      rw [e]
      refine Nat.div_eq_of_lt (Nat.lt_pow_two_of_testBit _ fun k hk => ?_)
      by_cases k8 : k < 8
      · rw [bo.2 k k8, decide_eq_false (by omega), Bool.false_and]
      · exact Nat.testBit_lt_two_pow (Nat.lt_of_lt_of_le bo.1 (Nat.pow_le_pow_right (n := 2) (i := 8) (by omega) (by omega)))
    have hm := Mdl.inner_of_lev hh lt
    have hl := (Mdl.lev_in ok hm).symm
    have hd0 : ((o : Int) / 2 ^ (M.lev h) == 0) = false := by
      rw [hdiv]
      exact beq_eq_false_iff_ne.2 fun h => c0 (Int.ofNat.inj h)
    have hd1 : ¬ (o : Int) / 2 ^ (M.lev h) = 0 := by rw [hdiv]; exact fun h => c0 (Int.ofNat.inj h)
    have hb := and_bit8 o (M.lev h) bo.1
    rw [bo.at ok lt] at hb
    have jA : Aside (m.testBit (M.v (M.lev h)) = true → ∀ {u : World}, St u S F0 M → Calls Tryz.prog f #[cutV S o z f, .int .u32 (h : Int)] u (LeftQ S F0 u M (M.lev h) h (Q (M.tbl h)))) := fun c {u} su => j (M.lev h) (by omega) (ih _ hL (by omega)) u F0 M h en su bo bz hm hl c
    have kA : Aside (m.testBit (M.v (M.lev h)) = false → ∀ {u : World}, St u S F0 M → Calls Tryz.prog 85 #[cutV S o z f, .int .u32 (h : Int)] u (LeftQ S F0 u M (M.lev h) h (Q (M.tbl h)))) := fun c {u} su => kept_any i (ih _ hL (by omega)) en su bo bz hm hl c
    generalize m.testBit (M.v (M.lev h)) = c at hb jA kA
    have hLA : Aside (L ≤ M.lev h) := hL
    generalize M.lev h = l at KL hmn l8 hd0 hd1 hb jA kA hLA
    clear hdiv c0 hL ln ih j bo bz hl lt hm
    unfold cutV at jA kA ⊢
    go_enter Tryz.func70, Tryz.ntmps70
    go_upto_region 1 with fail
    have i4 := IsC.new w S o z f
    have B4 := nb w (.cells #[.pointer (some ⟨S, 0, none⟩), .int .u8 (o : Int), .int .u8 (z : Int), .func (.func f) #[] #[]] 90)
    have s4 := s.below B4
    generalize w.alloc (.cells #[.pointer (some ⟨S, 0, none⟩), .int .u8 (o : Int), .int .u8 (z : Int), .func (.func f) #[] #[]] 90) = w4 at i4 B4 s4 ⊢
    have B4A : Aside (Below w.heap.size w w4) := B4
    generalize w.heap.size = g at i4 ⊢
    obtain ⟨C0, C1, C2, C3⟩ := i4.cells
    have K1 := KL.out s4
    clear KL B4 s
    cases c with
    | true =>
      rw [if_pos rfl] at hb
      have K2 := jA.out rfl s4
      clear jA kA
      go_wp2_with (first
        | (go_at_call 50; refine K1.mono ?_; clear K1; rintro e w5 ⟨rfl, e5⟩; subst w5)
        | (guard_target =~ Calls Tryz.prog f _ _ _; refine K2.mono ?_; clear K2; rintro e w8 ⟨p, er, M8, F8, rfl, t8, c8, s8, b8⟩; have tA : Aside (ToldQ M L (Q (M.tbl h)) p er M8) := t8.raise hLA.out; have cA : Aside (h < 2 → p = h ∧ er = 0) := c8; clear t8 c8))
      go_ret2
      exact ⟨p, er, M8, F8, rfl, tA.out, cA.out, s8, (Wf.of_below B4A.out F0).trans b8⟩
    | false =>
      rw [if_neg (by decide)] at hb
      have K2 := kA.out rfl s4
      clear jA kA
      go_wp2_with (first
        | (go_at_call 50; refine K1.mono ?_; clear K1; rintro e w5 ⟨rfl, e5⟩; subst w5)
        | (go_at_call 85; refine K2.mono ?_; clear K2; rintro e w8 ⟨p, er, M8, F8, rfl, t8, c8, s8, b8⟩; have tA : Aside (ToldQ M L (Q (M.tbl h)) p er M8) := t8.raise hLA.out; have cA : Aside (h < 2 → p = h ∧ er = 0) := c8; clear t8 c8))
      go_ret2
      exact ⟨p, er, M8, F8, rfl, tA.out, cA.out, s8, (Wf.of_below B4A.out F0).trans b8⟩
theorem walkq_any {n : Nat} (i : IsQ m J Q) (hf : ∀ (vs : Array Value) (w : World), (callFunc f vs).run Tryz.prog w = .ok (.enter f vs) w) (j : JoinAt Q S o z f m nv n) : ∀ d L, n - L ≤ d → WalkAt Q S o z f m nv n L
  | 0, _, hd => walkq_step i hf j fun l h1 h2 => by omega
  | d + 1, _, hd => walkq_step i hf j fun l h1 h2 => walkq_any i hf j d (l + 1) (by omega)
end
end Go.Proofs.YtlhanbjjlifjjaaGreat
