/-
  Package compose: the walk's answer.
-/
import Derived.Test.YtbhjcaoiejdkfaaCpT
import Derived.Test.YtbhjcaoiejdkfaaLgc
namespace Go.Proofs.Ytbhjcaoiejdkfaa
open Go Go.RowKit
open Rf (fixAt fixF)

section
variable {w : World} {S h k : Nat} {F0 : Nat → Prop} {M : Mdl} {I : Nat → Nd}
set_option maxRecDepth 100000 in
set_option maxHeartbeats 2000000 in
theorem canswer_step (s : St w S F0 M) (wi : ∀ i, WI M (I i)) (hh : M.isNode h) (hk : k ≤ M.n) (hi : ∀ i, M.lev h ≤ i → i < M.n → k ≤ (I i).1)
    (ih : ∀ {w : World} {F0 : Nat → Prop} {M' : Mdl} {L h : Nat} {I' : Nat → Nd}, M'.n = M.n → k ≤ L → L < M.n → St w S F0 M' → (∀ i, WI M' (I' i)) → M'.isNode h → (∀ i, M'.lev h ≤ i → i < M'.n → L + 1 ≤ (I' i).1) → Calls Try.prog 35 #[.agg (wA S I'), .int .u32 (h : Int)] w (Left S F0 w M' (L + 1) (subF M' I' h))) :
    Calls Try.prog 35 #[.agg (wA S I), .int .u32 (h : Int)] w (Left S F0 w M k (subF M I h)) := by
  have o := s.ok
  obtain ⟨A, hA⟩ : ∃ A, wA S I = A := ⟨_, rfl⟩
  have sz : Aside (A.size = 25) := by rw [← hA]; exact wA_size
  have hA0 : Aside (∀ u : World, u.heap[w.heap.size]? = some (.cells A 82 (0, 0)) → u.cell? ⟨w.heap.size, 0, none⟩ = some (.pointer (some ⟨S, 0, none⟩))) := fun u hu => IsW.store (w := u) (g := w.heap.size) (S := S) (I := I) (by unfold IsW; rw [hA]; exact hu)
  have KF : Aside (∀ u, St u S F0 M → Calls Try.prog 47 #[.agg A, .int .u32 (h : Int)] u fun e w' => ∃ x : Nat, e = .returned (.int .u32 (x : Int)) ∧ Goes M I h x ∧ (x < 2 ∨ x ∈ M.hs ∧ (I (M.lev x)).1 < M.n) ∧ Below u.heap.size u w') := fun u su => by rw [← hA]; exact follow_any su wi hh
  have KT : Aside (∀ u x, x ∈ M.hs → St u S F0 M → Calls Try.prog 48 #[.agg A, .int .u32 (x : Int)] u fun e w' => ∃ T : Nat, e = .returned (.int .i64 (T : Int)) ∧ IsTop M I (M.lev x) M.n T ∧ Below u.heap.size u w') := fun u x hx su => by rw [← hA]; exact ctop_any su hx
  have KH0 : Aside (∀ u (L : Nat), St u S F0 M → Calls Try.prog 49 #[.agg A, .int .i64 (L : Int), .func (.func 50) #[.agg A] #[]] u fun e w' => e = .returned (.agg (wA S (halfI M L false I))) ∧ Below u.heap.size u w') := fun u L su => by rw [← hA]; exact chalf_any su wi L false I
  have KH1 : Aside (∀ u (L : Nat) {F' : Nat → Prop} {M' : Mdl}, Mdl.Grew M M' → St u S F' M' → Calls Try.prog 49 #[.agg A, .int .i64 (L : Int), .func (.func 51) #[.agg A] #[]] u fun e w' => e = .returned (.agg (wA S (halfI M L true I))) ∧ Below u.heap.size u w') := fun u L F' M' g su => by
    have := chalf_any su (fun i => (wi i).grew g) L true I
    rw [half_grew g o su.ok wi] at this
    rw [← hA]
    exact this
  have i0 : ∀ u : World, (u.alloc (.cells A 82)).heap[u.heap.size]? = some (.cells A 82 (0, 0)) := fun u => Go.Deep.blk_alloc_new _ _
  rw [hA]
  clear hA
  obtain ⟨X, hX'⟩ : ∃ X, subF M I h = X := ⟨_, rfl⟩
  have hX : Aside (subF M I h = X) := hX'
  rw [hX']
  clear hX'
  have wiA : Aside (∀ i, WI M (I i)) := wi
  have hiA : Aside (∀ i, M.lev h ≤ i → i < M.n → k ≤ (I i).1) := hi
  have hkA : Aside (k ≤ M.n) := hk
  have oA : Aside M.Ok := o
  clear wi hi hk o
  go_enter Try.func35, Try.ntmps35
  go_upto_region 1 with fail
  have i4 := i0 w
  have B4 := nb w (.cells A 82)
  have s4 := s.below B4
  generalize w.alloc (.cells A 82) = w4 at i4 B4 s4 ⊢
  obtain ⟨g, hg⟩ : ∃ g, w.heap.size = g := ⟨_, rfl⟩
  have B4A : Aside (Below w.heap.size w w4) := B4
  have i4A : Aside (w4.heap[w.heap.size]? = some (.cells A 82 (0, 0))) := i4
  rw [hg] at i4A hA0 ⊢
  have K1 := KF.out _ s4
  clear hg B4 s i0 i4 KF
  go_upto_region 2 with (first
    | refine wpList_load_row rfl 82 (.tmp 2) rfl g rfl 82 A (0, 0) _ i4A.out Try.underlying82 rfl (by rw [sz.out]; kernel_rfl) ?_
    | (go_at_call 47; refine K1.mono ?_; clear K1; rintro e w5 ⟨x, rfl, gx, cx, b5⟩))
  have s5 := s4.below b5
  have i5 : Aside (w5.heap[g]? = some (.cells A 82 (0, 0))) := (b5.block _ (Array.getElem?_eq_some_iff.1 i4A.out).1).trans i4A.out
  have B5 : Aside (Below w.heap.size w w5) := Rf.below_far B4A.out b5
  clear b5 i4A B4A s4
  by_cases x2 : x < 2
  · have x2i : (x : Int) ≤ 1 := by omega
    have t : Aside (Got M k X x M) := Got.here oA.out (.inl x2) (by rw [Mdl.lev_const x2]; exact hkA.out) (fun y _ => by rw [← hX.out, ← gx.same, sub_const x2])
    clear x2 cx gx KT KH0 KH1
    go_wp2_with fail
    go_ret2
    exact ⟨x, 0, M, F0, rfl, .inl ⟨rfl, t.out⟩, s5, Wf.of_below B5.out F0⟩
  · have x2i : ¬ (x : Int) ≤ 1 := by omega
    obtain ⟨hm, hlt⟩ := cx.resolve_left x2
    have o := oA.out
    have wi := wiA.out
    have hxn : M.isNode x := .inr hm
    have K2 := KT.out _ x hm s5
    have hll : M.lev x < M.n := by rw [Mdl.lev_in o hm]; exact o.lv x hm
    have gxA : Aside (Goes M I h x) := gx
    have hltA : Aside ((I (M.lev x)).1 < M.n ∧ M.lev x < M.n) := ⟨hlt, hll⟩
    clear x2 cx gx KT hlt hll
    go_upto_region 5 with (first
      | refine wpList_load_row rfl 82 (.tmp 2) rfl g rfl 82 A (0, 0) _ i5.out Try.underlying82 rfl (by rw [sz.out]; kernel_rfl) ?_
      | (go_at_call 48; refine K2.mono ?_; clear K2; rintro e w6 ⟨L, rfl, tL, b6⟩))
    have s6 := s5.below b6
    have i6 : Aside (w6.heap[g]? = some (.cells A 82 (0, 0))) := (b6.block _ (Array.getElem?_eq_some_iff.1 i5.out).1).trans i5.out
    have B6 : Aside (Below w.heap.size w w6) := Rf.below_far B5.out b6
    have hLn : L < M.n := Nat.lt_of_le_of_lt (tL.low _ (Nat.le_refl _) hltA.out.2) hltA.out.1
    have hkL : k ≤ L := tL.most k hkA.out fun i a b => hiA.out i (Nat.le_trans gxA.out.deep a) b
    have low := tL.low
    have dep : Aside (Dep M L X) := by
      show Dep _ _ _
      rw [← hX.out, ← gxA.out.same]
      exact sub_dep o hxn wi low
    have G0 : Aside (Eqt (subF M (halfI M L false I) x) (fixF X (M.v L) false)) := by
      show Eqt _ _
      rw [← hX.out, ← gxA.out.same]
      exact sub_half o hxn wi hLn low false
    have G1 : Aside (Eqt (subF M (halfI M L true I) x) (fixF X (M.v L) true)) := by
      show Eqt _ _
      rw [← hX.out, ← gxA.out.same]
      exact sub_half o hxn wi hLn low true
    have W0 := half_wi o wi L false
    have W1 := half_wi o wi L true
    have D0 : ∀ i, M.lev x ≤ i → i < M.n → L + 1 ≤ (halfI M L false I i).1 := fun i a b => half_deep (wi i) hLn (low i a b)
    have D1 : ∀ i, M.lev x ≤ i → i < M.n → L + 1 ≤ (halfI M L true I i).1 := fun i a b => half_deep (wi i) hLn (low i a b)
    have Kh0 := KH0.out w6 L s6
    have Kh1 : Aside (∀ u {F' : Nat → Prop} {M' : Mdl}, Mdl.Grew M M' → St u S F' M' → Calls Try.prog 49 #[.agg A, .int .i64 (L : Int), .func (.func 51) #[.agg A] #[]] u fun e w' => e = .returned (.agg (wA S (halfI M L true I))) ∧ Below u.heap.size u w') := fun u F' M' gr su => KH1.out u L gr su
    have ih0 : Aside (∀ u, St u S F0 M → Calls Try.prog 35 #[.agg (wA S (halfI M L false I)), .int .u32 (x : Int)] u (Left S F0 u M (L + 1) (subF M (halfI M L false I) x))) := fun u su => ih rfl hkL hLn su W0 hxn D0
    have ih1 : Aside (∀ u {F' : Nat → Prop} {M' : Mdl}, Mdl.Grew M M' → St u S F' M' → Calls Try.prog 35 #[.agg (wA S (halfI M L true I)), .int .u32 (x : Int)] u (Left S F' u M' (L + 1) (subF M (halfI M L true I) x))) := fun u F' M' gr su => by
      have := ih gr.n hkL hLn su (fun i => (W1 i).grew gr) (gr.isNode hxn) (fun i a b => D1 i (by rw [gr.lev hxn] at a; exact a) (by rw [gr.n] at b; exact b))
      rwa [sub_grew gr o hxn W1] at this
    have d0 : Aside (Dep M 0 (subF M (halfI M L false I) x)) := sub_dep o hxn W0 fun _ _ _ => Nat.zero_le _
    have d1 : Aside (Dep M 0 (subF M (halfI M L true I) x)) := sub_dep o hxn W1 fun _ _ _ => Nat.zero_le _
    generalize wA S (halfI M L false I) = A0 at Kh0 ih0
    generalize wA S (halfI M L true I) = A1 at Kh1 ih1
    generalize subF M (halfI M L false I) x = X0 at ih0 G0 d0
    generalize subF M (halfI M L true I) x = X1 at ih1 G1 d1
    have hLA : Aside (L < M.n ∧ k ≤ L) := ⟨hLn, hkL⟩
    clear s5 i5 B5 b6 tL low W0 W1 D0 D1 wi wiA hiA hkA gxA hltA hm hxn KH0 KH1 hLn hkL o ih
    go_upto_region 6 with (first
      | refine wpList_load_row rfl 82 (.tmp 2) rfl g rfl 82 A (0, 0) _ i6.out Try.underlying82 rfl (by rw [sz.out]; kernel_rfl) ?_
      | (go_at_call 49; refine Kh0.mono ?_; clear Kh0; rintro e w7 ⟨rfl, b7⟩; have s7 := s6.below b7; have Kw := ih0.out _ s7)
      | (go_at_call 35; refine Kw.mono ?_; clear Kw; rintro e w8 ⟨p, er, M8, F8, rfl, t8, s8, b8⟩))
    have o := oA.out
    have i8 : Aside (w8.heap[g]? = some (.cells A 82 (0, 0))) := by
      have i7 : w7.heap[g]? = some (.cells A 82 (0, 0)) := (b7.block _ (Array.getElem?_eq_some_iff.1 i6.out).1).trans i6.out
      exact (b8.block _ (Array.getElem?_eq_some_iff.1 i7).1 (s7.row i7 (by decide))).trans i7
    have B8 : Aside (Wf F0 F8 w w8) := (Wf.of_below (Rf.below_far B6.out b7) F0).trans b8
    clear s6 i6 B6 b7 s7 b8 ih0
    rcases t8 with ⟨rfl, g8⟩ | ⟨rfl, rfl, g8⟩
    rotate_left
    · have t : Aside (Stuck M k X M8) := (Stuck.low o hLA.out.1 dep.out (g8.like o d0.out G0.out)).raise hLA.out.2
      clear g8
      go_wp2_with fail
      go_ret2
      exact ⟨0, 60, M8, F8, rfl, .inr ⟨rfl, rfl, t.out⟩, s8, B8.out⟩
    · have g8' : Aside (Got M (L + 1) (fixF X (M.v L) false) p M8) := g8.like o d0.out G0.out
      have o8 := s8.ok
      have Ky := Kh1.out w8 g8.grew s8
      have Kz : Aside (∀ u, St u S F8 M8 → Calls Try.prog 35 #[.agg A1, .int .u32 (x : Int)] u (Left S F8 u M8 (L + 1) X1)) := fun u su => ih1.out u g8.grew su
      have d8 : Aside (Dep M8 0 X1) := d1.out.grew g8.grew
      clear g8 Kh1 ih1
      go_upto_region 9 with (first
        | refine wpList_load_row rfl 82 (.tmp 2) rfl g rfl 82 A (0, 0) _ i8.out Try.underlying82 rfl (by rw [sz.out]; kernel_rfl) ?_
        | (go_at_call 49; refine Ky.mono ?_; clear Ky; rintro e w9 ⟨rfl, b9⟩; have s9 := s8.below b9; have Kw := Kz.out _ s9)
        | (go_at_call 35; refine Kw.mono ?_; clear Kw; rintro e w10 ⟨q, er, M10, F10, rfl, t10, s10, b10⟩))
      have c10 : Aside (w10.cell? ⟨g, 0, none⟩ = some (.pointer (some ⟨S, 0, none⟩))) := by
        have i9 : w9.heap[g]? = some (.cells A 82 (0, 0)) := (b9.block _ (Array.getElem?_eq_some_iff.1 i8.out).1).trans i8.out
        exact hA0.out _ ((b10.block _ (Array.getElem?_eq_some_iff.1 i9).1 (s9.row i9 (by decide))).trans i9)
      have B10 : Aside (Wf F0 F10 w w10) := (B8.out.trans (Wf.of_below b9 F8)).trans b10
      clear s8 i8 B8 s9 b9 b10 Kz hA0
      rcases t10 with ⟨rfl, g10⟩ | ⟨rfl, rfl, g10⟩
      rotate_left
      · have t : Aside (Stuck M k X M10) := (Stuck.high o hLA.out.1 dep.out g8'.out (g10.like o8 d8.out G1.out)).raise hLA.out.2
        clear g10
        go_wp2_with fail
        go_ret2
        exact ⟨0, 60, M10, F10, rfl, .inr ⟨rfl, rfl, t.out⟩, s10, B10.out⟩
      · have g10' : Aside (Got M8 (L + 1) (fixF X (M.v L) true) q M10) := g10.like o8 d8.out G1.out
        have o10 := s10.ok
        have hLn := hLA.out.1
        have hkL := hLA.out.2
        have lb : Aside (L < M10.lev p) := by
          show L < M10.lev p
          rw [g10.grew.lev g8'.out.node]
          exact g8'.out.lev
        clear g10
        have c0 := c10.out
        by_cases hpq : p = q
        · subst hpq
          have t : Aside (Got M k X p M10) := (Got.same o o8 hLn dep.out g8'.out g10'.out).raise hkL
          have Km := s_mk_same s10 L p lb.out g10'.out.node
          clear hLn hkL
          go_wp2_with (first
            | (go_at_call 18; refine Km.mono ?_; clear Km; rintro e w11 ⟨rfl, e11⟩; subst w11))
          go_ret2
          exact ⟨p, 0, M10, F10, rfl, .inl ⟨rfl, t.out⟩, s10, B10.out⟩
        · have fit := Got.fits hLn g8'.out g10'.out hpq
          by_cases hth : ∃ y ∈ M10.hs, M10.nd y = (L, p, q)
          · obtain ⟨y, ym, ye⟩ := hth
            have t : Aside (Got M k X y M10) := (Got.join o o8 o10 hLn dep.out g8'.out g10'.out hpq o10 (.inl ⟨ym, ye, rfl⟩)).raise hkL
            have Km := s_mk_there s10 L p q fit y ym ye
            clear ye hpq fit hLn hkL
            go_wp2_with (first
              | (go_at_call 18; refine Km.mono ?_; clear Km; rintro e w11 ⟨rfl, F11, s11, b11⟩))
            go_ret2
            exact ⟨y, 0, M10, F11, rfl, .inl ⟨rfl, t.out⟩, s11, B10.out.trans b11⟩
          · have no : ∀ y ∈ M10.hs, M10.nd y ≠ (L, p, q) := fun y ym ye => hth ⟨y, ym, ye⟩
            clear hth
            by_cases full : M10.hs.length = M10.room
            · have t : Aside (Stuck M k X M10) := (Stuck.join o o8 o10 hLn dep.out g8'.out g10'.out hpq no full).raise hkL
              have Km := s_mk_full s10 L p q fit no full
              clear hpq fit no full hLn hkL
              go_wp2_with (first
                | (go_at_call 18; refine Km.mono ?_; clear Km; rintro e w11 ⟨rfl, F11, s11, b11⟩))
              go_ret2
              exact ⟨0, 60, M10, F11, rfl, .inr ⟨rfl, rfl, t.out⟩, s11, B10.out.trans b11⟩
            · have lt : M10.hs.length < M10.room := by have := o10.len; omega
              have t : Aside (∀ {y : Nat} {M11 : Mdl}, M11.Ok → M10.Adds y (L, p, q) M11 → Got M k X y M11) := fun {y M11} o11 ad => (Got.join o o8 o10 hLn dep.out g8'.out g10'.out hpq o11 (.inr ad)).raise hkL
              have Km := s_mk_new s10 L p q fit no lt
              clear hpq fit no full lt hLn hkL
              go_wp2_with (first
                | (go_at_call 18; refine Km.mono ?_; clear Km; rintro e w11 ⟨y, rfl, F11, M11, ad11, s11, b11, y11⟩; have adA : Aside (M10.Adds y (L, p, q) M11) := ad11; clear ad11 y11))
              go_ret2
              exact ⟨y, 0, M11, F11, rfl, .inl ⟨rfl, t.out s11.ok adA.out⟩, s11, B10.out.trans b11⟩
theorem canswer_any (d : Nat) : ∀ {w : World} {F0 : Nat → Prop} {M : Mdl} {k h : Nat} {I : Nat → Nd}, M.n - k ≤ d → St w S F0 M → (∀ i, WI M (I i)) → M.isNode h → k ≤ M.n → (∀ i, M.lev h ≤ i → i < M.n → k ≤ (I i).1) →
    Calls Try.prog 35 #[.agg (wA S I), .int .u32 (h : Int)] w (Left S F0 w M k (subF M I h)) := by
  induction d with
  | zero =>
    intro w F0 M k h I hd s wi hh hk hi
    exact canswer_step s wi hh hk hi fun {w' F' M' L h' I'} hn h1 h2 => by omega
  | succ d ih =>
    intro w F0 M k h I hd s wi hh hk hi
    exact canswer_step s wi hh hk hi fun {w' F' M' L h' I'} hn h1 h2 s' wi' hh' hi' => ih (by omega) s' wi' hh' (by omega) hi'
end
end Go.Proofs.Ytbhjcaoiejdkfaa
