/-
  ComposeTells, walked.
-/
import Derived.Test.YtancdjjhjfhcbaaGreatAllW
import Derived.Test.YtancdjjhjfhcbaaGreatBaseD
import Derived.Test.YtancdjjhjfhcbaaGreatBaseG
import Derived.Deep.AppendSrc
namespace Go.Proofs.YtancdjjhjfhcbaaGreat
open Go Go.RowKit
open Rf (fixAt fixF tab word IsTab TabsAt laid laid_turned laid_tab IntsAt)

theorem cached_x {W w : World} {S n r b : Nat} {l : Kl} (h : Sx W w S n r l b) (on : Bool) :
    Calls Tryz.prog 10 #[.pointer (some ⟨S, 0, none⟩), .bool on] w fun e w' => e = .returned (.tuple #[]) ∧ Sx W w' S n r l b ∧ Out w w' := by
  obtain ⟨F, M, s, e1, e2, e3, q, B, f⟩ := h
  refine (s_cached s on).mono ?_
  rintro e w' ⟨rfl, F', s', g⟩
  exact ⟨rfl, ⟨F', M, s', e1, e2, e3, q, Wf.far B g B.size f, g.after B.size f⟩, Out.of s g⟩
/-- A copy of a slice of numbers ('append([]int(nil), l...)'). -/
theorem run_copy_ints {w : World} {n c : Nat} {ad : Option Addr} {Z : Nat → Int} (h : IntsAt w ad n Z) (hn : n ≤ 1000000) (ty : TypeId) :
    ∃ ad' cap' w', (Builtin.append_ #[25, 25] ty #[.slice none 0 0, .slice ad n c]).run Tryz.prog w = .ok (.slice ad' n cap') w' ∧ IntsAt w' ad' n Z ∧ Below w.heap.size w w' := by
  obtain ⟨i, hi, hz, hsz, hby⟩ := info_parts info_int
  have rl : ∀ u ∈ rowL n (fun i => Value.int .i64 (Z i)), u.oneCell' = true := fun u hu => by
    obtain ⟨i, _, rfl⟩ := List.mem_map.1 hu
    rfl
  have some_case : ∀ a : Addr, ad = some a → (∀ j u, (rowL n (fun i => Value.int .i64 (Z i)))[j]? = some u → w.cell? (a.add j) = some u) →
      ∃ ad' cap' w', (Builtin.append_ #[25, 25] ty #[.slice none 0 0, .slice ad n c]).run Tryz.prog w = .ok (.slice ad' n cap') w' ∧ IntsAt w' ad' n Z ∧ Below w.heap.size w w' := by
    intro a ha hc
    subst ha
    obtain ⟨v', w', hrun, r1, r2, _⟩ := run_append_own (P := Tryz.prog) w w.heap.size 25 ty 3 i _ 1 8 Tryz.underlying25 hi hz hsz hby (by kernel_rfl) (by decide) (.slice none 0 0) 0 [] (World.ownsRow_nil _ _ _ _) a n c (rowL n (fun i => Value.int .i64 (Z i))) (by rw [rowL_length, Nat.mul_one]) hc rl (by simp only [maxLen]; omega) (by omega) (Nat.le_refl _)
    rw [List.nil_append, Nat.zero_add] at r1
    have hv : ∃ ad' cap', v' = .slice ad' n cap' := by
      rcases r1.2 with ⟨e, h0⟩ | ⟨g, cap', cur, e, _⟩
      · exact ⟨none, 0, by rw [e, h0]⟩
      · exact ⟨_, cap', e⟩
    obtain ⟨ad', cap', rfl⟩ := hv
    have ow : OwnR 3 w' w.heap.size ad' n cap' (fun i => .int .i64 (Z i)) := r1
    refine ⟨ad', cap', w', hrun, ?_, ⟨r2.os, r2.tape, r2.output, r2.size, fun k hk => r2.block k hk (by simp [Value.ownBlock])⟩⟩
    by_cases c : 0 < n
    · obtain ⟨g, rfl⟩ := ow.form c
      exact .inr ⟨g, 0, rfl, (ow.block g ⟨_, rfl, rfl⟩).2, fun i hi => by rw [Nat.zero_add]; exact ow.cell hi⟩
    · exact .inl (by omega)
  rcases h with h0 | ⟨b, off, rfl, hb, hc⟩
  · subst h0
    cases ad with
    | none =>
      have hrun := run_append_nothing (P := Tryz.prog) w 25 25 ty 3 i Tryz.underlying25 hi none 0 0 (Nat.le_refl _) (.slice none 0 c) (Src.ofNil w Tryz.underlying25 c)
      exact ⟨none, 0, w, hrun, .inl rfl, Below.refl _ _⟩
    | some a => exact some_case a rfl fun j u hu => by simp [rowL] at hu
  · refine some_case _ rfl fun j u hu => ?_
    have hj : j < n := by
      have := (List.getElem?_eq_some_iff.1 hu).1
      rwa [rowL_length] at this
    rw [rowL_get n _ hj] at hu
    have hu' : Value.int .i64 (Z j) = u := by simpa using hu
    have : (⟨b, off, none⟩ : Addr).add j = ⟨b, off + j, none⟩ := by unfold Addr.add; split <;> simp_all
    rw [← hu', this]
    exact hc j hj
theorem copy_ints {w : World} {n c : Nat} {ad : Option Addr} {Z : Nat → Int} (h : IntsAt w ad n Z) (hn : n ≤ 1000000)
    {ops : Array Oper} {rest : List Oper} {o : Oper} {a : Act} {Q : Exit → Act → World → Prop} (hgd : o.guard = none) (s x : Operand)
    (ho : o.op = .call { callee := .builtin .append, args := #[s, x], argTypes := #[25, 25] }) (hs : a.eval s = .slice none 0 0) (hx : a.eval x = .slice ad n c)
    (hK : ∀ ad' cap' w', IntsAt w' ad' n Z → Below w.heap.size w w' → wpList Tryz.prog ops Q rest (a.put o.dst (.slice ad' n cap')) w') :
    wpList Tryz.prog ops Q (o :: rest) a w := by
  refine wpList_plain hgd fun K hK' => ?_
  obtain ⟨ad', cap', w', hrun, h1, h2⟩ := run_copy_ints (c := c) h hn o.type
  unfold Oper.wp
  simp [execOp, ho, resolve, invoke, builtin, hs, hx, hrun, Result.andThen]
  exact hK' _ _ (hK ad' cap' w' h1 h2)
/-- What the reference tells of a number as a variable. -/
def varT (z : Int) : Nat → Bool := if 0 ≤ z ∧ z < 8 then Rf.M z.toNat else fun _ => false
theorem varT_any (z : Int) (w : World) : Calls Tryz.prog 16 #[.int .i64 z] w fun e w' => e = .returned (tab (varT z)) ∧ Below w.heap.size w w' := by
  unfold varT
  by_cases c : 0 ≤ z ∧ z < 8
  · rw [if_pos c]
    obtain ⟨v, rfl⟩ : ∃ v : Nat, z = (v : Int) := ⟨z.toNat, by omega⟩
    exact Rf.var_any v (by omega) w
  · rw [if_neg c]
    exact Rf.var_none z (by omega) w
theorem com_tab {v : Nat} (F G : Nat → Bool) : Eqt (comF v F G) (fun x => (G x && fixF F v true x) || (!G x && fixF F v false x)) := fun x _ => by
  show F (fixAt v (G x) x) = ((G x && F (fixAt v true x)) || (!G x && F (fixAt v false x)))
  cases G x <;> simp
theorem Sx.more {W w : World} {S n r b b' : Nat} {l : Kl} (h : Sx W w S n r l b) (hb : b ≤ b') : Sx W w S n r l b' := by
  obtain ⟨F, M, s, e1, e2, e3, q, B, f⟩ := h
  exact ⟨F, M, s, e1, e2, Nat.le_trans e3 hb, q, B, f⟩
theorem lt8' {i : Nat} (h : i < 8) : i = 0 ∨ i = 1 ∨ i = 2 ∨ i = 3 ∨ i = 4 ∨ i = 5 ∨ i = 6 ∨ i = 7 := by omega
set_option maxRecDepth 100000 in
set_option maxHeartbeats 4000000 in
theorem tells_walk (z : Int) (F G : Nat → Bool) (v : Int) (ad : Option Addr) (k cap : Nat) (Z : Nat → Int) (on : Bool) (W : World) (z0 : 0 ≤ z) (hZ : IntsAt W ad k Z) :
    Calls Tryz.prog 3 #[.int .u8 z, tab F, tab G, .int .i64 v, .slice ad k cap, .bool on] W fun e w' => e = .returned (.bool true) ∧ Below W.heap.size W w' := by
  obtain ⟨n, hn⟩ : ∃ n : Nat, z % 8 + 1 = (n : Int) := ⟨(z % 8 + 1).toNat, by omega⟩
  have n1 : 1 ≤ n := by omega
  have n8 : n ≤ 8 := by omega
  have hz : Int.tmod z 8 = z % 8 := Int.tmod_eq_emod_of_nonneg z0
  have ZA : Aside (IntsAt W ad k Z) := hZ
  clear hZ
  conv in #[Value.int .u8 z, tab F, tab G, Value.int .i64 v, Value.slice ad k cap, Value.bool on] => unfold tab
  go_enter Tryz.func3, Tryz.ntmps3
  go_upto_region 1 with fail
  obtain ⟨TF, TG, B3⟩ := boxes2 W F G
  generalize (W.alloc (.cells #[.int .u64 (word F 0 : Int), .int .u64 (word F 1 : Int), .int .u64 (word F 2 : Int), .int .u64 (word F 3 : Int)] 24)).alloc (.cells #[.int .u64 (word G 0 : Int), .int .u64 (word G 1 : Int), .int .u64 (word G 2 : Int), .int .u64 (word G 3 : Int)] 24) = v3 at TF TG B3 ⊢
  have B3A : Aside (Below W.heap.size W v3) := B3
  clear B3
  obtain ⟨bf, hbf⟩ : ∃ bf, W.heap.size = bf := ⟨_, rfl⟩
  obtain ⟨bg, hbg⟩ : ∃ bg, W.heap.size + 1 = bg := ⟨_, rfl⟩
  have bd : Aside (W.heap.size ≤ bf ∧ W.heap.size ≤ bg ∧ bf ≠ bg) := ⟨by omega, by omega, by omega⟩
  rw [hbf] at TF
  rw [hbg] at TG ⊢
  rw [hbf]
  clear hbf hbg
  have Kk := cknown_any v3
  go_upto_region 3 with (first
    | (go_at_call 8; refine Kk.mono ?_; clear Kk; rintro e v4 ⟨rfl, b4⟩))
  have TF4 := kept TF b4
  have TG4 := kept TG b4
  have B4A : Aside (Below W.heap.size W v4) := Rf.below_far B3A.out b4
  have Kn : Calls Tryz.prog 9 #[.int .i64 (n : Int), .int .i64 32768] v4 _ := new_x W v4 n 32768 n1 n8 (by omega) (by omega) B4A.out
  clear TF TG B3A b4
  by_cases k12 : k ≤ 12
  rotate_left
  · have k12i : (12 : Int) < (k : Int) := by omega
    clear k12 Kn
    go_wp2_with fail
    go_ret
    exact ⟨rfl, B4A.out⟩
  have k12i : ¬ (12 : Int) < (k : Int) := by omega
  have kA : Aside (k ≤ 12) := k12
  clear k12
  go_upto_region 10 with (first
    | (go_at_call 9; refine Kn.mono ?_; clear Kn; rintro e w5 ⟨S, rfl, f5, x5, b5⟩; have Kc := cached_x x5 on)
    | (go_at_call 10; refine Kc.mono ?_; clear Kc; rintro e w6 ⟨rfl, x6, u6⟩))
  have TF6 := u6.tab (kept TF4 b5)
  have TG6 := u6.tab (kept TG4 b5)
  clear TF4 TG4 b5 f5 x5 u6 B4A
  have lowF : Aside (∀ x y, x < 256 → y < 256 → (∀ j, j < n → x.testBit j = y.testBit j) → trimF F n (8 - n) x = trimF F n (8 - n) y) := trim_low F n8
  have lowG : Aside (∀ x y, x < 256 → y < 256 → (∀ j, j < n → x.testBit j = y.testBit j) → trimF G n (8 - n) x = trimF G n (8 - n) y) := trim_low G n8
  have KF := fun u => trim_any F n n8 u
  have KG := fun u => trim_any G n n8 u
  generalize trimF F n (8 - n) = F' at lowF KF
  generalize trimF G n (8 - n) = G' at lowG KG
  have hfg := bd.out.2.2
  unfold tab at KF KG
  refine wp_region_listed (by kernel_rfl) (PG w6.drew bf bg F' G' 44 (fun i => if i = 0 then tab F else if i = 1 then .int .i64 (n : Int) else if i = 2 then tab F' else if i = 3 then tab G else if i = 4 then .int .i64 (n : Int) else tab G') _) (by kernel_rfl) ?_ ?_ (PG.start _)
  · intro listed i o a w' ho hn hi hdep hcl g
    have hi8 : i < 8 := (Array.getElem?_eq_some_iff.1 ho).1
    have c7 : listed.getD 7 false = true → listed.getD 6 false = true := fun q => hcl 7 _ q rfl { on := 6, ground := .chain } (by simp) (by decide)
    have c6 : listed.getD 6 false = true → listed.getD 0 false = true ∧ listed.getD 1 false = true ∧ listed.getD 2 false = true ∧ listed.getD 3 false = true ∧ listed.getD 4 false = true ∧ listed.getD 5 false = true := fun q => by
      have h5 : listed.getD 5 false = true := hcl 6 _ q rfl { on := 5, ground := .chain } (by simp) (by decide)
      exact ⟨hcl 6 _ q rfl { on := 0, ground := .phase } (by simp) (by decide), hcl 6 _ q rfl { on := 1, ground := .phase } (by simp) (by decide), hcl 6 _ q rfl { on := 2, ground := .data } (by simp) (by decide), hcl 5 _ h5 rfl { on := 3, ground := .data } (by simp) (by decide), hcl 5 _ h5 rfl { on := 4, ground := .data } (by simp) (by decide), h5⟩
    have q7 : a.tmps.getD 7 undef = .pointer (some ⟨bf, 0, none⟩) := g.other 7 (by omega)
    have q8 : a.tmps.getD 8 undef = .pointer (some ⟨bg, 0, none⟩) := g.other 8 (by omega)
    have q13 : a.tmps.getD 13 undef = .int .i64 (n : Int) := g.other 13 (by omega)
    have n6' : i < 6 → listed.getD 6 false = false := fun hi6 => by
      cases q : listed.getD 6 false with
      | false => rfl
      | true =>
        obtain ⟨p0, p1, p2, p3, p4, p5⟩ := c6 q
        have : i = 0 ∨ i = 1 ∨ i = 2 ∨ i = 3 ∨ i = 4 ∨ i = 5 := by omega
        rcases this with rfl | rfl | rfl | rfl | rfl | rfl
        · rw [p0] at hi; cases hi
        · rw [p1] at hi; cases hi
        · rw [p2] at hi; cases hi
        · rw [p3] at hi; cases hi
        · rw [p4] at hi; cases hi
        · rw [p5] at hi; cases hi
    have n7' : listed.getD 6 false = false → listed.getD 7 false = false := fun q => by
      cases r : listed.getD 7 false with
      | false => rfl
      | true => rw [c7 r] at q; cases q
    rcases lt8' hi8 with rfl | rfl | rfl | rfl | rfl | rfl | rfl | rfl
    · simp at ho
      subst ho
      have n6 := n6' (by omega)
      have n7 := n7' n6
      obtain ⟨e0, e1, e2, e3⟩ := (kept TF6.drew (g.now n6 n7)).copy
      refine wpOp_plain rfl rfl ?_
      go_simp
      exact g.step (i := 0) (by omega) (show 44 + 6 ≤ 173 by omega) n6 n7 (Below.refl _ _)
    · simp at ho
      subst ho
      have n6 := n6' (by omega)
      have n7 := n7' n6
      refine wpOp_plain rfl rfl ?_
      go_simp
      exact g.step (i := 1) (by omega) (show 44 + 6 ≤ 173 by omega) n6 n7 (Below.refl _ _)
    · simp at ho
      subst ho
      have n6 := n6' (by omega)
      have n7 := n7' n6
      have v0 : a.tmps.getD 44 undef = tab F := g.vals 0 (by omega) (hdep { on := 0, ground := .data } (by simp) (by decide))
      have v1 : a.tmps.getD 45 undef = .int .i64 (n : Int) := g.vals 1 (by omega) (hdep { on := 1, ground := .data } (by simp) (by decide))
      unfold tab at v0
      refine wpOp_plain rfl rfl ?_
      go_simp
      refine (KF _).mono ?_
      rintro e w'' ⟨rfl, b''⟩
      exact g.step (i := 2) (by omega) (show 44 + 6 ≤ 173 by omega) n6 n7 b''
    · simp at ho
      subst ho
      have n6 := n6' (by omega)
      have n7 := n7' n6
      obtain ⟨e0, e1, e2, e3⟩ := (kept TG6.drew (g.now n6 n7)).copy
      refine wpOp_plain rfl rfl ?_
      go_simp
      exact g.step (i := 3) (by omega) (show 44 + 6 ≤ 173 by omega) n6 n7 (Below.refl _ _)
    · simp at ho
      subst ho
      have n6 := n6' (by omega)
      have n7 := n7' n6
      refine wpOp_plain rfl rfl ?_
      go_simp
      exact g.step (i := 4) (by omega) (show 44 + 6 ≤ 173 by omega) n6 n7 (Below.refl _ _)
    · simp at ho
      subst ho
      have n6 := n6' (by omega)
      have n7 := n7' n6
      have v0 : a.tmps.getD 47 undef = tab G := g.vals 3 (by omega) (hdep { on := 3, ground := .data } (by simp) (by decide))
      have v1 : a.tmps.getD 48 undef = .int .i64 (n : Int) := g.vals 4 (by omega) (hdep { on := 4, ground := .data } (by simp) (by decide))
      unfold tab at v0
      refine wpOp_plain rfl rfl ?_
      go_simp
      refine (KG _).mono ?_
      rintro e w'' ⟨rfl, b''⟩
      exact g.step (i := 5) (by omega) (show 44 + 6 ≤ 173 by omega) n6 n7 b''
    · simp at ho
      subst ho
      have n7 := n7' hi
      have v0 : a.tmps.getD 46 undef = tab F' := g.vals 2 (by omega) (hdep { on := 2, ground := .data } (by simp) (by decide))
      have T := kept TF6.drew (g.now hi n7)
      obtain ⟨e0, e1, e2, e3⟩ := T.copy
      have z0 := T.free 0
      have z1 := T.free 1
      have z2 := T.free 2
      have z3 := T.free 3
      unfold tab at v0
      refine wpOp_plain rfl rfl ?_
      go_simp
      exact g.store hn hi n7
    · simp at ho
      subst ho
      have h6 : listed.getD 6 false = true := hdep { on := 6, ground := .chain } (by simp) (by decide)
      have v0 : a.tmps.getD 49 undef = tab G' := g.vals 5 (by omega) (hdep { on := 5, ground := .data } (by simp) (by decide))
      have g2 := (g.store2 hn h6 hi).1
      have T : IsTab w' bg G := by
        obtain ⟨_, wy, by', ey⟩ := g.store2 hn h6 hi
        rw [ey]
        exact (Rf.laid_turned wy bf F').tab (kept TG6.drew by') hfg.symm
      obtain ⟨e0, e1, e2, e3⟩ := T.copy
      have z0 := T.free 0
      have z1 := T.free 1
      have z2 := T.free 2
      have z3 := T.free 3
      unfold tab at v0
      refine wpOp_plain rfl rfl ?_
      go_simp
      exact g2
  · intro listed a w' hall g
    obtain ⟨wy, by', ey⟩ := g.world
    rw [if_pos (hall 7 (show 7 < 8 by omega))] at ey
    have ea : a = Rf.vfin [(44, tab F), (45, .int .i64 (n : Int)), (46, tab F'), (47, tab G), (48, .int .i64 (n : Int)), (49, tab G')] _ := Rf.vact_fin _ _ _ (by simp) g.size g.defers (fun s hs => g.other s (by
        rcases Nat.lt_or_ge s 44 with q | q
        · exact .inl q
        · rcases Nat.lt_or_ge s 50 with r | r
          · have c : @Eq Nat s 44 ∨ @Eq Nat s 45 ∨ @Eq Nat s 46 ∨ @Eq Nat s 47 ∨ @Eq Nat s 48 ∨ @Eq Nat s 49 := by omega
            rcases c with rfl | rfl | rfl | rfl | rfl | rfl <;> exact absurd (by simp) hs
          · exact .inr r)) (fun k hk => by
        simp only [List.mem_cons, List.not_mem_nil, or_false] at hk
        rcases hk with rfl | rfl | rfl | rfl | rfl | rfl
        · exact ⟨show @LT.lt Nat _ 44 173 by omega, g.vals 0 (by omega) (hall 0 (show 0 < 8 by omega))⟩
        · exact ⟨show @LT.lt Nat _ 45 173 by omega, g.vals 1 (by omega) (hall 1 (show 1 < 8 by omega))⟩
        · exact ⟨show @LT.lt Nat _ 46 173 by omega, g.vals 2 (by omega) (hall 2 (show 2 < 8 by omega))⟩
        · exact ⟨show @LT.lt Nat _ 47 173 by omega, g.vals 3 (by omega) (hall 3 (show 3 < 8 by omega))⟩
        · exact ⟨show @LT.lt Nat _ 48 173 by omega, g.vals 4 (by omega) (hall 4 (show 4 < 8 by omega))⟩
        · exact ⟨show @LT.lt Nat _ 49 173 by omega, g.vals 5 (by omega) (hall 5 (show 5 < 8 by omega))⟩)
    clear g hall
    subst ea
    simp only [Rf.vfin, Act.put, List.setIfInBounds_toArray, List.set_cons_succ, List.set_cons_zero]
    have t1 := Rf.laid_turned wy bf F'
    have t2 := Rf.laid_turned (Rf.laid wy bf F') bg G'
    have bw : Below w6.heap.size w6 wy := ⟨by'.os, by'.tape, by'.output, by'.size, by'.block⟩
    have xy := x6.below bw
    have TFy := kept TF6 bw
    have TGy := kept TG6 bw
    have keep : ∀ k, k < wy.heap.size → k ≠ bf → k ≠ bg → w'.heap[k]? = wy.heap[k]? := fun k hk h1 h2 => by
      rw [ey, t2.block k (Nat.lt_of_lt_of_le hk t1.size) h2, t1.block k hk h1]
    have TF7 : IsTab w' bf F' := by rw [ey]; exact t2.tab (Rf.laid_tab TFy F') hfg
    have TG7 : IsTab w' bg G' := by rw [ey]; exact Rf.laid_tab (t1.tab TGy hfg.symm) G'
    have Bw7 : Below W.heap.size W w' := by
      have b1 := xy.base
      rw [ey]
      exact (b1.trans (t1.below b1.size bd.out.1)).trans (t2.below (Nat.le_trans b1.size t1.size) bd.out.2.1)
    have x7 : Sx W w' S n 32768 [(0, c0), (1, c1)] 0 := xy.kept' Bw7 fun k hk => by
      by_cases c : k = bf
      · subst c; exact .inr ⟨_, _, _, TFy, by decide⟩
      · by_cases d : k = bg
        · subst d; exact .inr ⟨_, _, _, TGy, by decide⟩
        · exact .inl (keep k hk c d)
    clear t1 t2 bw xy TFy TGy keep ey by' TF6 TG6 KF KG x6 hfg Bw7
    unfold tab
    have p6 := pow63 n8
    have K1 := make_n x7 F' lowF.out 63 (by omega) (by decide)
    unfold tab at K1
    obtain ⟨y0, y1, y2, y3⟩ := TF7.copy
    go_upto_region 12 with (first
      | (go_at_call 12; refine K1.mono ?_; clear K1; rintro e w8 ⟨a, rfl, x8, u8⟩))
    have TF8 := u8.tab TF7
    have TG8 := u8.tab TG7
    have K2 := make_n x8 G' lowG.out 63 (by omega) (by decide)
    unfold tab at K2
    clear y0 y1 y2 y3 TF7 TG7 x7 u8
    obtain ⟨y0, y1, y2, y3⟩ := TG8.copy
    go_upto_region 13 with (first
      | (go_at_call 12; refine K2.mono ?_; clear K2; rintro e w9 ⟨b, rfl, x9, u9⟩))
    have TF9 := u9.tab TF8
    have TG9 := u9.tab TG8
    clear y0 y1 y2 y3 TF8 TG8 x8 u9 lowF lowG
    by_cases hv : 0 ≤ v ∧ v < n
    · obtain ⟨v1, v2⟩ := hv
      obtain ⟨u, rfl⟩ : ∃ u : Nat, v = (u : Int) := ⟨v.toNat, by omega⟩
      have un : u < n := by omega
      have uni : ¬ (n : Int) ≤ (u : Int) := by omega
      have C0 := com_x (v := u) x9 (x := a) (y := b) (X := F') (Y := G') (.tail _ (.head _)) (.head _) un 63 (by omega) (by decide)
      have KC := fun w => Rf.compose_any F' G' u (by omega) w
      have EC := com_tab (v := u) F' G'
      generalize (fun x => (G' x && fixF F' u true x) || (!G' x && fixF F' u false x)) = Y at KC EC
      have ECA : Aside (Eqt (comF u F' G') Y) := EC
      clear v1 v2 un EC
      go_upto_region 19 with (first
        | (go_at_call 13; refine C0.mono ?_; clear C0; rintro e w10 ⟨x, rfl, x10, u10⟩))
      have TF10 := u10.tab TF9
      have TG10 := u10.tab TG9
      have KI : Aside (∀ u, Below w10.heap.size w10 u → Calls Tryz.prog 14 #[.pointer (some ⟨S, 0, none⟩), .int .u32 (x : Int), tab Y] u fun e w' => e = .returned (.bool true) ∧ Below u.heap.size u w') := fun u hu => is_x (x10.below hu) (.head _) ECA.out
      unfold tab at KC KI
      obtain ⟨y0, y1, y2, y3⟩ := TF10.copy
      obtain ⟨z0', z1', z2', z3'⟩ := TG10.copy
      clear TF9 TG9 x9 u10
      go_upto_region 21 with (first
        | (go_at_call 15; refine (KC _).mono ?_; clear KC; rintro e w11 ⟨rfl, b11⟩; have K7 := KI.out w11 b11)
        | (go_at_call 14; refine K7.mono ?_; clear K7; rintro e wt ⟨rfl, b12⟩))
      have b12' := Rf.below_far b11 b12
      have TFt := kept TF10 b12'
      have TGt := kept TG10 b12'
      have xt := x10.below b12'
      have hal : (a, F') ∈ [(x, comF u F' G'), (b, G'), (a, F'), (0, c0), (1, c1)] := .tail _ (.tail _ (.head _))
      have hbl : (b, G') ∈ [(x, comF u F' G'), (b, G'), (a, F'), (0, c0), (1, c1)] := .tail _ (.head _)
      clear y0 y1 y2 y3 z0' z1' z2' z3' TF10 TG10 x10 b11 b12 b12' KI ECA
      obtain ⟨B, hB⟩ : ∃ B, wt.heap.size = B := ⟨_, rfl⟩
      have BA : Aside (wt.heap.size = B) := hB
      have lt8 : Aside (bf < B ∧ bg < B ∧ W.heap.size ≤ B) := ⟨by rw [← hB]; exact TFt.lt, by rw [← hB]; exact TGt.lt, by rw [← hB]; exact xt.base.size⟩
      have TFtA : Aside (IsTab wt bf F') := TFt
      have TGtA : Aside (IsTab wt bg G') := TGt
      have xtA : Aside (∃ l, Sx W wt S n 32768 l 189 ∧ (a, F') ∈ l ∧ (b, G') ∈ l) := ⟨_, xt, hal, hbl⟩
      have kn : ∃ rt : Bool, decide (k = n) = rt := ⟨_, rfl⟩
      obtain ⟨rt0, hr3⟩ := kn
      have hr2 : decide ((k : Int) = (n : Int)) = rt0 := by rw [← hr3]; exact decide_eq_decide.2 (by omega)
      have hr1 : ((k : Int) == (n : Int)) = rt0 := (beq_cast k n).trans hr3
      have rtA : Aside (rt0 = true ↔ k = n ∧ ∀ j, j < 0 → 0 ≤ Z j ∧ Z j < n) := ⟨fun q => ⟨of_decide_eq_true (hr3.trans q), fun j hj => by omega⟩, fun q => hr3.symm.trans (decide_eq_true q.1)⟩
      clear hB TFt TGt xt hal hbl
      go_upto_region 24 with fail
      clear hr1 hr2 hr3
      go_loopg [21, 22, 23] k (fun gn s21 s22 s23 wr => ∃ (i : Nat) (rt : Bool) (am : Option Addr) (cm : Nat), i + gn = k ∧ s21 = .bool rt ∧ s22 = .slice am i cm ∧ s23 = .int .i64 (i : Int) ∧ Aside (rt = true ↔ k = n ∧ ∀ j, j < i → 0 ≤ Z j ∧ Z j < n) ∧ Aside (∃ l, Sx W wr S n 32768 l 189 ∧ (a, F') ∈ l ∧ (b, G') ∈ l) ∧ Aside (Rf.Own wr B am (tsN (fun j => varT (Z j)) i) cm) ∧ Aside (IsTab wr bf F') ∧ Aside (IsTab wr bg G') ∧ Aside (B ≤ wr.heap.size))
      case atStart => exact ⟨0, rt0, none, 0, by omega, rfl, rfl, rfl, rtA, xtA, Rf.Own.nil _ _, TFtA, TGtA, by show _ ≤ _; have := BA.out; omega⟩
      case round =>
        obtain ⟨i, rt, am, cm, hi, rfl, rfl, rfl, rtI, x9, om, tf, tg, B9⟩ := hrel
        have hI : Aside (i + gk = k) := hi
        clear hi xtA TFtA TGtA rtA
        obtain ⟨l9, xl9, ha9, hb9⟩ := x9.out
        have Z9 := ZA.out.kept xl9.base
        have xl9A : Aside (Sx W wr S n 32768 l9 189 ∧ (a, F') ∈ l9 ∧ (b, G') ∈ l9) := ⟨xl9, ha9, hb9⟩
        clear xl9 ha9 hb9 x9
        by_cases ik : i < k
        · have iki : (i : Int) < (k : Int) := by omega
          have iA : Aside (i < k) := ik
          obtain ⟨bz, oz, rfl, hbz⟩ := Z9.some (by omega)
          have cz := Z9.get ik
          have i12 : (i : Int) < 12 := by omega
          clear ik hbz Z9
          go_upto_region 26 with fail
          go_cut [21] (fun s wc => ∃ rt' : Bool, s = .bool rt' ∧ Aside (rt' = true ↔ k = n ∧ ∀ j, j < i + 1 → 0 ≤ Z j ∧ Z j < n) ∧ wc = wr)
          case first =>
            cases rt with
            | false =>
              have nx : Aside (false = true ↔ k = n ∧ ∀ j, j < i + 1 → 0 ≤ Z j ∧ Z j < n) := ⟨fun q => absurd q Bool.false_ne_true, fun q => rtI.out.2 ⟨q.1, fun j hj => q.2 j (by omega)⟩⟩
              go_wp2_with fail
              go_meet
              exact ⟨false, rfl, nx, rfl⟩
            | true =>
              obtain ⟨zi, hzi⟩ : ∃ zi, Z i = zi := ⟨_, rfl⟩
              rw [hzi] at cz
              have all : Aside (∀ b : Bool, (b = true ↔ 0 ≤ zi ∧ zi < n) → (b = true ↔ k = n ∧ ∀ j, j < i + 1 → 0 ≤ Z j ∧ Z j < n)) := fun b hb => by
                rw [hb]
                have r := rtI.out.1 rfl
                exact ⟨fun q => ⟨r.1, fun j hj => by
                  by_cases e : j = i
                  · rw [e, hzi]; exact q
                  · exact r.2 j (by omega)⟩, fun q => by have := q.2 i (by omega); rwa [hzi] at this⟩
              clear hzi rtI
              by_cases z1 : 0 ≤ zi
              · by_cases z2 : zi < n
                · go_wp2_with fail
                  go_meet
                  exact ⟨true, by simp, all.out true ⟨fun _ => ⟨z1, z2⟩, fun _ => rfl⟩, rfl⟩
                · go_wp2_with fail
                  go_meet
                  exact ⟨false, by simp, all.out false ⟨fun q => absurd q Bool.false_ne_true, fun q => absurd q.2 (by omega)⟩, rfl⟩
              · go_wp2_with fail
                go_meet
                exact ⟨false, by simp, all.out false ⟨fun q => absurd q Bool.false_ne_true, fun q => absurd q.1 (by omega)⟩, rfl⟩
          case rest =>
            obtain ⟨rt', rfl, rt'A, rfl⟩ := hcut
            have K3 := varT_any (Z i) wc
            have ts : Aside (tsN (fun j => varT (Z j)) i ++ [varT (Z i)] = tsN (fun j => varT (Z j)) (i + 1)) := ts_next (fun j => varT (Z j)) i
            generalize hzi : Z i = zi at K3 cz ts
            clear hzi
            unfold tab at K3
            go_upto_region 25 with (first
              | (go_at_call 16; refine K3.mono ?_; clear K3; rintro e w10 ⟨rfl, b10⟩; have om10 := (om.out.below b10).new (.cells #[.int .u64 (word (varT zi) 0 : Int), .int .u64 (word (varT zi) 1 : Int), .int .u64 (word (varT zi) 2 : Int), .int .u64 (word (varT zi) 3 : Int)] 24))
              | (at_builtin; refine Rf.append_tab om10 (varT zi) w10.heap.size (Go.Deep.blk_alloc_new _ _) (by rw [ts_len]; have := iA.out; have := kA.out; omega) (by have := B9.out; have := b10.size; simp; omega) rfl (.tmp 127) (.tmp 133) rfl (by rw [ts_len]; rfl) rfl ?_; intro g c11 w11 om11 gr11 at11 lt11; rw [ts_len]; clear at11 lt11))
            have B10 : B ≤ w10.heap.size := Nat.le_trans B9.out b10.size
            have xb := Rf_grown_sx ((xl9A.out.1.below b10).below (nb w10 (.cells #[.int .u64 (word (varT zi) 0 : Int), .int .u64 (word (varT zi) 1 : Int), .int .u64 (word (varT zi) 2 : Int), .int .u64 (word (varT zi) 3 : Int)] 24))) lt8.out.2.2 (by simp; omega) om10 gr11
            have Bw : Below B wc w11 := by
              have q := b10.alloc (B := wc.heap.size) b10.size (.cells #[.int .u64 (word (varT zi) 0 : Int), .int .u64 (word (varT zi) 1 : Int), .int .u64 (word (varT zi) 2 : Int), .int .u64 (word (varT zi) 3 : Int)] 24)
              exact Below.trans ⟨q.os, q.tape, q.output, q.size, fun k hk => q.block k (Nat.lt_of_lt_of_le hk B9.out)⟩ xb.2
            have x11 : Aside (∃ l, Sx W w11 S n 32768 l 189 ∧ (a, F') ∈ l ∧ (b, G') ∈ l) := ⟨_, xb.1, xl9A.out.2⟩
            have tf11 : Aside (IsTab w11 bf F') := tf.out.below Bw lt8.out.1
            have tg11 : Aside (IsTab w11 bg G') := tg.out.below Bw lt8.out.2.1
            have B11 : Aside (B ≤ w11.heap.size) := by show B ≤ _; have := Bw.size; have := B9.out; omega
            rw [ts.out] at om11
            have omA : Aside (Rf.Own w11 B (some ⟨g, 0, none⟩) (tsN (fun j => varT (Z j)) (i + 1)) c11) := om11
            clear om tf tg B9 b10 om10 gr11 om11 Bw B10 xb xl9A ts
            go_wp2_with fail
            go_roundg (gk - 1)
            case measure => have := hI.out; have := iA.out; omega
            case rel =>
              have := hI.out
              have := iA.out
              exact ⟨i + 1, rt', some ⟨g, 0, none⟩, c11, by omega, rfl, rfl, rfl, rt'A, x11, omA, tf11, tg11, B11⟩
        · have ei : i = k := by have := hI.out; omega
          subst ei
          have iki : ¬ (i : Int) < (i : Int) := by omega
          clear ik
          go_upto_region 28 with fail
          cases rt with
          | false =>
            have no : ¬ (i = n ∧ ∀ j, j < i → 0 ≤ Z j ∧ Z j < n) := fun q => absurd (rtI.out.2 q) Bool.false_ne_true
            have noA : Aside (¬ (i = n ∧ ∀ j, j < i → 0 ≤ Z j ∧ Z j < n)) := no
            clear no rtI
            have KR : Aside (∀ (u : World) (ad' : Option Addr) (c' : Nat), Below wr.heap.size wr u → IntsAt u ad' i Z → Calls Tryz.prog 17 #[.pointer (some ⟨S, 0, none⟩), .int .u32 (a : Int), .slice ad' i c'] u fun e w' => e = .returned (.tuple #[.int .u32 0, .int .i64 40]) ∧ Below u.heap.size u w') := fun u ad' c' hu hz => by
              have xu := xl9A.out.1.below hu
              by_cases e : i = n
              · subst e
                refine ren_badx xu xl9A.out.2.1 hz ?_
                by_cases all : ∃ u, u < i ∧ (Z u < 0 ∨ (i : Int) ≤ Z u)
                · exact all
                · exact absurd ⟨rfl, fun j hj => by
                    by_cases c : 0 ≤ Z j ∧ Z j < i
                    · exact c
                    · exact absurd ⟨j, hj, by omega⟩ all⟩ noA.out
              · refine (ren_lenx xu xl9A.out.2.1 ad' i c' e).mono ?_
                rintro e' w' ⟨rfl, rfl⟩
                exact ⟨rfl, Below.refl _ _⟩
            have bs : Aside (Below W.heap.size W wr) := xl9A.out.1.base
            have k12' : i ≤ 1000000 := by have := kA.out; omega
            go_wp2_with (first
              | (at_builtin; refine copy_ints Z9 k12' rfl _ (.tmp 138) rfl rfl rfl ?_; intro ad' c' w10 z10 b10; have K10 := KR.out w10 ad' c' b10 z10)
              | (go_at_call 17; refine K10.mono ?_; clear K10; rintro e w11 ⟨rfl, b11⟩))
            go_ret
            exact ⟨rfl, Rf.below_far (Rf.below_far bs.out b10) b11⟩
          | true =>
            obtain ⟨e, rng⟩ := rtI.out.1 rfl
            subst e
            have rngA : Aside (∀ j, j < i → 0 ≤ Z j ∧ Z j < i) := rng
            have KR : Aside (∀ (u : World) (ad' : Option Addr) (c' : Nat), Below wr.heap.size wr u → IntsAt u ad' i Z → Calls Tryz.prog 17 #[.pointer (some ⟨S, 0, none⟩), .int .u32 (a : Int), .slice ad' i c'] u (LeftX W S i 32768 l9 (189 + 63) (sbF i (fun u => Rf.M (Z u).toNat) F') u)) := fun u ad' c' hu hz => ren_x (xl9A.out.1.below hu) xl9A.out.2.1 hz rngA.out 63 (by omega) (by decide)
            have ES : Aside (Eqt (sbF i (fun u => Rf.M (Z u).toNat) F') (sbF i (fun j => (tsN (fun j => varT (Z j)) i).getD j fun _ => false) F')) := sb_congr n8 (Eqt.refl _) fun u hu => by
              rw [ts_get (fun j => varT (Z j)) hu]
              unfold varT
              rw [if_pos (by have := rng u hu; omega)]
              exact Eqt.refl _
            have KS : Aside (∀ u, TabsAt u am i (fun j => (tsN (fun j => varT (Z j)) i).getD j fun _ => false) → Calls Tryz.prog 18 #[tab F', .slice am i cm] u fun e w' => e = .returned (tab (sbF i (fun j => (tsN (fun j => varT (Z j)) i).getD j fun _ => false) F')) ∧ Below u.heap.size u w') := fun u hu => rsubst_any F' am i cm _ u hu n8
            generalize hX : sbF i (fun u => Rf.M (Z u).toNat) F' = X at KR ES
            generalize hY : sbF i (fun j => (tsN (fun j => varT (Z j)) i).getD j fun _ => false) F' = Y at KS ES
            have I1 : Aside (∀ u y, Sx W u S i 32768 ((y, X) :: l9) (189 + 63) → Calls Tryz.prog 14 #[.pointer (some ⟨S, 0, none⟩), .int .u32 (y : Int), tab Y] u fun e w' => e = .returned (.bool true) ∧ Below u.heap.size u w') := fun u y hu => is_x hu (.head _) ES.out
            have I2 : Aside (∀ u y, Sx W u S i 32768 ((y, X) :: l9) (189 + 63) → Calls Tryz.prog 14 #[.pointer (some ⟨S, 0, none⟩), .int .u32 (a : Int), tab F'] u fun e w' => e = .returned (.bool true) ∧ Below u.heap.size u w') := fun u y hu => is_x hu (.tail _ xl9A.out.2.1) (Eqt.refl _)
            have I3 : Aside (∀ u y, Sx W u S i 32768 ((y, X) :: l9) (189 + 63) → Calls Tryz.prog 14 #[.pointer (some ⟨S, 0, none⟩), .int .u32 (b : Int), tab G'] u fun e w' => e = .returned (.bool true) ∧ Below u.heap.size u w') := fun u y hu => is_x hu (.tail _ xl9A.out.2.2) (Eqt.refl _)
            unfold tab at KS I1 I2 I3
            have k12' : i ≤ 1000000 := by omega
            clear hX hY rng rtI ES
            go_upto_region 29 with (first
              | (at_builtin; refine copy_ints Z9 k12' rfl _ (.tmp 138) rfl rfl rfl ?_; intro ad' c' w10 z10 b10; have K10 := KR.out w10 ad' c' b10 z10)
              | (go_at_call 17; refine K10.mono ?_; clear K10; rintro e w11 ⟨y, rfl, x11, u11⟩))
            have tf11 := u11.tab (kept tf.out b10)
            have tg11 := u11.tab (kept tg.out b10)
            have om11 := u11.tabs (om.out.below b10)
            have K11 := KS.out w11 (by have := om11.tabs; rwa [ts_len] at this)
            obtain ⟨y0, y1, y2, y3⟩ := tf11.copy
            clear tf tg om b10 z10 u11 om11 KR KS
            go_wp2_with (first
              | (go_at_call 18; refine K11.mono ?_; clear K11; rintro e w12 ⟨rfl, b12⟩; have x12 := x11.below b12; have tf12 := kept tf11 b12; have tg12 := kept tg11 b12; have J1 := I1.out w12 y x12; clear x11 tf11 tg11)
              | (go_at_call 14; refine J1.mono ?_; clear J1; rintro e w13 ⟨rfl, b13⟩; have x13 := x12.below b13; have tf13 := kept tf12 b13; have tg13 := kept tg12 b13; obtain ⟨q0, q1, q2, q3⟩ := tf13.copy; have J2 := I2.out w13 y x13; clear x12 tf12 tg12)
              | (go_at_call 14; refine J2.mono ?_; clear J2; rintro e w14 ⟨rfl, b14⟩; have x14 := x13.below b14; have tg14 := kept tg13 b14; obtain ⟨r0, r1, r2, r3⟩ := tg14.copy; have J3 := I3.out w14 y x14; clear x13 tf13 tg13)
              | (go_at_call 14; refine J3.mono ?_; clear J3; rintro e w15 ⟨rfl, b15⟩; have x15 := x14.below b15))
            go_ret
            exact ⟨rfl, x15.base⟩
    · have hv' : v < 0 ∨ (n : Int) ≤ v := by omega
      have C0 := com_varx x9 (x := a) (y := b) (X := F') (Y := G') (.tail _ (.head _)) (.head _) v hv'
      have hvA : Aside (v < 0 ∨ (n : Int) ≤ v) := hv'
      have hvd : decide (v < 0) = true ∨ decide (v < 0) = false ∧ (n : Int) ≤ v := by
        by_cases c : v < 0
        · exact .inl (decide_eq_true c)
        · exact .inr ⟨decide_eq_false c, by omega⟩
      clear hv hv'
      go_upto_region 16 with (first
        | (go_at_call 13; refine C0.mono ?_; clear C0; rintro e wt ⟨rfl, b12⟩))
      have TFt := kept TF9 b12
      have TGt := kept TG9 b12
      have xt := (x9.below b12).more (b' := 189) (by omega)
      have hal : (a, F') ∈ [(b, G'), (a, F'), (0, c0), (1, c1)] := .tail _ (.head _)
      have hbl : (b, G') ∈ [(b, G'), (a, F'), (0, c0), (1, c1)] := .head _
      clear TF9 TG9 x9 b12
      rcases hvd with hvd | ⟨hvd, hvn⟩
      · go_upto_region 21 with fail
        obtain ⟨B, hB⟩ : ∃ B, wt.heap.size = B := ⟨_, rfl⟩
        have BA : Aside (wt.heap.size = B) := hB
        have lt8 : Aside (bf < B ∧ bg < B ∧ W.heap.size ≤ B) := ⟨by rw [← hB]; exact TFt.lt, by rw [← hB]; exact TGt.lt, by rw [← hB]; exact xt.base.size⟩
        have TFtA : Aside (IsTab wt bf F') := TFt
        have TGtA : Aside (IsTab wt bg G') := TGt
        have xtA : Aside (∃ l, Sx W wt S n 32768 l 189 ∧ (a, F') ∈ l ∧ (b, G') ∈ l) := ⟨_, xt, hal, hbl⟩
        have kn : ∃ rt : Bool, decide (k = n) = rt := ⟨_, rfl⟩
        obtain ⟨rt0, hr3⟩ := kn
        have hr2 : decide ((k : Int) = (n : Int)) = rt0 := by rw [← hr3]; exact decide_eq_decide.2 (by omega)
        have hr1 : ((k : Int) == (n : Int)) = rt0 := (beq_cast k n).trans hr3
        have rtA : Aside (rt0 = true ↔ k = n ∧ ∀ j, j < 0 → 0 ≤ Z j ∧ Z j < n) := ⟨fun q => ⟨of_decide_eq_true (hr3.trans q), fun j hj => by omega⟩, fun q => hr3.symm.trans (decide_eq_true q.1)⟩
        clear hB TFt TGt xt hal hbl
        go_upto_region 24 with fail
        clear hr1 hr2 hr3
        go_loopg [21, 22, 23] k (fun gn s21 s22 s23 wr => ∃ (i : Nat) (rt : Bool) (am : Option Addr) (cm : Nat), i + gn = k ∧ s21 = .bool rt ∧ s22 = .slice am i cm ∧ s23 = .int .i64 (i : Int) ∧ Aside (rt = true ↔ k = n ∧ ∀ j, j < i → 0 ≤ Z j ∧ Z j < n) ∧ Aside (∃ l, Sx W wr S n 32768 l 189 ∧ (a, F') ∈ l ∧ (b, G') ∈ l) ∧ Aside (Rf.Own wr B am (tsN (fun j => varT (Z j)) i) cm) ∧ Aside (IsTab wr bf F') ∧ Aside (IsTab wr bg G') ∧ Aside (B ≤ wr.heap.size))
        case atStart => exact ⟨0, rt0, none, 0, by omega, rfl, rfl, rfl, rtA, xtA, Rf.Own.nil _ _, TFtA, TGtA, by show _ ≤ _; have := BA.out; omega⟩
        case round =>
          obtain ⟨i, rt, am, cm, hi, rfl, rfl, rfl, rtI, x9, om, tf, tg, B9⟩ := hrel
          have hI : Aside (i + gk = k) := hi
          clear hi xtA TFtA TGtA rtA
          obtain ⟨l9, xl9, ha9, hb9⟩ := x9.out
          have Z9 := ZA.out.kept xl9.base
          have xl9A : Aside (Sx W wr S n 32768 l9 189 ∧ (a, F') ∈ l9 ∧ (b, G') ∈ l9) := ⟨xl9, ha9, hb9⟩
          clear xl9 ha9 hb9 x9
          by_cases ik : i < k
          · have iki : (i : Int) < (k : Int) := by omega
            have iA : Aside (i < k) := ik
            obtain ⟨bz, oz, rfl, hbz⟩ := Z9.some (by omega)
            have cz := Z9.get ik
            have i12 : (i : Int) < 12 := by omega
            clear ik hbz Z9
            go_upto_region 26 with fail
            go_cut [21] (fun s wc => ∃ rt' : Bool, s = .bool rt' ∧ Aside (rt' = true ↔ k = n ∧ ∀ j, j < i + 1 → 0 ≤ Z j ∧ Z j < n) ∧ wc = wr)
            case first =>
              cases rt with
              | false =>
                have nx : Aside (false = true ↔ k = n ∧ ∀ j, j < i + 1 → 0 ≤ Z j ∧ Z j < n) := ⟨fun q => absurd q Bool.false_ne_true, fun q => rtI.out.2 ⟨q.1, fun j hj => q.2 j (by omega)⟩⟩
                go_wp2_with fail
                go_meet
                exact ⟨false, rfl, nx, rfl⟩
              | true =>
                obtain ⟨zi, hzi⟩ : ∃ zi, Z i = zi := ⟨_, rfl⟩
                rw [hzi] at cz
                have all : Aside (∀ b : Bool, (b = true ↔ 0 ≤ zi ∧ zi < n) → (b = true ↔ k = n ∧ ∀ j, j < i + 1 → 0 ≤ Z j ∧ Z j < n)) := fun b hb => by
                  rw [hb]
                  have r := rtI.out.1 rfl
                  exact ⟨fun q => ⟨r.1, fun j hj => by
                    by_cases e : j = i
                    · rw [e, hzi]; exact q
                    · exact r.2 j (by omega)⟩, fun q => by have := q.2 i (by omega); rwa [hzi] at this⟩
                clear hzi rtI
                by_cases z1 : 0 ≤ zi
                · by_cases z2 : zi < n
                  · go_wp2_with fail
                    go_meet
                    exact ⟨true, by simp, all.out true ⟨fun _ => ⟨z1, z2⟩, fun _ => rfl⟩, rfl⟩
                  · go_wp2_with fail
                    go_meet
                    exact ⟨false, by simp, all.out false ⟨fun q => absurd q Bool.false_ne_true, fun q => absurd q.2 (by omega)⟩, rfl⟩
                · go_wp2_with fail
                  go_meet
                  exact ⟨false, by simp, all.out false ⟨fun q => absurd q Bool.false_ne_true, fun q => absurd q.1 (by omega)⟩, rfl⟩
            case rest =>
              obtain ⟨rt', rfl, rt'A, rfl⟩ := hcut
              have K3 := varT_any (Z i) wc
              have ts : Aside (tsN (fun j => varT (Z j)) i ++ [varT (Z i)] = tsN (fun j => varT (Z j)) (i + 1)) := ts_next (fun j => varT (Z j)) i
              generalize hzi : Z i = zi at K3 cz ts
              clear hzi
              unfold tab at K3
              go_upto_region 25 with (first
                | (go_at_call 16; refine K3.mono ?_; clear K3; rintro e w10 ⟨rfl, b10⟩; have om10 := (om.out.below b10).new (.cells #[.int .u64 (word (varT zi) 0 : Int), .int .u64 (word (varT zi) 1 : Int), .int .u64 (word (varT zi) 2 : Int), .int .u64 (word (varT zi) 3 : Int)] 24))
                | (at_builtin; refine Rf.append_tab om10 (varT zi) w10.heap.size (Go.Deep.blk_alloc_new _ _) (by rw [ts_len]; have := iA.out; have := kA.out; omega) (by have := B9.out; have := b10.size; simp; omega) rfl (.tmp 127) (.tmp 133) rfl (by rw [ts_len]; rfl) rfl ?_; intro g c11 w11 om11 gr11 at11 lt11; rw [ts_len]; clear at11 lt11))
              have B10 : B ≤ w10.heap.size := Nat.le_trans B9.out b10.size
              have xb := Rf_grown_sx ((xl9A.out.1.below b10).below (nb w10 (.cells #[.int .u64 (word (varT zi) 0 : Int), .int .u64 (word (varT zi) 1 : Int), .int .u64 (word (varT zi) 2 : Int), .int .u64 (word (varT zi) 3 : Int)] 24))) lt8.out.2.2 (by simp; omega) om10 gr11
              have Bw : Below B wc w11 := by
                have q := b10.alloc (B := wc.heap.size) b10.size (.cells #[.int .u64 (word (varT zi) 0 : Int), .int .u64 (word (varT zi) 1 : Int), .int .u64 (word (varT zi) 2 : Int), .int .u64 (word (varT zi) 3 : Int)] 24)
                exact Below.trans ⟨q.os, q.tape, q.output, q.size, fun k hk => q.block k (Nat.lt_of_lt_of_le hk B9.out)⟩ xb.2
              have x11 : Aside (∃ l, Sx W w11 S n 32768 l 189 ∧ (a, F') ∈ l ∧ (b, G') ∈ l) := ⟨_, xb.1, xl9A.out.2⟩
              have tf11 : Aside (IsTab w11 bf F') := tf.out.below Bw lt8.out.1
              have tg11 : Aside (IsTab w11 bg G') := tg.out.below Bw lt8.out.2.1
              have B11 : Aside (B ≤ w11.heap.size) := by show B ≤ _; have := Bw.size; have := B9.out; omega
              rw [ts.out] at om11
              have omA : Aside (Rf.Own w11 B (some ⟨g, 0, none⟩) (tsN (fun j => varT (Z j)) (i + 1)) c11) := om11
              clear om tf tg B9 b10 om10 gr11 om11 Bw B10 xb xl9A ts
              go_wp2_with fail
              go_roundg (gk - 1)
              case measure => have := hI.out; have := iA.out; omega
              case rel =>
                have := hI.out
                have := iA.out
                exact ⟨i + 1, rt', some ⟨g, 0, none⟩, c11, by omega, rfl, rfl, rfl, rt'A, x11, omA, tf11, tg11, B11⟩
          · have ei : i = k := by have := hI.out; omega
            subst ei
            have iki : ¬ (i : Int) < (i : Int) := by omega
            clear ik
            go_upto_region 28 with fail
            cases rt with
            | false =>
              have no : ¬ (i = n ∧ ∀ j, j < i → 0 ≤ Z j ∧ Z j < n) := fun q => absurd (rtI.out.2 q) Bool.false_ne_true
              have noA : Aside (¬ (i = n ∧ ∀ j, j < i → 0 ≤ Z j ∧ Z j < n)) := no
              clear no rtI
              have KR : Aside (∀ (u : World) (ad' : Option Addr) (c' : Nat), Below wr.heap.size wr u → IntsAt u ad' i Z → Calls Tryz.prog 17 #[.pointer (some ⟨S, 0, none⟩), .int .u32 (a : Int), .slice ad' i c'] u fun e w' => e = .returned (.tuple #[.int .u32 0, .int .i64 40]) ∧ Below u.heap.size u w') := fun u ad' c' hu hz => by
                have xu := xl9A.out.1.below hu
                by_cases e : i = n
                · subst e
                  refine ren_badx xu xl9A.out.2.1 hz ?_
                  by_cases all : ∃ u, u < i ∧ (Z u < 0 ∨ (i : Int) ≤ Z u)
                  · exact all
                  · exact absurd ⟨rfl, fun j hj => by
                      by_cases c : 0 ≤ Z j ∧ Z j < i
                      · exact c
                      · exact absurd ⟨j, hj, by omega⟩ all⟩ noA.out
                · refine (ren_lenx xu xl9A.out.2.1 ad' i c' e).mono ?_
                  rintro e' w' ⟨rfl, rfl⟩
                  exact ⟨rfl, Below.refl _ _⟩
              have bs : Aside (Below W.heap.size W wr) := xl9A.out.1.base
              have k12' : i ≤ 1000000 := by have := kA.out; omega
              go_wp2_with (first
                | (at_builtin; refine copy_ints Z9 k12' rfl _ (.tmp 138) rfl rfl rfl ?_; intro ad' c' w10 z10 b10; have K10 := KR.out w10 ad' c' b10 z10)
                | (go_at_call 17; refine K10.mono ?_; clear K10; rintro e w11 ⟨rfl, b11⟩))
              go_ret
              exact ⟨rfl, Rf.below_far (Rf.below_far bs.out b10) b11⟩
            | true =>
              obtain ⟨e, rng⟩ := rtI.out.1 rfl
              subst e
              have rngA : Aside (∀ j, j < i → 0 ≤ Z j ∧ Z j < i) := rng
              have KR : Aside (∀ (u : World) (ad' : Option Addr) (c' : Nat), Below wr.heap.size wr u → IntsAt u ad' i Z → Calls Tryz.prog 17 #[.pointer (some ⟨S, 0, none⟩), .int .u32 (a : Int), .slice ad' i c'] u (LeftX W S i 32768 l9 (189 + 63) (sbF i (fun u => Rf.M (Z u).toNat) F') u)) := fun u ad' c' hu hz => ren_x (xl9A.out.1.below hu) xl9A.out.2.1 hz rngA.out 63 (by omega) (by decide)
              have ES : Aside (Eqt (sbF i (fun u => Rf.M (Z u).toNat) F') (sbF i (fun j => (tsN (fun j => varT (Z j)) i).getD j fun _ => false) F')) := sb_congr n8 (Eqt.refl _) fun u hu => by
                rw [ts_get (fun j => varT (Z j)) hu]
                unfold varT
                rw [if_pos (by have := rng u hu; omega)]
                exact Eqt.refl _
              have KS : Aside (∀ u, TabsAt u am i (fun j => (tsN (fun j => varT (Z j)) i).getD j fun _ => false) → Calls Tryz.prog 18 #[tab F', .slice am i cm] u fun e w' => e = .returned (tab (sbF i (fun j => (tsN (fun j => varT (Z j)) i).getD j fun _ => false) F')) ∧ Below u.heap.size u w') := fun u hu => rsubst_any F' am i cm _ u hu n8
              generalize hX : sbF i (fun u => Rf.M (Z u).toNat) F' = X at KR ES
              generalize hY : sbF i (fun j => (tsN (fun j => varT (Z j)) i).getD j fun _ => false) F' = Y at KS ES
              have I1 : Aside (∀ u y, Sx W u S i 32768 ((y, X) :: l9) (189 + 63) → Calls Tryz.prog 14 #[.pointer (some ⟨S, 0, none⟩), .int .u32 (y : Int), tab Y] u fun e w' => e = .returned (.bool true) ∧ Below u.heap.size u w') := fun u y hu => is_x hu (.head _) ES.out
              have I2 : Aside (∀ u y, Sx W u S i 32768 ((y, X) :: l9) (189 + 63) → Calls Tryz.prog 14 #[.pointer (some ⟨S, 0, none⟩), .int .u32 (a : Int), tab F'] u fun e w' => e = .returned (.bool true) ∧ Below u.heap.size u w') := fun u y hu => is_x hu (.tail _ xl9A.out.2.1) (Eqt.refl _)
              have I3 : Aside (∀ u y, Sx W u S i 32768 ((y, X) :: l9) (189 + 63) → Calls Tryz.prog 14 #[.pointer (some ⟨S, 0, none⟩), .int .u32 (b : Int), tab G'] u fun e w' => e = .returned (.bool true) ∧ Below u.heap.size u w') := fun u y hu => is_x hu (.tail _ xl9A.out.2.2) (Eqt.refl _)
              unfold tab at KS I1 I2 I3
              have k12' : i ≤ 1000000 := by omega
              clear hX hY rng rtI ES
              go_upto_region 29 with (first
                | (at_builtin; refine copy_ints Z9 k12' rfl _ (.tmp 138) rfl rfl rfl ?_; intro ad' c' w10 z10 b10; have K10 := KR.out w10 ad' c' b10 z10)
                | (go_at_call 17; refine K10.mono ?_; clear K10; rintro e w11 ⟨y, rfl, x11, u11⟩))
              have tf11 := u11.tab (kept tf.out b10)
              have tg11 := u11.tab (kept tg.out b10)
              have om11 := u11.tabs (om.out.below b10)
              have K11 := KS.out w11 (by have := om11.tabs; rwa [ts_len] at this)
              obtain ⟨y0, y1, y2, y3⟩ := tf11.copy
              clear tf tg om b10 z10 u11 om11 KR KS
              go_wp2_with (first
                | (go_at_call 18; refine K11.mono ?_; clear K11; rintro e w12 ⟨rfl, b12⟩; have x12 := x11.below b12; have tf12 := kept tf11 b12; have tg12 := kept tg11 b12; have J1 := I1.out w12 y x12; clear x11 tf11 tg11)
                | (go_at_call 14; refine J1.mono ?_; clear J1; rintro e w13 ⟨rfl, b13⟩; have x13 := x12.below b13; have tf13 := kept tf12 b13; have tg13 := kept tg12 b13; obtain ⟨q0, q1, q2, q3⟩ := tf13.copy; have J2 := I2.out w13 y x13; clear x12 tf12 tg12)
                | (go_at_call 14; refine J2.mono ?_; clear J2; rintro e w14 ⟨rfl, b14⟩; have x14 := x13.below b14; have tg14 := kept tg13 b14; obtain ⟨r0, r1, r2, r3⟩ := tg14.copy; have J3 := I3.out w14 y x14; clear x13 tf13 tg13)
                | (go_at_call 14; refine J3.mono ?_; clear J3; rintro e w15 ⟨rfl, b15⟩; have x15 := x14.below b15))
              go_ret
              exact ⟨rfl, x15.base⟩
      · go_upto_region 21 with fail
        obtain ⟨B, hB⟩ : ∃ B, wt.heap.size = B := ⟨_, rfl⟩
        have BA : Aside (wt.heap.size = B) := hB
        have lt8 : Aside (bf < B ∧ bg < B ∧ W.heap.size ≤ B) := ⟨by rw [← hB]; exact TFt.lt, by rw [← hB]; exact TGt.lt, by rw [← hB]; exact xt.base.size⟩
        have TFtA : Aside (IsTab wt bf F') := TFt
        have TGtA : Aside (IsTab wt bg G') := TGt
        have xtA : Aside (∃ l, Sx W wt S n 32768 l 189 ∧ (a, F') ∈ l ∧ (b, G') ∈ l) := ⟨_, xt, hal, hbl⟩
        have kn : ∃ rt : Bool, decide (k = n) = rt := ⟨_, rfl⟩
        obtain ⟨rt0, hr3⟩ := kn
        have hr2 : decide ((k : Int) = (n : Int)) = rt0 := by rw [← hr3]; exact decide_eq_decide.2 (by omega)
        have hr1 : ((k : Int) == (n : Int)) = rt0 := (beq_cast k n).trans hr3
        have rtA : Aside (rt0 = true ↔ k = n ∧ ∀ j, j < 0 → 0 ≤ Z j ∧ Z j < n) := ⟨fun q => ⟨of_decide_eq_true (hr3.trans q), fun j hj => by omega⟩, fun q => hr3.symm.trans (decide_eq_true q.1)⟩
        clear hB TFt TGt xt hal hbl
        go_upto_region 24 with fail
        clear hr1 hr2 hr3
        go_loopg [21, 22, 23] k (fun gn s21 s22 s23 wr => ∃ (i : Nat) (rt : Bool) (am : Option Addr) (cm : Nat), i + gn = k ∧ s21 = .bool rt ∧ s22 = .slice am i cm ∧ s23 = .int .i64 (i : Int) ∧ Aside (rt = true ↔ k = n ∧ ∀ j, j < i → 0 ≤ Z j ∧ Z j < n) ∧ Aside (∃ l, Sx W wr S n 32768 l 189 ∧ (a, F') ∈ l ∧ (b, G') ∈ l) ∧ Aside (Rf.Own wr B am (tsN (fun j => varT (Z j)) i) cm) ∧ Aside (IsTab wr bf F') ∧ Aside (IsTab wr bg G') ∧ Aside (B ≤ wr.heap.size))
        case atStart => exact ⟨0, rt0, none, 0, by omega, rfl, rfl, rfl, rtA, xtA, Rf.Own.nil _ _, TFtA, TGtA, by show _ ≤ _; have := BA.out; omega⟩
        case round =>
          obtain ⟨i, rt, am, cm, hi, rfl, rfl, rfl, rtI, x9, om, tf, tg, B9⟩ := hrel
          have hI : Aside (i + gk = k) := hi
          clear hi xtA TFtA TGtA rtA
          obtain ⟨l9, xl9, ha9, hb9⟩ := x9.out
          have Z9 := ZA.out.kept xl9.base
          have xl9A : Aside (Sx W wr S n 32768 l9 189 ∧ (a, F') ∈ l9 ∧ (b, G') ∈ l9) := ⟨xl9, ha9, hb9⟩
          clear xl9 ha9 hb9 x9
          by_cases ik : i < k
          · have iki : (i : Int) < (k : Int) := by omega
            have iA : Aside (i < k) := ik
            obtain ⟨bz, oz, rfl, hbz⟩ := Z9.some (by omega)
            have cz := Z9.get ik
            have i12 : (i : Int) < 12 := by omega
            clear ik hbz Z9
            go_upto_region 26 with fail
            go_cut [21] (fun s wc => ∃ rt' : Bool, s = .bool rt' ∧ Aside (rt' = true ↔ k = n ∧ ∀ j, j < i + 1 → 0 ≤ Z j ∧ Z j < n) ∧ wc = wr)
            case first =>
              cases rt with
              | false =>
                have nx : Aside (false = true ↔ k = n ∧ ∀ j, j < i + 1 → 0 ≤ Z j ∧ Z j < n) := ⟨fun q => absurd q Bool.false_ne_true, fun q => rtI.out.2 ⟨q.1, fun j hj => q.2 j (by omega)⟩⟩
                go_wp2_with fail
                go_meet
                exact ⟨false, rfl, nx, rfl⟩
              | true =>
                obtain ⟨zi, hzi⟩ : ∃ zi, Z i = zi := ⟨_, rfl⟩
                rw [hzi] at cz
                have all : Aside (∀ b : Bool, (b = true ↔ 0 ≤ zi ∧ zi < n) → (b = true ↔ k = n ∧ ∀ j, j < i + 1 → 0 ≤ Z j ∧ Z j < n)) := fun b hb => by
                  rw [hb]
                  have r := rtI.out.1 rfl
                  exact ⟨fun q => ⟨r.1, fun j hj => by
                    by_cases e : j = i
                    · rw [e, hzi]; exact q
                    · exact r.2 j (by omega)⟩, fun q => by have := q.2 i (by omega); rwa [hzi] at this⟩
                clear hzi rtI
                by_cases z1 : 0 ≤ zi
                · by_cases z2 : zi < n
                  · go_wp2_with fail
                    go_meet
                    exact ⟨true, by simp, all.out true ⟨fun _ => ⟨z1, z2⟩, fun _ => rfl⟩, rfl⟩
                  · go_wp2_with fail
                    go_meet
                    exact ⟨false, by simp, all.out false ⟨fun q => absurd q Bool.false_ne_true, fun q => absurd q.2 (by omega)⟩, rfl⟩
                · go_wp2_with fail
                  go_meet
                  exact ⟨false, by simp, all.out false ⟨fun q => absurd q Bool.false_ne_true, fun q => absurd q.1 (by omega)⟩, rfl⟩
            case rest =>
              obtain ⟨rt', rfl, rt'A, rfl⟩ := hcut
              have K3 := varT_any (Z i) wc
              have ts : Aside (tsN (fun j => varT (Z j)) i ++ [varT (Z i)] = tsN (fun j => varT (Z j)) (i + 1)) := ts_next (fun j => varT (Z j)) i
              generalize hzi : Z i = zi at K3 cz ts
              clear hzi
              unfold tab at K3
              go_upto_region 25 with (first
                | (go_at_call 16; refine K3.mono ?_; clear K3; rintro e w10 ⟨rfl, b10⟩; have om10 := (om.out.below b10).new (.cells #[.int .u64 (word (varT zi) 0 : Int), .int .u64 (word (varT zi) 1 : Int), .int .u64 (word (varT zi) 2 : Int), .int .u64 (word (varT zi) 3 : Int)] 24))
                | (at_builtin; refine Rf.append_tab om10 (varT zi) w10.heap.size (Go.Deep.blk_alloc_new _ _) (by rw [ts_len]; have := iA.out; have := kA.out; omega) (by have := B9.out; have := b10.size; simp; omega) rfl (.tmp 127) (.tmp 133) rfl (by rw [ts_len]; rfl) rfl ?_; intro g c11 w11 om11 gr11 at11 lt11; rw [ts_len]; clear at11 lt11))
              have B10 : B ≤ w10.heap.size := Nat.le_trans B9.out b10.size
              have xb := Rf_grown_sx ((xl9A.out.1.below b10).below (nb w10 (.cells #[.int .u64 (word (varT zi) 0 : Int), .int .u64 (word (varT zi) 1 : Int), .int .u64 (word (varT zi) 2 : Int), .int .u64 (word (varT zi) 3 : Int)] 24))) lt8.out.2.2 (by simp; omega) om10 gr11
              have Bw : Below B wc w11 := by
                have q := b10.alloc (B := wc.heap.size) b10.size (.cells #[.int .u64 (word (varT zi) 0 : Int), .int .u64 (word (varT zi) 1 : Int), .int .u64 (word (varT zi) 2 : Int), .int .u64 (word (varT zi) 3 : Int)] 24)
                exact Below.trans ⟨q.os, q.tape, q.output, q.size, fun k hk => q.block k (Nat.lt_of_lt_of_le hk B9.out)⟩ xb.2
              have x11 : Aside (∃ l, Sx W w11 S n 32768 l 189 ∧ (a, F') ∈ l ∧ (b, G') ∈ l) := ⟨_, xb.1, xl9A.out.2⟩
              have tf11 : Aside (IsTab w11 bf F') := tf.out.below Bw lt8.out.1
              have tg11 : Aside (IsTab w11 bg G') := tg.out.below Bw lt8.out.2.1
              have B11 : Aside (B ≤ w11.heap.size) := by show B ≤ _; have := Bw.size; have := B9.out; omega
              rw [ts.out] at om11
              have omA : Aside (Rf.Own w11 B (some ⟨g, 0, none⟩) (tsN (fun j => varT (Z j)) (i + 1)) c11) := om11
              clear om tf tg B9 b10 om10 gr11 om11 Bw B10 xb xl9A ts
              go_wp2_with fail
              go_roundg (gk - 1)
              case measure => have := hI.out; have := iA.out; omega
              case rel =>
                have := hI.out
                have := iA.out
                exact ⟨i + 1, rt', some ⟨g, 0, none⟩, c11, by omega, rfl, rfl, rfl, rt'A, x11, omA, tf11, tg11, B11⟩
          · have ei : i = k := by have := hI.out; omega
            subst ei
            have iki : ¬ (i : Int) < (i : Int) := by omega
            clear ik
            go_upto_region 28 with fail
            cases rt with
            | false =>
              have no : ¬ (i = n ∧ ∀ j, j < i → 0 ≤ Z j ∧ Z j < n) := fun q => absurd (rtI.out.2 q) Bool.false_ne_true
              have noA : Aside (¬ (i = n ∧ ∀ j, j < i → 0 ≤ Z j ∧ Z j < n)) := no
              clear no rtI
              have KR : Aside (∀ (u : World) (ad' : Option Addr) (c' : Nat), Below wr.heap.size wr u → IntsAt u ad' i Z → Calls Tryz.prog 17 #[.pointer (some ⟨S, 0, none⟩), .int .u32 (a : Int), .slice ad' i c'] u fun e w' => e = .returned (.tuple #[.int .u32 0, .int .i64 40]) ∧ Below u.heap.size u w') := fun u ad' c' hu hz => by
                have xu := xl9A.out.1.below hu
                by_cases e : i = n
                · subst e
                  refine ren_badx xu xl9A.out.2.1 hz ?_
                  by_cases all : ∃ u, u < i ∧ (Z u < 0 ∨ (i : Int) ≤ Z u)
                  · exact all
                  · exact absurd ⟨rfl, fun j hj => by
                      by_cases c : 0 ≤ Z j ∧ Z j < i
                      · exact c
                      · exact absurd ⟨j, hj, by omega⟩ all⟩ noA.out
                · refine (ren_lenx xu xl9A.out.2.1 ad' i c' e).mono ?_
                  rintro e' w' ⟨rfl, rfl⟩
                  exact ⟨rfl, Below.refl _ _⟩
              have bs : Aside (Below W.heap.size W wr) := xl9A.out.1.base
              have k12' : i ≤ 1000000 := by have := kA.out; omega
              go_wp2_with (first
                | (at_builtin; refine copy_ints Z9 k12' rfl _ (.tmp 138) rfl rfl rfl ?_; intro ad' c' w10 z10 b10; have K10 := KR.out w10 ad' c' b10 z10)
                | (go_at_call 17; refine K10.mono ?_; clear K10; rintro e w11 ⟨rfl, b11⟩))
              go_ret
              exact ⟨rfl, Rf.below_far (Rf.below_far bs.out b10) b11⟩
            | true =>
              obtain ⟨e, rng⟩ := rtI.out.1 rfl
              subst e
              have rngA : Aside (∀ j, j < i → 0 ≤ Z j ∧ Z j < i) := rng
              have KR : Aside (∀ (u : World) (ad' : Option Addr) (c' : Nat), Below wr.heap.size wr u → IntsAt u ad' i Z → Calls Tryz.prog 17 #[.pointer (some ⟨S, 0, none⟩), .int .u32 (a : Int), .slice ad' i c'] u (LeftX W S i 32768 l9 (189 + 63) (sbF i (fun u => Rf.M (Z u).toNat) F') u)) := fun u ad' c' hu hz => ren_x (xl9A.out.1.below hu) xl9A.out.2.1 hz rngA.out 63 (by omega) (by decide)
              have ES : Aside (Eqt (sbF i (fun u => Rf.M (Z u).toNat) F') (sbF i (fun j => (tsN (fun j => varT (Z j)) i).getD j fun _ => false) F')) := sb_congr n8 (Eqt.refl _) fun u hu => by
                rw [ts_get (fun j => varT (Z j)) hu]
                unfold varT
                rw [if_pos (by have := rng u hu; omega)]
                exact Eqt.refl _
              have KS : Aside (∀ u, TabsAt u am i (fun j => (tsN (fun j => varT (Z j)) i).getD j fun _ => false) → Calls Tryz.prog 18 #[tab F', .slice am i cm] u fun e w' => e = .returned (tab (sbF i (fun j => (tsN (fun j => varT (Z j)) i).getD j fun _ => false) F')) ∧ Below u.heap.size u w') := fun u hu => rsubst_any F' am i cm _ u hu n8
              generalize hX : sbF i (fun u => Rf.M (Z u).toNat) F' = X at KR ES
              generalize hY : sbF i (fun j => (tsN (fun j => varT (Z j)) i).getD j fun _ => false) F' = Y at KS ES
              have I1 : Aside (∀ u y, Sx W u S i 32768 ((y, X) :: l9) (189 + 63) → Calls Tryz.prog 14 #[.pointer (some ⟨S, 0, none⟩), .int .u32 (y : Int), tab Y] u fun e w' => e = .returned (.bool true) ∧ Below u.heap.size u w') := fun u y hu => is_x hu (.head _) ES.out
              have I2 : Aside (∀ u y, Sx W u S i 32768 ((y, X) :: l9) (189 + 63) → Calls Tryz.prog 14 #[.pointer (some ⟨S, 0, none⟩), .int .u32 (a : Int), tab F'] u fun e w' => e = .returned (.bool true) ∧ Below u.heap.size u w') := fun u y hu => is_x hu (.tail _ xl9A.out.2.1) (Eqt.refl _)
              have I3 : Aside (∀ u y, Sx W u S i 32768 ((y, X) :: l9) (189 + 63) → Calls Tryz.prog 14 #[.pointer (some ⟨S, 0, none⟩), .int .u32 (b : Int), tab G'] u fun e w' => e = .returned (.bool true) ∧ Below u.heap.size u w') := fun u y hu => is_x hu (.tail _ xl9A.out.2.2) (Eqt.refl _)
              unfold tab at KS I1 I2 I3
              have k12' : i ≤ 1000000 := by omega
              clear hX hY rng rtI ES
              go_upto_region 29 with (first
                | (at_builtin; refine copy_ints Z9 k12' rfl _ (.tmp 138) rfl rfl rfl ?_; intro ad' c' w10 z10 b10; have K10 := KR.out w10 ad' c' b10 z10)
                | (go_at_call 17; refine K10.mono ?_; clear K10; rintro e w11 ⟨y, rfl, x11, u11⟩))
              have tf11 := u11.tab (kept tf.out b10)
              have tg11 := u11.tab (kept tg.out b10)
              have om11 := u11.tabs (om.out.below b10)
              have K11 := KS.out w11 (by have := om11.tabs; rwa [ts_len] at this)
              obtain ⟨y0, y1, y2, y3⟩ := tf11.copy
              clear tf tg om b10 z10 u11 om11 KR KS
              go_wp2_with (first
                | (go_at_call 18; refine K11.mono ?_; clear K11; rintro e w12 ⟨rfl, b12⟩; have x12 := x11.below b12; have tf12 := kept tf11 b12; have tg12 := kept tg11 b12; have J1 := I1.out w12 y x12; clear x11 tf11 tg11)
                | (go_at_call 14; refine J1.mono ?_; clear J1; rintro e w13 ⟨rfl, b13⟩; have x13 := x12.below b13; have tf13 := kept tf12 b13; have tg13 := kept tg12 b13; obtain ⟨q0, q1, q2, q3⟩ := tf13.copy; have J2 := I2.out w13 y x13; clear x12 tf12 tg12)
                | (go_at_call 14; refine J2.mono ?_; clear J2; rintro e w14 ⟨rfl, b14⟩; have x14 := x13.below b14; have tg14 := kept tg13 b14; obtain ⟨r0, r1, r2, r3⟩ := tg14.copy; have J3 := I3.out w14 y x14; clear x13 tf13 tg13)
                | (go_at_call 14; refine J3.mono ?_; clear J3; rintro e w15 ⟨rfl, b15⟩; have x15 := x14.below b15))
              go_ret
              exact ⟨rfl, x15.base⟩
end Go.Proofs.YtancdjjhjfhcbaaGreat
