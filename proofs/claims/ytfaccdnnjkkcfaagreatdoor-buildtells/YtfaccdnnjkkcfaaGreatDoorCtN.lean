/-
  Package count: a node's number, told from the constants up, whatever joins the children's.
-/
import Derived.Test.YtfaccdnnjkkcfaaGreatDoorCtP
import Derived.Test.YtfaccdnnjkkcfaaGreatDoorCtM
import Derived.Test.YtfaccdnnjkkcfaaGreatDoorCtJ
import Derived.Test.YtfaccdnnjkkcfaaGreatDoorLgc
import Derived.Deep.RegionHeld3
namespace Go.Proofs.YtfaccdnnjkkcfaaGreatDoor
open Go Go.RowKit
open Rf (fixAt fixF)
attribute [local go_sem] Ch.run_store_func

/-- The map tells the numbers of nodes alone, the constants' among them. -/
structure Good (M : Mdl) (T : Nat → Nat) (l : List (Int × Int)) : Prop where
  zero : Hm.look l 0 = some (T 0 : Int)
  one : Hm.look l 1 = some (T 1 : Int)
  all : ∀ k v, Hm.look l k = some v → ∃ h : Nat, M.isNode h ∧ k = (h : Int) ∧ v = (T h : Int)
/-- All but the map is as it was, and the map is good. -/
structure Wk (M : Mdl) (T : Nat → Nat) (b : Nat) (w u : World) : Prop where
  went : Went (fun k => k = b) w u
  map : ∃ l, Hm.IsM u b l ∧ Good M T l
def wkV (S rb n f b : Nat) : Value := .agg #[.pointer (some ⟨S, 0, none⟩), .slice (some ⟨rb, 0, none⟩) n n, .func (.func f) #[] #[], .map (some b)]
/-- A block that holds a walk. -/
def IsWk (w : World) (g S rb n f b : Nat) : Prop := w.heap[g]? = some (.cells #[.pointer (some ⟨S, 0, none⟩), .slice (some ⟨rb, 0, none⟩) n n, .func (.func f) #[] #[], .map (some b)] 140 (0, 0))
section
variable {w w' u : World} {g S rb n f b h : Nat} {F0 : Nat → Prop} {M : Mdl} {T : Nat → Nat}
theorem IsWk.cells (i : IsWk w g S rb n f b) : w.cell? ⟨g, 0, none⟩ = some (.pointer (some ⟨S, 0, none⟩)) ∧ w.cell? ⟨g, 1, none⟩ = some (.slice (some ⟨rb, 0, none⟩) n n) ∧ w.cell? ⟨g, 2, none⟩ = some (.func (.func f) #[] #[]) ∧ w.cell? ⟨g, 3, none⟩ = some (.map (some b)) := by
  unfold IsWk at i
  refine ⟨?_, ?_, ?_, ?_⟩ <;> simp [World.cell?, i]
theorem IsWk.new (w : World) (S rb n f b : Nat) : IsWk (w.alloc (.cells #[.pointer (some ⟨S, 0, none⟩), .slice (some ⟨rb, 0, none⟩) n n, .func (.func f) #[] #[], .map (some b)] 140)) w.heap.size S rb n f b := Go.Deep.blk_alloc_new _ _
theorem IsWk.lt (i : IsWk w g S rb n f b) : g < w.heap.size := (Array.getElem?_eq_some_iff.1 i).1
theorem Wk.refl (m : ∃ l, Hm.IsM w b l ∧ Good M T l) : Wk M T b w w := ⟨⟨rfl, rfl, rfl, Nat.le_refl _, fun _ _ _ => rfl⟩, m⟩
theorem Wk.drew (k : Wk M T b w u) : Wk M T b w u.drew := ⟨⟨k.went.os, k.went.tape, k.went.output, k.went.size, k.went.block⟩, k.map⟩
theorem Wk.trans (k : Wk M T b w u) (q : Wk M T b u w') : Wk M T b w w' :=
  ⟨⟨q.went.os.trans k.went.os, q.went.tape.trans k.went.tape, q.went.output.trans k.went.output, Nat.le_trans k.went.size q.went.size, fun i hi hne => (q.went.block i (Nat.lt_of_lt_of_le hi k.went.size) hne).trans (k.went.block i hi hne)⟩, q.map⟩
theorem Wk.st (k : Wk M T b w u) (s : St w S F0 M) (hnb : ¬ F0 b) : St u S F0 M := s.kept fun i hi => k.went.block i (s.lt i hi) fun e => hnb (e ▸ hi)
theorem map_apart {cs : Array Value} {t : TypeId} {fr : Nat × Nat} {l : List (Int × Int)} {i : Nat} (m : Hm.IsM w b l) (hc : w.heap[i]? = some (.cells cs t fr)) : i ≠ b := fun e => by
  obtain ⟨es, ck, hb, _⟩ := m
  rw [e, hb] at hc
  cases hc
theorem Wk.row (k : Wk M T b w u) (m : ∃ l, Hm.IsM w b l ∧ Good M T l) {e : TypeId} {V : Nat → Value} (r : w.rowIs rb e n V) : u.rowIs rb e n V := by
  obtain ⟨l, m, _⟩ := m
  obtain ⟨cs, hb, _⟩ := id r
  exact r.of_block (k.went.block rb r.lt (map_apart m hb))
theorem Wk.box (k : Wk M T b w u) (m : ∃ l, Hm.IsM w b l ∧ Good M T l) (i : IsWk w g S rb n f b) : IsWk u g S rb n f b := by
  obtain ⟨l, m, _⟩ := m
  exact (k.went.block g i.lt (map_apart m i)).trans i
theorem Good.put {l l' : List (Int × Int)} (q : Good M T l) (o : M.Ok) (hm : h ∈ M.hs) (e : ∀ k', Hm.look l' k' = if k' = (h : Int) then some (T h : Int) else Hm.look l k') : Good M T l' := by
  have h2 := (o.range h hm).1
  refine ⟨by rw [e, if_neg (by omega)]; exact q.zero, by rw [e, if_neg (by omega)]; exact q.one, fun k v hk => ?_⟩
  rw [e] at hk
  by_cases c : k = (h : Int)
  · rw [if_pos c] at hk
    exact ⟨h, .inr hm, c, (Option.some.inj hk).symm⟩
  · rw [if_neg c] at hk
    exact q.all k v hk

/-- What joins the children's numbers. -/
def JoinC (M : Mdl) (T : Nat → Nat) (f : Nat) : Prop := ∀ h ∈ M.hs, ∀ u, Calls Tryz.prog f #[.int .i64 (M.v (M.nd h).1 : Int), .int .i64 (T (M.nd h).2.1 : Int), .int .i64 (T (M.nd h).2.2 : Int)] u fun e w' => e = .returned (.int .i64 (T h : Int)) ∧ w' = u
set_option maxRecDepth 100000 in
set_option maxHeartbeats 2000000 in
theorem number_step (s : St w S F0 M) (hnb : ¬ F0 b) (row : w.rowIs rb 3 M.n (fun i => .int .i64 (M.v i : Int))) (mp : ∃ l, Hm.IsM w b l ∧ Good M T l) (hf : ∀ (vs : Array Value) (w : World), (callFunc f vs).run Tryz.prog w = .ok (.enter f vs) w) (jc : JoinC M T f) (hh : M.isNode h)
    (ih : ∀ (u : World) (c : Nat), St u S F0 M → u.rowIs rb 3 M.n (fun i => .int .i64 (M.v i : Int)) → (∃ l, Hm.IsM u b l ∧ Good M T l) → M.isNode c → M.lev h < M.lev c → Calls Tryz.prog 81 #[wkV S rb M.n f b, .int .u32 (c : Int)] u fun e u' => e = .returned (.int .i64 (T c : Int)) ∧ Wk M T b u u') :
    Calls Tryz.prog 81 #[wkV S rb M.n f b, .int .u32 (h : Int)] w fun e w' => e = .returned (.int .i64 (T h : Int)) ∧ Wk M T b w w' := by
  have ok := s.ok
  have hb := Mdl.isNode_lt ok hh
  unfold wkV at ih ⊢
  go_enter Tryz.func81, Tryz.ntmps81
  go_upto_region 1 with fail
  have i1 := IsWk.new w S rb M.n f b
  have B1 := nb w (.cells #[.pointer (some ⟨S, 0, none⟩), .slice (some ⟨rb, 0, none⟩) M.n M.n, .func (.func f) #[] #[], .map (some b)] 140)
  have s1 := s.below B1
  have row1 := row.of_block (B1.block rb row.lt)
  have mp1 : ∃ l, Hm.IsM (w.alloc (.cells #[.pointer (some ⟨S, 0, none⟩), .slice (some ⟨rb, 0, none⟩) M.n M.n, .func (.func f) #[] #[], .map (some b)] 140)) b l ∧ Good M T l := by
    obtain ⟨l, m, q⟩ := mp
    exact ⟨l, m.below B1, q⟩
  have B1A : Aside (Below w.heap.size w (w.alloc (.cells #[.pointer (some ⟨S, 0, none⟩), .slice (some ⟨rb, 0, none⟩) M.n M.n, .func (.func f) #[] #[], .map (some b)] 140))) := B1
  clear B1 s row mp
  generalize w.alloc (.cells #[.pointer (some ⟨S, 0, none⟩), .slice (some ⟨rb, 0, none⟩) M.n M.n, .func (.func f) #[] #[], .map (some b)] 140) = w1 at i1 s1 row1 mp1 B1A ⊢
  obtain ⟨g, hg⟩ : ∃ g, w.heap.size = g := ⟨_, rfl⟩
  rw [hg] at i1
  conv in (occs := *) (Value.pointer (some ⟨w.heap.size, 0, none⟩)) => all_goals rw [hg]
  clear hg
  obtain ⟨C0, C1, C2, C3⟩ := i1.cells
  obtain ⟨l, ml, ql⟩ := id mp1
  have LK := Hm.map_look 138 Tryz.underlying138 ml (h : Int)
  cases hq : Hm.look l (h : Int) with
  | some v =>
    rw [hq] at LK
    obtain ⟨h', hn', e', rfl⟩ := ql.all _ _ hq
    obtain rfl : h = h' := by omega
    simp only [Option.getD_some, Option.isSome_some] at LK
    clear hq ql e' ih jc
    go_wp2_with fail
    go_ret
    exact ⟨rfl, ⟨⟨B1A.out.os, B1A.out.tape, B1A.out.output, B1A.out.size, fun k hk _ => B1A.out.block k hk⟩, mp1⟩⟩
  | none =>
    have hm : h ∈ M.hs := by
      rcases hh with c | c
      · exfalso
        have : h = 0 ∨ h = 1 := by omega
        rcases this with rfl | rfl
        · have := ql.zero; rw [show ((0 : Nat) : Int) = 0 from rfl] at hq; rw [hq] at this; cases this
        · have := ql.one; rw [show ((1 : Nat) : Int) = 1 from rfl] at hq; rw [hq] at this; cases this
      · exact c
    rw [hq] at LK
    simp only [Option.getD_none, Option.isSome_none] at LK
    clear hq ql
    go_upto_region 4 with fail
    clear LK C0 C1 C2 C3 ml
    have lvn := ok.lv h hm
    have llo := ok.lo h hm
    have lhi := ok.hi h hm
    have KJ := jc h hm
    have wk1 : Wk M T b w1 w1 := Wk.refl mp1
    have KL : ∀ u, Wk M T b w1 u → Calls Tryz.prog 56 #[.pointer (some ⟨S, 0, none⟩), .int .u32 (h : Int)] u fun e w' => e = .returned (.int .i64 ((M.nd h).1 : Int)) ∧ w' = u := fun u k => by
      have := lv_any (k.st s1 hnb) hh
      rwa [Mdl.lev_in ok hm] at this
    have KA : ∀ u, Wk M T b w1 u → Calls Tryz.prog 57 #[.pointer (some ⟨S, 0, none⟩), .int .u32 (h : Int)] u fun e w' => e = .returned (.int .u32 ((M.nd h).2.1 : Int)) ∧ w' = u := fun u k => by
      have := s_low (k.st s1 hnb) h (by omega)
      rwa [Mdl.lowN_in ok hm] at this
    have KB : ∀ u, Wk M T b w1 u → Calls Tryz.prog 58 #[.pointer (some ⟨S, 0, none⟩), .int .u32 (h : Int)] u fun e w' => e = .returned (.int .u32 ((M.nd h).2.2 : Int)) ∧ w' = u := fun u k => by
      have := s_high (k.st s1 hnb) h (by omega)
      rwa [Mdl.highN_in ok hm] at this
    have KN : ∀ u, Wk M T b w1 u → ∀ c, M.isNode c ∧ (M.nd h).1 < M.lev c → Calls Tryz.prog 81 #[.agg #[.pointer (some ⟨S, 0, none⟩), .slice (some ⟨rb, 0, none⟩) M.n M.n, .func (.func f) #[] #[], .map (some b)], .int .u32 (c : Int)] u fun e u' => e = .returned (.int .i64 (T c : Int)) ∧ Wk M T b w1 u' := fun u k c hc =>
      (ih u c (k.st s1 hnb) (k.row mp1 row1) k.map hc.1 (by rw [Mdl.lev_in ok hm]; exact hc.2)).mono fun e u' q => ⟨q.1, k.trans q.2⟩
    have lc0 : ∀ u, Wk M T b w1 u → u.cell? ⟨g, 0, none⟩ = some (.pointer (some ⟨S, 0, none⟩)) := fun u k => (k.box mp1 i1).cells.1
    have lc1 : ∀ u, Wk M T b w1 u → u.cell? ⟨g, 1, none⟩ = some (.slice (some ⟨rb, 0, none⟩) M.n M.n) := fun u k => (k.box mp1 i1).cells.2.1
    have lc2 : ∀ u, Wk M T b w1 u → u.cell? ⟨g, 2, none⟩ = some (.func (.func f) #[] #[]) := fun u k => (k.box mp1 i1).cells.2.2.1
    have lc3 : ∀ u, Wk M T b w1 u → u.cell? ⟨g, 3, none⟩ = some (.map (some b)) := fun u k => (k.box mp1 i1).cells.2.2.2
    have lr : ∀ u, Wk M T b w1 u → u.cell? ⟨rb, (M.nd h).1, none⟩ = some (.int .i64 (M.v (M.nd h).1 : Int)) := fun u k => (k.row mp1 row1).cell lvn
    have hmA : Aside (h ∈ M.hs) := hm
    have okA : Aside M.Ok := ok
    have st0 := wk1.drew
    generalize M.v (M.nd h).1 = v at KJ lr
    generalize (M.nd h).1 = L at lvn llo lhi KL KN lr
    generalize (M.nd h).2.1 = lo at llo KA KJ
    generalize (M.nd h).2.2 = hi at lhi KB KJ
    generalize M.n = n at lvn KN lc1 ⊢
    have L0 : ((L : Int)).toNat = L := by omega
    have L1 : (L : Int) < (n : Int) := by omega
    clear ih jc hm ok hnb s1 row1 i1 hh
    go_region_held3 (fun u => Wk M T b w1 u) (first | assumption | exact st0) (first
      | (go_at_call 56; refine (KL _ (by assumption)).mono ?_; rintro e w5 ⟨rfl, e5⟩; subst w5)
      | (go_at_call 57; refine (KA _ (by assumption)).mono ?_; rintro e w5 ⟨rfl, e5⟩; subst w5)
      | (go_at_call 58; refine (KB _ (by assumption)).mono ?_; rintro e w5 ⟨rfl, e5⟩; subst w5)
      | (go_at_call 81; refine (KN _ (by assumption) _ (by assumption)).mono ?_; rintro e w5 ⟨rfl, k5⟩)
      | (guard_target =~ Calls Tryz.prog f _ _ _; refine (KJ _).mono ?_; rintro e w5 ⟨rfl, e5⟩; subst w5))
    have hb3 := lc3 _ k5
    obtain ⟨l5, m5, q5⟩ := id k5.map
    obtain ⟨w7, hp7, ⟨l7, m7, e7, _⟩, wt7, sz7⟩ := Hm.map_put 138 Tryz.underlying138 m5 (h : Int) (T h : Int)
    have fin : Aside (Wk M T b w w7) := by
      have a : Wk M T b w w1 := ⟨⟨B1A.out.os, B1A.out.tape, B1A.out.output, B1A.out.size, fun k hk _ => B1A.out.block k hk⟩, mp1⟩
      exact (a.trans k5).trans ⟨wt7, l7, m7, q5.put okA.out hmA.out e7⟩
    clear sz7 wt7 m7 e7 q5 m5 lc0 lc1 lc2 lc3 lr KL KA KB KN KJ
    go_wp2_with fail
    go_ret
    exact ⟨rfl, fin.out⟩
theorem number_any (hnb : ¬ F0 b) (hf : ∀ (vs : Array Value) (w : World), (callFunc f vs).run Tryz.prog w = .ok (.enter f vs) w) (jc : JoinC M T f) (d : Nat) : ∀ (w : World) (h : Nat), M.n - M.lev h ≤ d → St w S F0 M → w.rowIs rb 3 M.n (fun i => .int .i64 (M.v i : Int)) → (∃ l, Hm.IsM w b l ∧ Good M T l) → M.isNode h →
    Calls Tryz.prog 81 #[wkV S rb M.n f b, .int .u32 (h : Int)] w fun e w' => e = .returned (.int .i64 (T h : Int)) ∧ Wk M T b w w' := by
  induction d with
  | zero =>
    intro w h hd s row mp hh
    exact number_step s hnb row mp hf jc hh fun u c _ _ _ hc hl => by have := Mdl.lev_le s.ok hc; omega
  | succ d ih =>
    intro w h hd s row mp hh
    exact number_step s hnb row mp hf jc hh fun u c su ru mu hc hl => ih u c (by omega) su ru mu hc
set_option maxRecDepth 100000 in
set_option maxHeartbeats 2000000 in
theorem tell_any (s : St w S F0 M) (hf : ∀ (vs : Array Value) (w : World), (callFunc f vs).run Tryz.prog w = .ok (.enter f vs) w) (jc : JoinC M T f) (hh : M.isNode h) :
    Calls Tryz.prog 61 #[.pointer (some ⟨S, 0, none⟩), .int .u32 (h : Int), .int .i64 (T 0 : Int), .int .i64 (T 1 : Int), .func (.func f) #[] #[]] w fun e w' => e = .returned (.int .i64 (T h : Int)) ∧ Below w.heap.size w w' := by
  have n8 := s.ok.le8
  have hmm := @run_makeMap Tryz.prog
  have K1 := s_order s
  have KN : Aside (∀ (u : World) (b rb : Nat), ¬ F0 b → St u S F0 M → u.rowIs rb 3 M.n (fun i => .int .i64 (M.v i : Int)) → (∃ l, Hm.IsM u b l ∧ Good M T l) → Calls Tryz.prog 81 #[wkV S rb M.n f b, .int .u32 (h : Int)] u fun e w' => e = .returned (.int .i64 (T h : Int)) ∧ Wk M T b u w') := fun u b rb hnb su ru mu => number_any hnb hf jc _ u h (Nat.le_refl _) su ru mu hh
  clear jc
  go_enter Tryz.func61, Tryz.ntmps61
  go_upto_region 2 with (first
    | (go_at_call 10; refine K1.mono ?_; clear K1; rintro e w1 ⟨P, lv, rfl, o1, b1, p1⟩; have K2 := Od.all_any o1 n8)
    | (go_at_call 11; refine K2.mono ?_; clear K2; rintro e w2 ⟨rfl, r2, b2⟩; obtain ⟨w4, hp4, ⟨l4, m4, e4, _⟩, wt4, sz4⟩ := Hm.map_put 138 Tryz.underlying138 (Hm.IsM.fresh w2) 0 (T 0 : Int); obtain ⟨w5, hp5, ⟨l5, m5, e5, _⟩, wt5, sz5⟩ := Hm.map_put 138 Tryz.underlying138 m4 1 (T 1 : Int); have sz4A : Aside (w4.heap.size = (w2.alloc (.map #[] 0)).heap.size) := sz4; have sz5A : Aside (w5.heap.size = w4.heap.size) := sz5; clear sz4 sz5))
  have q5 : Good M T l5 := by
    refine ⟨?_, ?_, fun k v hk => ?_⟩
    · rw [e5, if_neg (by decide), e4, if_pos rfl]
    · rw [e5, if_pos rfl]
    · rw [e5, e4] at hk
      by_cases c1 : k = 1
      · rw [if_pos c1] at hk
        exact ⟨1, .inl (by omega), c1, (Option.some.inj hk).symm⟩
      · rw [if_neg c1] at hk
        by_cases c0 : k = 0
        · rw [if_pos c0] at hk
          exact ⟨0, .inl (by omega), c0, (Option.some.inj hk).symm⟩
        · rw [if_neg c0] at hk
          cases hk
  have s2 := (s.below b1).below b2
  have hnb : ¬ F0 w2.heap.size := fun e => Nat.lt_irrefl _ (s2.lt _ e)
  have B2 : Below w.heap.size w w2 := Rf.below_far b1 b2
  have keep : ∀ k, k < w2.heap.size → w5.heap[k]? = w2.heap[k]? := fun k hk => by
    rw [wt5.block k (by rw [sz4A.out]; simp; omega) (by omega), wt4.block k (by simp; omega) (by omega)]
    exact Below.heap_alloc _ _ _ hk
  have z5 : w5.heap.size = w2.heap.size + 1 := by rw [sz5A.out, sz4A.out]; simp
  have s5 : St w5 S F0 M := s2.kept fun k hk => keep k (s2.lt k hk)
  have r5 := r2.of_block (keep _ r2.lt)
  have B5 : Below w.heap.size w w5 := ⟨(wt5.os.trans wt4.os).trans B2.os, (wt5.tape.trans wt4.tape).trans B2.tape, (wt5.output.trans wt4.output).trans B2.output, by have := B2.size; omega, fun k hk => (keep k (by have := B2.size; omega)).trans (B2.block k hk)⟩
  have lb : Aside (w.heap.size ≤ w2.heap.size) := B2.size
  clear wt4 wt5 hp4 hp5 e4 e5 m4 sz4A sz5A keep b1 b2 o1 p1 s2 z5 s r2 B2
  generalize w1.heap.size = rb at r5 ⊢
  generalize w2.heap.size = b at m5 hnb lb ⊢
  have i6 := IsWk.new w5 S rb M.n f b
  have B6 := nb w5 (.cells #[.pointer (some ⟨S, 0, none⟩), .slice (some ⟨rb, 0, none⟩) M.n M.n, .func (.func f) #[] #[], .map (some b)] 140)
  have s6 := s5.below B6
  have K6 := KN.out _ b rb hnb s6 (r5.of_block (B6.block rb r5.lt)) ⟨l5, m5.below B6, q5⟩
  have B6A := Rf.below_far B5 B6
  clear B6 s5 r5 m5 q5 KN B5
  unfold wkV at K6
  generalize w5.alloc (.cells #[.pointer (some ⟨S, 0, none⟩), .slice (some ⟨rb, 0, none⟩) M.n M.n, .func (.func f) #[] #[], .map (some b)] 140) = w6 at i6 s6 K6 B6A ⊢
  generalize w5.heap.size = g at i6 ⊢
  have B6A : Aside (Below w.heap.size w w6) := B6A
  obtain ⟨C0, C1, C2, C3⟩ := i6.cells
  go_wp2_with (first
    | (go_at_call 81; refine K6.mono ?_; clear K6; rintro e w7 ⟨rfl, k7⟩))
  go_ret
  exact ⟨rfl, B6A.out.trans ⟨k7.went.os, k7.went.tape, k7.went.output, k7.went.size, fun k hk => k7.went.block k (Nat.lt_of_lt_of_le hk B6A.out.size) (by have := lb.out; omega)⟩⟩

/-! ## Count, Support, One -/
theorem call_cnt (vs : Array Value) (w : World) : (callFunc 62 vs).run Tryz.prog w = .ok (.enter 62 vs) w := by
  have h := Tryz.func62
  go_simp
theorem cnt_jc (o : M.Ok) : JoinC M (tCnt M) 62 := fun h hm u => by
  have l : 2 ^ M.n ≤ 256 := Nat.pow_le_pow_right (n := 2) (j := 8) (by omega) o.le8
  rw [cnt_is o h hm]
  exact jcnt_any _ _ _ (Nat.le_trans (tCnt_le M _) l) (Nat.le_trans (tCnt_le M _) l) u
set_option maxHeartbeats 1000000 in
theorem count_op (s : St w S F0 M) (hh : M.isNode h) :
    Calls Tryz.prog 26 #[.pointer (some ⟨S, 0, none⟩), .int .u32 (h : Int)] w fun e w' => e = .returned (.tuple #[.int .u64 (tCnt M h : Int), .int .i64 0]) ∧ Below w.heap.size w w' := by
  have ok := s.ok
  have K1 := s_is s h (by have := Mdl.isNode_lt ok hh; omega)
  rw [Mdl.nodeB_true hh] at K1
  have K2 := s_vars s
  have K3 := tell_any s call_cnt (cnt_jc ok) hh
  rw [cnt_zero, cnt_one] at K3
  obtain ⟨p, hp, p9, q1, q2⟩ := pow_i64 (v := M.n) (by have := ok.le8; omega)
  rw [hp] at K3
  have hle : tCnt M h ≤ 512 := by have := tCnt_le M h; omega
  generalize tCnt M h = r at K3 hle ⊢
  have n8 : M.n ≤ 8 := ok.le8
  generalize M.n = n at K2 q1 q2 n8
  have m1 : min n 64 = n := by omega
  have hw : IntKind.u64.wrap (r : Int) = (r : Int) := by rw [IntKind.wrap_u64]; omega
  clear hp ok hh
  go_enter Tryz.func26, Tryz.ntmps26
  go_wp2_with (first
    | (go_at_call 47; refine K1.mono ?_; clear K1; rintro e w ⟨rfl, rfl⟩)
    | (go_at_call 59; refine K2.mono ?_; clear K2; rintro e w ⟨rfl, rfl⟩)
    | (go_at_call 61; refine K3.mono ?_; clear K3; rintro e w3 ⟨rfl, b3⟩))
  go_ret2
  exact ⟨rfl, b3⟩
/-- The least assignment, and whether there is one. -/
def oneN (F : Nat → Bool) : Nat := if lst F < 256 then lst F else 0
def oneB (F : Nat → Bool) : Bool := decide (lst F < 256)
end
section
variable {w : World} {S h : Nat} {F0 : Nat → Prop} {M : Mdl}
/-! ## Refusals -/
theorem count_bad (s : St w S F0 M) (hb : h < 4294967296) (no : ¬ M.isNode h) :
    Calls Tryz.prog 26 #[.pointer (some ⟨S, 0, none⟩), .int .u32 (h : Int)] w fun e w' => e = .returned (.tuple #[.int .u64 0, .int .i64 101]) ∧ w' = w := by
  have K1 := s_is s h hb
  rw [Mdl.nodeB_false no] at K1
  clear no
  go_enter Tryz.func26, Tryz.ntmps26
  go_wp2_with (first
    | (go_at_call 47; refine K1.mono ?_; clear K1; rintro e w ⟨rfl, rfl⟩))
  go_ret2
  exact ⟨rfl, rfl⟩
end
end Go.Proofs.YtfaccdnnjkkcfaaGreatDoor
