/-
  The library's keys of a map of handles, gathered into a slice of the call's own: each once.
-/
import Derived.Test.YteickckgljlacaaGreatRmMap
import Derived.Test.YteickckgljlacaaGreatRsKeys
import Derived.RangeFuncBox
import Derived.RangeFuncNested
import Derived.RangeFuncLeaves
import Derived.Shelf.Abstract
import Derived.OwnWalkIn
import Derived.TacticsInMore
import Derived.LoopNIn
import Derived.LoopIn
import Derived.Sort.LoopGhostIn
import Derived.Maps.AppendAt
namespace Go.Proofs.YteickckgljlacaaGreat.Rm
open Rs (nodup_len grown_of_went Went)
open Go Go.RowKit Go.Shelf
attribute [local go_sem] Oper.semAt_some

theorem look_some {k : Int} : ∀ {l : List (Int × Int)}, (look l k).isSome = true ↔ ∃ p ∈ l, p.1 = k
  | [] => by simp [look]
  | p :: l => by
    have := look_some (k := k) (l := l)
    by_cases h : p.1 = k
    · simp [look, h]
    · simp [look, h, this]

/-- What the keys of P are. -/
def Keys (P : Int → Option Int) (xs : List Int) : Prop := xs.Nodup ∧ ∀ x, x ∈ xs ↔ (P x).isSome = true

set_option maxRecDepth 100000 in
set_option maxHeartbeats 2000000 in
theorem keys1_in (n : Nat) (hn : 1 ≤ n) (l Bm b m : Nat) (P : Int → Option Int) (J Jx : List Int → World → Prop)
    (hY : ∀ pre x W, J pre W → pre.length < m → YieldAt Fence.wide (n - 1) Tryz.prog l #[.int .u32 x] W fun e W' =>
      (e = .returned (.bool true) ∧ J (pre ++ [x]) W' ∧ KeepsWalks W W') ∨ (e = .returned (.bool false) ∧ Jx (pre ++ [x]) W'))
    (W : World) (hJ : AbidesFrom W.heap.size J) (hm : W.cell? ⟨Bm, 0, none⟩ = some (.map (some b))) (hmap : IsMap W b P m) (h0 : J [] W) :
    CallsIn Fence.wide n Tryz.prog 91 #[.func (.yield l) #[] #[], .pointer (some ⟨Bm, 0, none⟩)] W fun e W' => (∃ v, e = .returned v) ∧
      ((∃ ys, Keys P ys ∧ J ys W') ∨ (∃ pre, True ∧ Jx pre W')) := by
  obtain ⟨es, clock, ps, hb, k, hP, hlen⟩ := hmap
  obtain ⟨hr, hI0⟩ := Iter.start hb k
  refine callsIn_of_wp Tryz.func91 rfl trivial ?_ rfl
  simp only [Tryz.ntmps91, List.size_toArray, List.length_cons, List.length_nil, Nat.reduceAdd, Nat.reduceSub, Array.replicate_succ, Array.replicate_zero, List.push_toArray, List.append_toArray, List.nil_append, List.cons_append]
  gi_wp2
  have hJ0 : J [] (W.alloc (.mapIter (some b) clock #[] clock)) := hJ [] W _ none h0 (World.grownBy_alloc W _ none) (fun r e => by cases e)
  obtain ⟨it, hit⟩ : ∃ it, it = W.heap.size := ⟨_, rfl⟩
  rw [← hit] at hI0 ⊢
  have hitA : Aside (W.heap.size ≤ it) := Nat.le_of_eq hit.symm
  clear hr hit
  generalize W.alloc (.mapIter (some b) clock #[] clock) = w0 at hI0 hJ0 ⊢
  gi_loopg [3] (ps.length + 1) (fun g _ wr => ∃ vs : List Int, vs.length + g = ps.length + 1 ∧ Aside (vs.Nodup) ∧ Aside (∀ x ∈ vs, x ∈ ps.map (·.1)) ∧ Iter wr it b ps vs ∧ Aside (J vs wr))
  case atStart => exact ⟨[], by simp, by simp [Aside], by simp [Aside], hI0, hJ0⟩
  case round =>
    clear hI0 hJ0
    obtain ⟨vs, hg, hvn, hvs, hI, hJs⟩ := hrel
    have hJs' : J vs wr := hJs.out
    rcases hI.next 0 with ⟨hall, hnx⟩ | ⟨t, v, w2, htl, htv, hnx, hI2, hw2, hs2, hen⟩
    · gi_wp2
      go_end0
      refine ⟨⟨_, rfl⟩, .inl ⟨vs, ⟨hvn.out, fun x => ?_⟩, hJs'⟩⟩
      rw [← hP x, look_some]
      constructor
      · intro hx
        obtain ⟨p, hp, e⟩ := List.mem_map.1 (hvs.out x hx)
        exact ⟨p, hp, e⟩
      · rintro ⟨p, hp, rfl⟩
        exact hall p hp
    · have hJ2 : J vs w2 := hJ vs wr w2 (some it) hJs' (grown_of_went hw2) (fun r e => by
        cases e
        obtain ⟨_, _, _, _, hi⟩ := hI.blocks
        exact ⟨hitA.out, _, hi, rfl⟩)
      have htk : t ∈ ps.map (·.1) := List.mem_map.2 ⟨_, htl, rfl⟩
      have hlt : vs.length < ps.length := by
        have := nodup_len (t :: vs) (ps.map (·.1)) (List.nodup_cons.2 ⟨htv, hvn.out⟩) (fun x hx => by
          rcases List.mem_cons.1 hx with rfl | hx
          · exact htk
          · exact hvs.out x hx)
        simp at this
        omega
      obtain ⟨fn, tmps, assign, body, hy, hR⟩ := hY vs t w2 hJ2 (by omega)
      have hvn2 : Aside ((vs ++ [t]).Nodup) := by
        show List.Nodup _
        rw [List.nodup_append]
        exact ⟨hvn.out, by simp, fun a ha c hc e => by simp at hc; subst hc; subst e; exact htv ha⟩
      have hvs2 : Aside (∀ x ∈ vs ++ [t], x ∈ ps.map (·.1)) := fun x hx => by
        rcases List.mem_append.1 hx with hx | hx
        · exact hvs.out x hx
        · simp at hx; subst hx; exact htk
      have hgA : Aside (vs.length + gk = ps.length + 1) := hg
      have hltA : Aside (vs.length < ps.length) := hlt
      clear htl htv htk hlt hg
      clear hs2
      gi_wp2
      refine hR.mono ?_
      rintro e W3 (⟨rfl, hJ3, hk3⟩ | ⟨rfl, hJx3⟩)
      · gi_wp2
        gi_roundg (gk - 1)
        case measure => have := hgA.out; have := hltA.out; omega
        case rel =>
          refine ⟨vs ++ [t], by have := hgA.out; have := hltA.out; simp; omega, hvn2, hvs2, ?_, hJ3⟩
          obtain ⟨_, _, _, h1, h2⟩ := hI2.blocks
          exact hI2.same ((hk3.same _ _ h1 rfl).trans h1.symm) ((hk3.same _ _ h2 rfl).trans h2.symm)
      · gi_wp2
        refine bodyPost_ret (results_none rfl _ _ _) rfl ?_
        exact ⟨⟨_, rfl⟩, .inr ⟨_, trivial, hJx3⟩⟩

set_option maxRecDepth 100000 in
set_option maxHeartbeats 2000000 in
theorem keys0_in (n : Nat) (l Bm : Nat) (J Jx : List Int → World → Prop) (W : World) (hJ : AbidesFrom W.heap.size J) (hm : W.cell? ⟨Bm, 0, none⟩ = some (.map none)) (h0 : J [] W) :
    CallsIn Fence.wide n Tryz.prog 91 #[.func (.yield l) #[] #[], .pointer (some ⟨Bm, 0, none⟩)] W fun e W' => (∃ v, e = .returned v) ∧
      ((∃ ys, Keys (fun _ => none) ys ∧ J ys W') ∨ (∃ pre, True ∧ Jx pre W')) := by
  have hrg := run_range_nilMap (P := Tryz.prog) W 150 38 125 Tryz.underlying150
  have hnx : ∀ ty, (Instr.next (.pointer (some ⟨W.heap.size, 0, none⟩)) false ty).run Tryz.prog (W.alloc (.mapIter none 0 #[] 0)) = _ := fun ty => run_next_nilMap _ ty 0 0 #[]
  have hJ0 : J [] (W.alloc (.mapIter none 0 #[] 0)) := hJ [] W _ none h0 (World.grownBy_alloc W _ none) (fun r e => by cases e)
  refine callsIn_of_wp Tryz.func91 rfl trivial ?_ rfl
  simp only [Tryz.ntmps91, List.size_toArray, List.length_cons, List.length_nil, Nat.reduceAdd, Nat.reduceSub, Array.replicate_succ, Array.replicate_zero, List.push_toArray, List.append_toArray, List.nil_append, List.cons_append]
  gi_wp2
  refine wpIn_loop_rounds 1 ?_
  rw [roundsIn_succ]
  gi_wp2
  go_end0
  exact ⟨⟨_, rfl⟩, .inl ⟨[], ⟨by simp, by simp⟩, hJ0⟩⟩

/-- The map that a value names: none tells nothing. -/
def MapV (w : World) (mb : Option Nat) (P : Int → Option Int) (m : Nat) : Prop :=
  match mb with
  | none => ∀ k, P k = none
  | some b => IsMap w b P m
theorem MapV.kept {w u : World} {mb : Option Nat} {P : Int → Option Int} {m : Nat} (h : MapV w mb P m) (e : ∀ b, mb = some b → u.heap[b]? = w.heap[b]?) : MapV u mb P m := by
  cases mb with
  | none => exact h
  | some b => exact IsMap.same h (e b rfl)
theorem MapV.lt {w : World} {mb : Option Nat} {P : Int → Option Int} {m : Nat} (h : MapV w mb P m) : ∀ b, mb = some b → b < w.heap.size := by
  rintro b rfl
  exact IsMap.lt h

theorem keys_stops (n : Nat) (hn : 1 ≤ n) (Bm m : Nat) (mb : Option Nat) (P : Int → Option Int) (w : World) (hBm : Bm < w.heap.size) (hc : w.cell? ⟨Bm, 0, none⟩ = some (.map mb)) (hmap : MapV w mb P m) :
    SeqStopsK Fence.wide n Tryz.prog 91 #[.pointer (some ⟨Bm, 0, none⟩)] (fun x : Int => #[Value.int .u32 x]) KeepsWalks (Keys P) (fun _ => True) m w := fun l J Jx W hW hJ _ hY h0 => by
  have hc' := (hW.cell (p := ⟨Bm, 0, none⟩) hBm).trans hc
  have hm' : MapV W mb P m := hmap.kept fun b hb => hW.block b (hmap.lt b hb)
  cases mb with
  | none =>
    have hP : P = fun _ => none := funext hmap
    subst hP
    exact keys0_in n l Bm J Jx W hJ hc' h0
  | some b => exact keys1_in n hn l Bm b m P J Jx hY W hJ hc' hm' h0

theorem info29 : (Tryz.prog.info? 38).map (fun i => (i.zero, i.size, i.bytes)) = some (some (.int .u32 0), 1, 4) := by kernel_rfl

set_option maxRecDepth 100000 in
set_option maxHeartbeats 4000000 in
/-- The library's gathering of keys, handed an iterator over a map's keys. -/
theorem appendSeq_any (Bm m : Nat) (mb : Option Nat) (P : Int → Option Int) (w : World) (hm : m ≤ 1000000) (hBm : Bm < w.heap.size) (hc : w.cell? ⟨Bm, 0, none⟩ = some (.map mb)) (hmap : MapV w mb P m) :
    Calls Tryz.prog 101 #[.slice none 0 0, .func (.func 91) #[] #[.pointer (some ⟨Bm, 0, none⟩)]] w fun e W' => ∃ v xs, e = .returned v ∧ Keys P xs ∧ xs.length ≤ m ∧ W'.ownsRow w.heap.size 38 1 v xs.length (xs.map (Value.int .u32)) ∧ (v = .slice none 0 0 ↔ xs = []) ∧ Below w.heap.size w W' := by
  obtain ⟨i0, hi, hz0, hz1, hz2⟩ := info_parts info29
  refine (callsIn_wide (n := 3)).1 ?_
  refine callsIn_of_wp_marks Tryz.func101 rfl trivial ?_ rfl
  simp only [Tryz.ntmps101, List.size_toArray, List.length_cons, List.length_nil, Nat.reduceAdd, Nat.reduceSub, Array.replicate_succ, Array.replicate_zero, List.push_toArray, List.append_toArray, List.nil_append, List.cons_append]
  gi_wp2
  have bO := Boxed.new w 44 (.slice none 0 0)
  have hB0 : Below w.heap.size w (w.alloc (.cells #[.slice none 0 0] 44)) := (Below.refl _ w).alloc (Nat.le_refl _) _
  have hc1 : (w.alloc (.cells #[.slice none 0 0] 44)).cell? ⟨Bm, 0, none⟩ = some (.map mb) := (hB0.cell (p := ⟨Bm, 0, none⟩) hBm).trans hc
  have hm1 : MapV (w.alloc (.cells #[.slice none 0 0] 44)) mb P m := hmap.kept fun b hb => hB0.block b (hmap.lt b hb)
  refine wpIn_rangeFunc_ownG rfl (by omega) (gf := 91) (lb := #[.pointer (some ⟨Bm, 0, none⟩)]) rfl trivial (enters_of Tryz.func91 (by kernel_rfl) rfl)
    (keys_stops (3 - 1) (by omega) Bm m mb P _ (by simp; omega) hc1 hm1) walksK_t walksK_b (Below.refl _ _) (fun _ => rfl)
    (fun pre W => ((∃ v, Boxed W w.heap.size 44 v ∧ W.ownsRow w.heap.size 38 1 v pre.length (pre.map (Value.int .u32)) ∧ (v = .slice none 0 0 ↔ pre = [])) ∧ Below w.heap.size w W) ∧ pre.length ≤ m)
    (fun _ _ _ => False)
    (OwnFrom.and (OwnFrom.and (Own.from (holdsRow_own w.heap.size w.heap.size 44 38 1 (fun pre : List Int => pre.length) (fun pre => pre.map (Value.int .u32)) (fun pre v => v = .slice none 0 0 ↔ pre = [])) _) (ownFrom_below (Nat.le_refl _) (by simp))) (ownFrom_pure _ _))
    (fun _ _ _ _ _ hs _ _ => hs)
    ⟨⟨⟨_, bO, World.ownsRow_nil _ _ _ _, by simp⟩, hB0⟩, Nat.zero_le _⟩
    (fun x => { tmps := #[.slice none 0 0, .func (.func 91) #[] #[.pointer (some ⟨Bm, 0, none⟩)], .pointer (some ⟨w.heap.size, 0, none⟩), undef, .slice none 0 0, .int .u32 x, .func (.func 91) #[] #[.pointer (some ⟨Bm, 0, none⟩)], .int .u32 x, undef, undef, undef, undef, undef], defers := [] }) ?assign ?body ?done ?stop
  case assign =>
    intro l x W K hK
    gi_wp2
    exact hK
  case body =>
    rintro l pre x W ⟨⟨⟨v, hv, hrow, hnil⟩, hB⟩, hpm⟩ hlt
    have hc := hv.cell
    gi_wp2_with (gi_at_builtin; refine wpListIn_append_own _ rfl _ _ 44 rfl w.heap.size 38 i0 (.int .u32 0) 1 4 Tryz.underlying44 hi hz0 hz1 hz2 rfl (by decide) _ _ _ rfl (hrow.alloc _) ⟨W.heap.size, 0, none⟩ 1 1 [.int .u32 x] rfl rfl (cell_one_new _ _ _) (by simp [Value.oneCell']) (by simp only [maxLen]; omega) (by omega) (by have := hB.size; simp; omega) ?_; intro v' w1 hown' hgrow _; obtain ⟨g', cap', rfl⟩ := ownsRow_succ hown'; obtain ⟨hv1, hv2, hr2, hk2, hb2⟩ := hv.appended (by decide) hrow hB.size (Nat.le_refl _) hown' hgrow; have hc1 := hv1.cell; have hf1 := hv1.frozen)
    exact ⟨hk2.from _, hk2.walks, ⟨⟨_, hv2, by simpa using hr2, by simp⟩, hB.trans hb2⟩, by simp; omega⟩
  case done =>
    rintro D ys W hD hS ⟨⟨⟨v, hv, hrow, hnil⟩, hB⟩, hpm⟩ hK
    have hc := hv.cell
    gi_wp2
    refine ⟨by simp, .inl ⟨_, _, rfl, run_takeDeferred hK, ?_⟩⟩
    exact ⟨_, results_tmp rfl _ _ _, v, ys, rfl, hS, hpm, ownsRow_putObj hrow _ hK rfl, hnil, hB.trans (belowK_b (w := w) (Nat.le_refl _) W D _ _ (by simp at hD; omega) hK rfl rfl)⟩
  case stop =>
    rintro D c pre W _ _ h _
    exact h.elim
end Go.Proofs.YteickckgljlacaaGreat.Rm
