/-
  A store's table laid anew (relay): in memory.
-/
import Derived.Test.YtlmbofbdncgaiaaGreatMkF
namespace Go.Proofs.YtlmbofbdncgaiaaGreat.Mk
open Go Go.RowKit Go.Shelf

/-- What lies where in a store, and stays. -/
structure Fx where
  S : Nat
  n : Nat
  room : Nat
  W : Nat
  cap : Nat
  P : Nat
  R : Nat
  mp : Nat
  lines : Nat
  v : Nat → Nat
  l : Nat → Nat
  ad : Option Addr
  on : Bool
  wd : Nat → Int
structure Bd (X : Fx) : Prop where
  room1 : 1 ≤ X.room
  room2 : X.room ≤ 32768
  lines1 : 1 ≤ X.lines
  lines2 : X.lines ≤ 1024
  wide : X.W ≤ X.room
  wds : Wds X.W X.wd
/-- A store's memory. -/
structure Raw (w : World) (X : Fx) (c : Nat → Int) (fa : Option Addr) (k fc : Nat) (V : Nat → Value) (nm : Int → Option Int) : Prop where
  blk : w.rowIs X.S 89 28 (stCell X.n X.v X.l X.room X.ad X.W X.cap fa k fc X.P X.mp X.lines X.on)
  mem : ∃ o f, IsMem w X.P X.R (2 * X.room + 4 * X.lines) c o f
  own : OwnR 22 w 0 X.ad X.W X.cap (fun i => .int .u64 (X.wd i))
  fre : OwnR 32 w 0 fa k fc V
  map : IsMap w X.mp nm
/-- The blocks of a store that may be turned. -/
def FS (X : Fx) (fa : Option Addr) (k : Nat) : Prop := k = X.S ∨ k = X.P ∨ k = X.R ∨ k = X.mp ∨ At fa k
section
variable {w w' : World} {X : Fx} {c : Nat → Int} {fa : Option Addr} {k fc : Nat} {V : Nat → Value} {nm : Int → Option Int}
theorem Raw.apart (h : Raw w X c fa k fc V nm) : X.S ≠ X.P ∧ X.S ≠ X.R ∧ X.S ≠ X.mp ∧ X.mp ≠ X.P ∧ X.mp ≠ X.R ∧ (¬ At X.ad X.S) ∧ (¬ At X.ad X.P) ∧ (¬ At X.ad X.R) ∧ (¬ At X.ad X.mp) ∧ (¬ At fa X.S) ∧ (¬ At fa X.P) ∧ (¬ At fa X.R) ∧ (¬ At fa X.mp) ∧ ∀ b, At X.ad b → ¬ At fa b := by
  obtain ⟨cs, hS, _⟩ := h.blk
  obtain ⟨o, f, m⟩ := h.mem
  obtain ⟨cr, hR, _⟩ := m.row
  obtain ⟨es, ck, l, hM, _⟩ := h.map
  have hP := m.head
  refine ⟨fun e => ?_, fun e => ?_, fun e => ?_, fun e => ?_, fun e => ?_, h.own.apart hS (by decide), h.own.apart hP (by decide), h.own.apart hR (by decide), fun e => ?_, h.fre.apart hS (by decide), h.fre.apart hP (by decide), h.fre.apart hR (by decide), fun e => ?_, fun b hb => ?_⟩
  · rw [e, hP] at hS; simp at hS
  · rw [e, hR] at hS; simp at hS
  · rw [e, hM] at hS; simp at hS
  · rw [e, hP] at hM; simp at hM
  · rw [e, hR] at hM; simp at hM
  · obtain ⟨cur, hc⟩ := h.own.kind _ e
    rw [hM] at hc
    simp at hc
  · obtain ⟨cur, hc⟩ := h.fre.kind _ e
    rw [hM] at hc
    simp at hc
  · obtain ⟨cur, hc⟩ := h.own.kind b hb
    exact h.fre.apart hc (by decide)
theorem Raw.kept (h : Raw w X c fa k fc V nm) (e : ∀ b, (FS X fa b ∨ At X.ad b) → w'.heap[b]? = w.heap[b]?) : Raw w' X c fa k fc V nm := by
  obtain ⟨o, f, m⟩ := h.mem
  exact ⟨h.blk.of_block (e _ (.inl (.inl rfl))), ⟨o, f, m.of_blocks (e _ (.inl (.inr (.inl rfl)))) (e _ (.inl (.inr (.inr (.inl rfl)))))⟩, h.own.kept fun b hb => e b (.inr hb), h.fre.kept fun b hb => e b (.inl (.inr (.inr (.inr (.inr hb))))), h.map.same (e _ (.inl (.inr (.inr (.inr (.inl rfl))))))⟩
theorem Raw.lt (h : Raw w X c fa k fc V nm) : ∀ b, (FS X fa b ∨ At X.ad b) → b < w.heap.size := by
  obtain ⟨o, f, m⟩ := h.mem
  rintro b ((rfl | rfl | rfl | rfl | e) | e)
  · exact h.blk.lt
  · exact m.ltP
  · exact m.ltR
  · exact h.map.lt
  · exact (h.fre.block b e).2
  · exact (h.own.block b e).2
theorem Raw.new (h : Raw w X c fa k fc V nm) (o : Obj) : Raw (w.alloc o) X c fa k fc V nm := h.kept fun b hb => Below.heap_alloc _ _ _ (h.lt b hb)
theorem Raw.drew (h : Raw w X c fa k fc V nm) : Raw w.drew X c fa k fc V nm := h.kept fun _ _ => rfl
theorem Raw.tb (h : Raw w X c fa k fc V nm) (b : Bd X) : ∃ o f, Tb.Sys w X.P X.R (2 * X.room + 4 * X.lines) X.S 0 (2 * X.room) c o f := by
  obtain ⟨o, f, m⟩ := h.mem
  obtain ⟨cs, hb, hs, hc⟩ := h.blk
  have r1 := b.room1
  have r2 := b.room2
  have l2 := b.lines2
  exact ⟨o, f, m, ⟨cs, hb, hc 20 (by omega), hc 21 (by omega), hc 22 (by omega)⟩, by omega, by omega, by omega⟩
theorem Raw.ch (h : Raw w X c fa k fc V nm) (b : Bd X) (fit : Ch.U64 c) : ∃ o f, Ch.Sys w X.P X.R (2 * X.room + 4 * X.lines) X.S (2 * X.room) X.lines c o f := by
  obtain ⟨o, f, m⟩ := h.mem
  obtain ⟨cs, hb, hs, hc⟩ := h.blk
  have r2 := b.room2
  have l1 := b.lines1
  have l2 := b.lines2
  exact ⟨o, f, m, ⟨cs, hb, hc 24 (by omega), hc 25 (by omega), hc 26 (by omega)⟩, by omega, by omega, by omega, fit⟩
/-- The cells turned, and nothing else. -/
theorem Raw.cells (h : Raw w X c fa k fc V nm) {c' : Nat → Int} {o f : Int} (g : Went (fun k => k = X.P ∨ k = X.R ∨ w.heap.size ≤ k) w w') (m : IsMem w' X.P X.R (2 * X.room + 4 * X.lines) c' o f) : Raw w' X c' fa k fc V nm ∧ Went (FS X fa) w w' := by
  obtain ⟨a1, a2, a3, a4, a5, a6, a7, a8, a9, f1, f2, f3, f4, f5⟩ := h.apart
  have keep : ∀ b, b < w.heap.size → b ≠ X.P → b ≠ X.R → w'.heap[b]? = w.heap[b]? := fun b hb h1 h2 => g.block b hb fun e => by rcases e with e | e | e <;> omega
  refine ⟨⟨h.blk.of_block (keep _ h.blk.lt a1 a2), ⟨o, f, m⟩, h.own.kept fun b hb => keep b (h.own.block b hb).2 (fun e => a7 (e ▸ hb)) (fun e => a8 (e ▸ hb)), h.fre.kept fun b hb => keep b (h.fre.block b hb).2 (fun e => f2 (e ▸ hb)) (fun e => f3 (e ▸ hb)), h.map.same (keep _ h.map.lt a4 a5)⟩, g.os, g.tape, g.output, g.size, fun b hb hn => keep b hb (fun e => hn (.inr (.inl e))) fun e => hn (.inr (.inr (.inl e)))⟩
/-- The names cleared. -/
theorem Raw.named (h : Raw w X c fa k fc V nm) {nm' : Int → Option Int} (t : Turned X.mp w w') (m : IsMap w' X.mp nm') : Raw w' X c fa k fc V nm' ∧ Went (FS X fa) w w' := by
  obtain ⟨a1, a2, a3, a4, a5, a6, a7, a8, a9, f1, f2, f3, f4, f5⟩ := h.apart
  obtain ⟨o, f, mm⟩ := h.mem
  exact ⟨⟨h.blk.of_block (t.block _ a3), ⟨o, f, mm.of_blocks (t.block _ a4.symm) (t.block _ a5.symm)⟩, h.own.kept fun b hb => t.block b fun e => a9 (e ▸ hb), h.fre.kept fun b hb => t.block b fun e => f4 (e ▸ hb), m⟩, t.os, t.tape, t.output, Nat.le_of_eq t.size.symm, fun b _ hn => t.block b fun e => hn (.inr (.inr (.inr (.inl e))))⟩
/-- The list of free handles cut short. -/
theorem Raw.cut (h : Raw w X c fa k fc V nm) {j : Nat} (hj : j ≤ k) : Raw (w.setCell ⟨X.S, 19, none⟩ (.slice fa j fc)) X c fa j fc V nm ∧ Went (FS X fa) w (w.setCell ⟨X.S, 19, none⟩ (.slice fa j fc)) := by
  obtain ⟨a1, a2, a3, a4, a5, a6, a7, a8, a9, f1, f2, f3, f4, f5⟩ := h.apart
  obtain ⟨o, f, mm⟩ := h.mem
  have kp : ∀ b, b ≠ X.S → (w.setCell ⟨X.S, 19, none⟩ (.slice fa j fc)).heap[b]? = w.heap[b]? := fun b e => Below.heap_setCell _ _ _ _ e
  exact ⟨⟨(h.blk.set 19 (.slice fa j fc)).congr fun i _ => stCell_19 X.n X.v X.l X.room X.ad X.W X.cap fa fa k j fc fc X.P X.mp X.lines X.on i, ⟨o, f, mm.of_blocks (kp _ a1.symm) (kp _ a2.symm)⟩, h.own.kept fun b hb => kp b fun e => a6 (e ▸ hb), (h.fre.cut hj).kept fun b hb => kp b fun e => f1 (e ▸ hb), h.map.same (kp _ a3.symm)⟩, Went.set (.inl rfl) _ _⟩
end
section
variable {w w' : World} {X : Fx} {c : Nat → Int} {fa : Option Addr} {k fc : Nat} {V : Nat → Value} {nm : Int → Option Int}
theorem box_went {u u' : World} {Q : Nat → Prop} {Bs : Nat} {T : TypeId} {x : Value} (bx : Boxed u Bs T x) (g : Went Q u u') (hn : ¬ Q Bs) : Boxed u' Bs T x := (g.block Bs bx.lt hn).trans bx
theorem clr_fit {c : Nat → Int} (fit : Ch.U64 c) (n : Nat) : Ch.U64 (Tb.clr 0 c n) := fun j => by
  unfold Tb.clr
  split
  · omega
  · exact fit j
theorem clr_at {c : Nat → Int} {n s : Nat} (h : s < n) : Tb.clr 0 c n s = 0 := by unfold Tb.clr; rw [if_pos (by omega)]
/-- What holds between two rounds. -/
def RlI (w : World) (X : Fx) (fa : Option Addr) (Bs Bx : Nat) (pre : List (Nm X.W)) (u : World) : Prop :=
  (∃ c fa' fc' fr nm, Raw u X c fa' fr.length fc' (fun i => .int .u32 (fr.getD i 0 : Nat)) nm ∧ RpP X.W X.room X.lines X.wd (pre.map (·.1)) c fr nm ∧ ∀ i, At fa' i → At fa i ∨ w.heap.size ≤ i) ∧ Boxed u Bs 27 (.pointer (some ⟨X.S, 0, none⟩)) ∧ Boxed u Bx 87 (.slice X.ad X.W X.cap) ∧ Went (FS X fa) w u ∧ pre.length ≤ X.W
theorem raw_cells {u : World} (h : Raw u X c fa k fc V nm) {b : Nat} (hb : FS X fa b ∨ At X.ad b) (hm : b ≠ X.mp) {o : Obj} (ho : u.heap[b]? = some o) : o.isCells = true := by
  obtain ⟨cs, hS, _⟩ := h.blk
  obtain ⟨o', f, m⟩ := h.mem
  obtain ⟨cr, hR, _⟩ := m.row
  have hP := m.head
  rcases hb with (rfl | rfl | rfl | rfl | e) | e
  · rw [hS] at ho; cases ho; rfl
  · rw [hP] at ho; cases ho; rfl
  · rw [hR] at ho; cases ho; rfl
  · exact absurd rfl hm
  · obtain ⟨cur, hc⟩ := h.fre.kind b e
    rw [hc] at ho; cases ho; rfl
  · obtain ⟨cur, hc⟩ := h.own.kind b e
    rw [hc] at ho; cases ho; rfl
theorem RlI.own {w0 : World} {Bs Bx B : Nat} (hB : w0.heap.size ≤ B) (hmp : X.mp < B) : OwnFrom B (RlI w0 X fa Bs Bx) := by
  rintro pre u u' row ⟨⟨c, fa', fc', fr, nm, raw, p, hn⟩, b1, b2, wt, hl⟩ hg hr
  have ne : ∀ b, (FS X fa' b ∨ At X.ad b) → some b ≠ row := fun b hb e => by
    obtain ⟨hBb, o, ho, hc⟩ := hr b e.symm
    by_cases q : b = X.mp
    · omega
    · have := raw_cells raw hb q ho
      rw [hc] at this
      cases this
  have nb : ∀ {b : Nat} {T : TypeId} {x : Value}, Boxed u b T x → some b ≠ row := fun {b T x} bx e => by
    obtain ⟨hBb, o, ho, hc⟩ := hr b e.symm
    rw [show u.heap[b]? = _ from bx] at ho
    cases ho
    cases hc
  refine ⟨⟨c, fa', fc', fr, nm, raw.kept fun b hb => hg.block b (raw.lt b hb) (ne b hb), p, hn⟩, b1.kept hg (nb b1), b2.kept hg (nb b2), ⟨hg.os.trans wt.os, hg.tape.trans wt.tape, hg.output.trans wt.output, Nat.le_trans wt.size hg.size, fun k hk hf => (hg.block k (Nat.lt_of_lt_of_le hk wt.size) fun e => ?_).trans (wt.block k hk hf)⟩, hl⟩
  have := (hr k e.symm).1
  omega
theorem keeps_of {u u' : World} {B : Nat} (h : Raw u X c fa k fc V nm) (g : Went (FS X fa) u u') (hmp : X.mp < B) : KeepsFrom B u u' :=
  ⟨g.size, fun b o hB hk ho => (g.block b (Array.getElem?_eq_some_iff.1 hk).1 fun e => by
    by_cases q : b = X.mp
    · omega
    · have := raw_cells h (.inl e) q hk
      rw [ho] at this
      cases this).trans hk⟩
theorem box_out {u : World} (h : Raw u X c fa k fc V nm) {b : Nat} {T : TypeId} {x : Value} (bx : Boxed u b T x) (hT : T ≠ 89 ∧ T ≠ 124 ∧ T ≠ 212 ∧ T ≠ 32) : ¬ FS X fa b := by
  have hb : u.heap[b]? = _ := bx
  obtain ⟨cs, hS, _⟩ := h.blk
  obtain ⟨o', f, m⟩ := h.mem
  obtain ⟨cr, hR, _⟩ := m.row
  obtain ⟨es, ck, l, hM, _⟩ := h.map
  have hP := m.head
  rintro (rfl | rfl | rfl | rfl | e)
  · rw [hS] at hb; simp at hb; exact hT.1 hb.2.symm
  · rw [hP] at hb; injection hb with hb; injection hb with _ hb; exact hT.2.1 hb.symm
  · rw [hR] at hb; simp at hb; exact hT.2.2.1 hb.2.symm
  · rw [hM] at hb; simp at hb
  · obtain ⟨cur, hc⟩ := h.fre.kind b e
    rw [hc] at hb; simp at hb; exact hT.2.2.2 hb.2.symm
theorem keepB_of {u u' : World} {Bx : Nat} {x : Value} (h : Raw u X c fa k fc V nm) (bx : Boxed u Bx 87 x) (g : Went (FS X fa) u u') : KeepB Bx X.ad u u' := by
  obtain ⟨a1, a2, a3, a4, a5, a6, a7, a8, a9, f1, f2, f3, f4, f5⟩ := h.apart
  rintro b (rfl | e)
  · exact g.block b bx.lt (box_out h bx (by decide))
  · refine g.block b (h.lt b (.inr e)) ?_
    rintro (rfl | rfl | rfl | rfl | q)
    · exact a6 e
    · exact a7 e
    · exact a8 e
    · exact a9 e
    · exact f5 b e q
theorem went_on {u u' : World} {fa' : Option Addr} (wt : Went (FS X fa) w u) (hn : ∀ i, At fa' i → At fa i ∨ w.heap.size ≤ i) (g : Went (FS X fa') u u') : Went (FS X fa) w u' :=
  ⟨g.os.trans wt.os, g.tape.trans wt.tape, g.output.trans wt.output, Nat.le_trans wt.size g.size, fun b hb hf => (g.block b (Nat.lt_of_lt_of_le hb wt.size) fun e => by
    rcases e with e | e | e | e | e
    · exact hf (.inl e)
    · exact hf (.inr (.inl e))
    · exact hf (.inr (.inr (.inl e)))
    · exact hf (.inr (.inr (.inr (.inl e))))
    · rcases hn b e with e | e
      · exact hf (.inr (.inr (.inr (.inr e))))
      · omega).trans (wt.block b hb hf)⟩
theorem rl_post {u u' : World} {Bs Bx B : Nat} {pre : List (Nm X.W)} {x : Nm X.W} {c' c2 : Nat → Int} {fa' fa2 : Option Addr} {fc' fc2 : Nat} {fr' fr2 : List Nat} {nm' nm2 : Int → Option Int} (raw : Raw u X c' fa' fr'.length fc' (fun i => .int .u32 (fr'.getD i 0 : Nat)) nm')
    (hn : ∀ i, At fa' i → At fa i ∨ w.heap.size ≤ i) (bs : Boxed u Bs 27 (.pointer (some ⟨X.S, 0, none⟩))) (bx : Boxed u Bx 87 (.slice X.ad X.W X.cap)) (wt : Went (FS X fa) w u) (hlt : pre.length < X.W) (hB : X.mp < B)
    (g : Went (FS X fa') u u') (raw2 : Raw u' X c2 fa2 fr2.length fc2 (fun i => .int .u32 (fr2.getD i 0 : Nat)) nm2) (p2 : RpP X.W X.room X.lines X.wd (pre.map (·.1) ++ [x.1]) c2 fr2 nm2) (hn2 : ∀ i, At fa2 i → At fa' i ∨ u.heap.size ≤ i) : KeepsFrom B u u' ∧ KeepB Bx X.ad u u' ∧ RlI w X fa Bs Bx (pre ++ [x]) u' := by
  have gb : ∀ {b : Nat} {T : TypeId} {v : Value}, Boxed u b T v → (T ≠ 89 ∧ T ≠ 124 ∧ T ≠ 212 ∧ T ≠ 32) → Boxed u' b T v := fun bb hT => box_went bb g (box_out raw bb hT)
  refine ⟨keeps_of raw g hB, keepB_of raw bx g, ⟨c2, fa2, fc2, fr2, nm2, raw2, by rw [List.map_append]; exact p2, fun i hi => ?_⟩, gb bs (by decide), gb bx (by decide), went_on wt hn g, by simp; omega⟩
  rcases hn2 i hi with e | e
  · exact hn i e
  · exact .inr (Nat.le_trans wt.size e)
attribute [local go_sem] Oper.semAt_some
set_option maxRecDepth 100000 in
set_option maxHeartbeats 4000000 in
theorem relay_any (h : Raw w X c fa k fc V nm) (b : Bd X) (fit : Ch.U64 c) :
    Calls Tryz.prog 68 #[.pointer (some ⟨X.S, 0, none⟩)] w fun e w' => e = .returned (.tuple #[]) ∧ ∃ c' fa' fc' fr' nm', Raw w' X c' fa' fr'.length fc' (fun i => .int .u32 (fr'.getD i 0 : Nat)) nm' ∧ RpP X.W X.room X.lines X.wd (downL X.W X.W) c' fr' nm' ∧ (∀ i, At fa' i → At fa i ∨ w.heap.size ≤ i) ∧ Went (FS X fa) w w' := by
  obtain ⟨Bs, hBs⟩ : ∃ Bs, w.heap.size = Bs := ⟨_, rfl⟩
  have hBsA : Aside (w.heap.size = Bs) := hBs
  have h1 := h.new (.cells #[.pointer (some ⟨X.S, 0, none⟩)] 27)
  have bx1 : Boxed (w.alloc (.cells #[.pointer (some ⟨X.S, 0, none⟩)] 27)) Bs 27 (.pointer (some ⟨X.S, 0, none⟩)) := by rw [← hBs]; exact Boxed.new _ _ _
  have sz1 : Aside ((w.alloc (.cells #[.pointer (some ⟨X.S, 0, none⟩)] 27)).heap.size = Bs + 1) := by show _ = _; simp [hBs]
  have wt1 : Aside (Went (FS X fa) w (w.alloc (.cells #[.pointer (some ⟨X.S, 0, none⟩)] 27))) := Went.new _ _ _
  obtain ⟨o1, f1, t1⟩ := h1.tb b
  have KT := Tb.clear_any t1
  have ltA : Aside (∀ i, (FS X fa i ∨ At X.ad i) → i < Bs) := fun i hi => hBs ▸ h.lt i hi
  have bA : Aside (Bd X) := b
  have cb := bx1.cell
  refine (callsIn_wide (n := 3)).1 ?_
  refine callsIn_of_wp_marks Tryz.func68 rfl trivial ?_ rfl
  simp only [Tryz.ntmps68, List.size_toArray, List.length_cons, List.length_nil, Nat.reduceAdd, Nat.reduceSub, Array.replicate_succ, Array.replicate_zero, List.push_toArray, List.append_toArray, List.nil_append, List.cons_append]
  refine wpIn_wide.2 ?_
  clear h
  have nF : Aside (¬ FS X fa Bs) := fun e => by have := ltA.out Bs (.inl e); omega
  have fitA : Aside (Ch.U64 c) := fit
  have r1A : Aside (1 ≤ X.room) := b.room1
  clear fit t1
  go_upto_region 1 with fail
  clear hBs
  generalize w.alloc (.cells #[.pointer (some ⟨X.S, 0, none⟩)] 27) = w1 at h1 bx1 sz1 wt1 KT cb ⊢
  go_wp2_with (first
    | (go_at_call 83; refine KT.mono ?_; clear KT; rintro e w2 ⟨rfl, ⟨o2, s2⟩, m2⟩; obtain ⟨h2, g2⟩ := h1.cells (Went.of_moved m2 (.inl rfl) (.inr (.inl rfl))) s2.mem; have bx2 := box_went bx1 g2 nF.out; have cb2 := bx2.cell; have g2A : Aside (Went (FS X fa) w w2) := wt1.out.trans g2; obtain ⟨o3, f3, s3⟩ := h2.ch bA.out (clr_fit fitA.out _); have KC := Ch.clear_any s3; clear m2 s2 s3 cb bx1 h1 g2)
    | (go_at_call 84; refine KC.mono ?_; clear KC; rintro e w3 ⟨rfl, ⟨c3, o4, f4, s4, z4, e4⟩, m4⟩; obtain ⟨h3, g3⟩ := h2.cells (Went.of_moved m4 (.inl rfl) (.inr (.inl rfl))) s4.mem; have bx3 := box_went bx2 g3 nF.out; have cb3 := bx3.cell; obtain ⟨w4, hr4, mm4, t4⟩ := map_clear h3.map; obtain ⟨h4, g4⟩ := h3.named t4 mm4; have bx4 := box_went bx3 g4 nF.out; have g4A : Aside (Went (FS X fa) w w4) := (g2A.out.trans g3).trans g4; have c23 : w3.cell? ⟨X.S, 23, none⟩ = some (.map (some X.mp)) := h3.blk.cell (i := 23) (by omega); have p3 : Aside (RpP X.W X.room X.lines X.wd [] c3 [] (fun _ => none)) := RpP.start c3 s4.fit z4 (fun s hs => (e4 s hs).trans (clr_at hs)) r1A.out; have cb4 := bx4.cell; have c19 : w4.cell? ⟨X.S, 19, none⟩ = some (.slice fa k fc) := h4.blk.cell (i := 19) (by omega); have f19 := h4.blk.frozen 19; clear m4 s4 z4 e4 cb2 bx2 h2 g3 g4 mm4 t4 h3 bx3))
  go_region
  obtain ⟨h5, g5⟩ := h4.cut (Nat.zero_le k)
  have h5 := h5.drew
  have g5A : Aside (Went (FS X fa) w (w4.setCell ⟨X.S, 19, none⟩ (.slice fa 0 fc)).drew) := (g4A.out.trans g5).drew
  have bx5 : Boxed (w4.setCell ⟨X.S, 19, none⟩ (.slice fa 0 fc)).drew Bs 27 (.pointer (some ⟨X.S, 0, none⟩)) := box_went bx4 g5.drew nF.out
  generalize (w4.setCell ⟨X.S, 19, none⟩ (.slice fa 0 fc)).drew = w5 at h5 g5A bx5 ⊢
  have c18 : w5.cell? ⟨X.S, 18, none⟩ = some (.slice X.ad X.W X.cap) := h5.blk.cell (i := 18) (by omega)
  have cb5 := bx5.cell
  have KB := back_any X.ad X.W X.cap w5
  clear g5 h4 bx4 cb4 c19 f19 hr4 c23 g4A o1 f1
  go_wp2_with (first
    | (go_at_call 85; refine KB.mono ?_; clear KB; rintro e w6 ⟨rfl, rfl⟩))
  have bx6 : Boxed (w5.alloc (.cells #[.slice X.ad X.W X.cap] 87)) w5.heap.size 87 (.slice X.ad X.W X.cap) := Boxed.new _ _ _
  have h6 := h5.new (.cells #[.slice X.ad X.W X.cap] 87)
  have bs6 := bx5.alloc (.cells #[.slice X.ad X.W X.cap] 87)
  have g6 : Aside (Went (FS X fa) w (w5.alloc (.cells #[.slice X.ad X.W X.cap] 87))) := g5A.out.trans (Went.new _ _ _)
  obtain ⟨Bx, hBx⟩ : ∃ Bx, w5.heap.size = Bx := ⟨_, rfl⟩
  rw [hBx] at bx6 ⊢
  clear hBx h5 g5A bx5 cb5 c18
  generalize w5.alloc (.cells #[.slice X.ad X.W X.cap] 87) = w6 at h6 bs6 g6 bx6 ⊢
  have hmp6 : X.mp < w6.heap.size := h6.map.lt
  have h6fre : Raw w6 X c3 fa ([] : List Nat).length fc (fun i => .int .u32 (([] : List Nat).getD i 0 : Nat)) (fun _ => none) := ⟨h6.blk, h6.mem, h6.own, h6.fre.congr fun i hi => absurd hi (Nat.not_lt_zero _), h6.map⟩
  have size6 : w.heap.size ≤ w6.heap.size := g6.out.size
  refine (wpIn_wide (n := 3)).1 ?_
  refine wpIn_rangeFunc_ownG rfl (by omega) (gf := 115) (lb := #[.pointer (some ⟨Bx, 0, none⟩)]) rfl trivial (enters_of Tryz.func115 (by kernel_rfl) rfl)
    (back_stops (3 - 1) (by omega) Bx X.W X.cap X.ad X.wd w6 (by have := b.wide; have := b.room2; omega) bx6.cell bx6.lt h6.own) keepB_t (keepB_b (by
      rintro j (rfl | e)
      · exact bx6.lt
      · exact h6.lt j (.inr e))) (Below.refl _ _) (fun _ => rfl)
    (RlI w X fa Bs Bx) (fun _ _ _ => False) (RlI.own size6 hmp6) (fun _ _ _ _ _ hs _ _ => hs)
    ⟨⟨_, fa, fc, [], _, h6fre, p3, fun i hi => .inl hi⟩, bs6, bx6, g6.out, Nat.zero_le _⟩
    (fun x => { tmps := #[.pointer (some ⟨X.S, 0, none⟩), .pointer (some ⟨Bs, 0, none⟩), .int .i64 ((x.1 : Nat) : Int), .int .u64 (X.wd x.1), undef, undef, undef, undef, .pointer (some ⟨X.S, 0, none⟩), .pointer (some ⟨X.S, 0, none⟩), .pointer (some ⟨X.S, 20, none⟩), .tuple #[], .pointer (some ⟨X.S, 0, none⟩), .pointer (some ⟨X.S, 0, none⟩), .pointer (some ⟨X.S, 24, none⟩), .tuple #[], .pointer (some ⟨X.S, 0, none⟩), .pointer (some ⟨X.S, 0, none⟩), .pointer (some ⟨X.S, 23, none⟩), .map (some X.mp), .pointer (some ⟨X.S, 0, none⟩), .pointer (some ⟨X.S, 0, none⟩), .pointer (some ⟨X.S, 0, none⟩), .pointer (some ⟨X.S, 19, none⟩), .slice fa k fc, .slice fa 0 fc, .pointer (some ⟨X.S, 0, none⟩), .pointer (some ⟨X.S, 19, none⟩), .pointer (some ⟨X.S, 0, none⟩), .pointer (some ⟨X.S, 0, none⟩), .pointer (some ⟨X.S, 18, none⟩), .slice X.ad X.W X.cap, .func (.func 115) #[] #[.pointer (some ⟨Bx, 0, none⟩)], .int .i64 ((x.1 : Nat) : Int), .int .u64 (X.wd x.1), undef, undef, undef, undef, undef, undef, undef, undef, undef, undef, undef, undef, undef, undef, undef, undef, undef, undef, undef, undef, undef, undef, undef, undef, undef, undef, undef, undef, undef, undef, undef, undef, undef, undef], defers := [] }) ?assign ?body ?done ?stop
  case assign =>
    intro l x u K hK
    gi_wp2
    exact hK
  case body =>
    rintro l pre x u ⟨⟨c', fa', fc', fr', nm', raw, p, hn⟩, bs, bx, wt, hl⟩ hlt
    have cbs := bs.cell
    have hx := x.2
    have hwx : IntKind.u32.wrap ((x.1 : Nat) : Int) = ((x.1 : Nat) : Int) := by rw [IntKind.wrap_u32]; have := b.wide; have := b.room2; omega
    have hwx2 : IntKind.u32.wrap (2 + ((x.1 : Nat) : Int)) = 2 + ((x.1 : Nat) : Int) := by rw [IntKind.wrap_u32]; have := b.wide; have := b.room2; omega
    have hpm : (pre ++ [x]).map (·.1) = pre.map (·.1) ++ [x.1] := by rw [List.map_append]; rfl
    obtain ⟨a1, a2, a3, a4, a5, a6, a7, a8, a9, q1, q2, q3, q4, q5⟩ := raw.apart
    by_cases hz : X.wd x.1 = 0
    · rw [hz]
      have hfl : fr'.length ≤ 32768 := by
        rw [p.fr, List.length_map]
        have := List.length_filter_le (fun i => decide (X.wd i = 0)) (pre.map (·.1))
        rw [List.length_map] at this
        have := b.wide; have := b.room2
        omega
      obtain ⟨f, fc1, u3, hr3, o3, b3, hf3⟩ := run_app_h ((raw.fre.drew).new (.cells #[.int .u32 (2 + ((x.1 : Nat) : Int))] 32)) u.heap.size (2 + ((x.1 : Nat) : Int)) (heap_alloc_new u.drew _) (by omega) (Nat.zero_le _)
      have kp3 : ∀ i, i < u.heap.size → ¬ At fa' i → u3.heap[i]? = u.heap[i]? := fun i hi hn => (b3.block i (by rw [World.size_alloc]; exact Nat.lt_succ_of_lt hi) hn).trans (Below.heap_alloc u.drew _ _ hi)
      obtain ⟨ws, hws⟩ : ∃ ws : Nat → World, ws = fun p => if p = 0 then u.drew else if p = 1 then u.drew.alloc (.cells #[.int .u32 (2 + ((x.1 : Nat) : Int))] 32) else if p = 2 then u3 else u3.setCell ⟨X.S, 19, none⟩ (.slice (some ⟨f, 0, none⟩) (fr'.length + 1) fc1) := ⟨_, rfl⟩
      have w0e : ws 0 = u.drew := by rw [hws]; rfl
      have w1e : ws 1 = u.drew.alloc (.cells #[.int .u32 (2 + ((x.1 : Nat) : Int))] 32) := by rw [hws]; rfl
      have w2e : ws 2 = u3 := by rw [hws]; rfl
      have w3e : ws 3 = u3.setCell ⟨X.S, 19, none⟩ (.slice (some ⟨f, 0, none⟩) (fr'.length + 1) fc1) := by rw [hws]; rfl
      clear hws
      have bsn : ¬ At fa' Bs := fun e => box_out raw bs (by decide) (.inr (.inr (.inr (.inr e))))
      have kpw : ∀ i q, q < 3 → i < u.heap.size → ¬ At fa' i → (ws q).heap[i]? = u.heap[i]? := fun i q hq hi hn => by
        have : q = 0 ∨ q = 1 ∨ q = 2 := by omega
        rcases this with rfl | rfl | rfl
        · rw [w0e]; rfl
        · rw [w1e]; exact Below.heap_alloc u.drew _ _ hi
        · rw [w2e]; exact kp3 i hi hn
      have blkw : ∀ q, q < 3 → (ws q).rowIs X.S 89 28 (stCell X.n X.v X.l X.room X.ad X.W X.cap fa' fr'.length fc' X.P X.mp X.lines X.on) := fun q hq => raw.blk.of_block (kpw _ q hq raw.blk.lt q1)
      have cbw : ∀ q, q < 3 → (ws q).cell? ⟨Bs, 0, none⟩ = some (.pointer (some ⟨X.S, 0, none⟩)) := fun q hq => (World.cell?_of_block (kpw Bs q hq bs.lt bsn)).trans cbs
      gi_wp2
      refine wpIn_region_listed (by kernel_rfl) (SH ws ph10 10 40 (fun i => if i = 0 then .pointer (some ⟨X.S, 0, none⟩) else if i = 1 then .pointer (some ⟨X.S, 0, none⟩) else if i = 2 then .pointer (some ⟨X.S, 0, none⟩) else if i = 3 then .pointer (some ⟨X.S, 19, none⟩) else if i = 4 then .slice fa' fr'.length fc' else if i = 5 then .int .u32 (2 + ((x.1 : Nat) : Int)) else if i = 6 then .slice (some ⟨u.heap.size, 0, none⟩) 1 1 else if i = 7 then .slice (some ⟨f, 0, none⟩) (fr'.length + 1) fc1 else if i = 8 then .pointer (some ⟨X.S, 0, none⟩) else .pointer (some ⟨X.S, 19, none⟩)) _) (by kernel_rfl) ?_ ?_ (SH.start _ w0e.symm)
      · intro listed i o a w' ho hn hi hdep hcl g
        have hi11 : i < 11 := (Array.getElem?_eq_some_iff.1 ho).1
        have c9 : listed.getD 9 false = true → ∀ j, j < 9 → listed.getD j false = true := fun r j hj => by
          have : j = 0 ∨ j = 1 ∨ j = 2 ∨ j = 3 ∨ j = 4 ∨ j = 5 ∨ j = 6 ∨ j = 7 ∨ j = 8 := by omega
          rcases this with rfl | rfl | rfl | rfl | rfl | rfl | rfl | rfl | rfl
          · exact hcl 9 _ r rfl { on := 0, ground := .phase } (by simp) (by decide)
          · exact hcl 9 _ r rfl { on := 1, ground := .phase } (by simp) (by decide)
          · exact hcl 9 _ r rfl { on := 2, ground := .phase } (by simp) (by decide)
          · exact hcl 9 _ r rfl { on := 3, ground := .phase } (by simp) (by decide)
          · exact hcl 9 _ r rfl { on := 4, ground := .phase } (by simp) (by decide)
          · exact hcl 9 _ r rfl { on := 5, ground := .phase } (by simp) (by decide)
          · exact hcl 9 _ r rfl { on := 6, ground := .phase } (by simp) (by decide)
          · exact hcl 9 _ r rfl { on := 7, ground := .phase } (by simp) (by decide)
          · exact hcl 9 _ r rfl { on := 8, ground := .data } (by simp) (by decide)
        have n10 : i < 10 → listed.getD 10 false = false := fun hi10 => by
          cases r : listed.getD 10 false with
          | false => rfl
          | true =>
            have r9 := hcl 10 _ r rfl { on := 9, ground := .data } (by simp) (by decide)
            by_cases q : i = 9
            · rw [q, r9] at hi; cases hi
            · rw [c9 r9 i (by omega)] at hi; cases hi
        have c7 : listed.getD 7 false = true → listed.getD 4 false = true ∧ listed.getD 6 false = true := fun r => ⟨hcl 7 _ r rfl { on := 4, ground := .data } (by simp) (by decide), hcl 7 _ r rfl { on := 6, ground := .data } (by simp) (by decide)⟩
        have gw : Aside (w' = ws (if listed.getD 10 false = true then 3 else if listed.getD 7 false = true then 2 else if listed.getD 6 false = true then 1 else 0)) := g.world
        have n10A : Aside (i < 10 → listed.getD 10 false = false) := n10
        have wq : Aside (i < 10 → ∃ q, q < 3 ∧ w' = ws q) := fun hi10 => by
          rw [gw.out, n10 hi10]
          simp only [Bool.false_eq_true, if_false]
          split
          · exact ⟨2, by omega, rfl⟩
          · split
            · exact ⟨1, by omega, rfl⟩
            · exact ⟨0, by omega, rfl⟩
        have same : Aside (i ≠ 6 → i ≠ 7 → i ≠ 10 → w' = ws (if (listed.setIfInBounds i true).getD 10 false = true then 3 else if (listed.setIfInBounds i true).getD 7 false = true then 2 else if (listed.setIfInBounds i true).getD 6 false = true then 1 else 0)) := fun h6 h7 h10 => by
          rw [getD_set_ne false h10, getD_set_ne false h7, getD_set_ne false h6]
          exact gw.out
        have hiA : Aside (listed.getD i false = false) := hi
        have c7A : Aside (listed.getD 7 false = true → listed.getD 4 false = true ∧ listed.getD 6 false = true) := c7
        have hnA : Aside (listed.size = 11) := hn
        clear c7 c9 n10 hi hn
        have q1 : a.tmps.getD 1 undef = .pointer (some ⟨Bs, 0, none⟩) := g.other 1 (by omega)
        have q4 : a.tmps.getD 4 undef = .int .u32 (2 + ((x.1 : Nat) : Int)) := g.other 4 (by omega)
        have lt11 : i = 0 ∨ i = 1 ∨ i = 2 ∨ i = 3 ∨ i = 4 ∨ i = 5 ∨ i = 6 ∨ i = 7 ∨ i = 8 ∨ i = 9 ∨ i = 10 := by omega
        rcases lt11 with rfl | rfl | rfl | rfl | rfl | rfl | rfl | rfl | rfl | rfl | rfl
        · simp at ho
          subst ho
          obtain ⟨q, hq, rfl⟩ := wq.out (by omega)
          have cc := cbw q hq
          refine wpOpIn_plain rfl rfl ?_
          go_simp
          exact g.step (i := 0) (by omega) (show 40 + 10 ≤ 69 by omega) (same.out (by omega) (by omega) (by omega))
        · simp at ho
          subst ho
          obtain ⟨q, hq, rfl⟩ := wq.out (by omega)
          have cc := cbw q hq
          refine wpOpIn_plain rfl rfl ?_
          go_simp
          exact g.step (i := 1) (by omega) (show 40 + 10 ≤ 69 by omega) (same.out (by omega) (by omega) (by omega))
        · simp at ho
          subst ho
          have v1 : a.tmps.getD 41 undef = .pointer (some ⟨X.S, 0, none⟩) := g.vals 1 (by omega) (hdep { on := 1, ground := .data } (by simp) (by decide))
          refine wpOpIn_plain rfl rfl ?_
          go_simp
          exact g.step (i := 2) (by omega) (show 40 + 10 ≤ 69 by omega) (same.out (by omega) (by omega) (by omega))
        · simp at ho
          subst ho
          have v1 : a.tmps.getD 42 undef = .pointer (some ⟨X.S, 0, none⟩) := g.vals 2 (by omega) (hdep { on := 2, ground := .data } (by simp) (by decide))
          refine wpOpIn_plain rfl rfl ?_
          go_simp
          exact g.step (i := 3) (by omega) (show 40 + 10 ≤ 69 by omega) (same.out (by omega) (by omega) (by omega))
        · simp at ho
          subst ho
          have v1 : a.tmps.getD 43 undef = .pointer (some ⟨X.S, 19, none⟩) := g.vals 3 (by omega) (hdep { on := 3, ground := .data } (by simp) (by decide))
          obtain ⟨q, hq, rfl⟩ := wq.out (by omega)
          have cc : (ws q).cell? ⟨X.S, 19, none⟩ = some (.slice fa' fr'.length fc') := (blkw q hq).cell (i := 19) (by omega)
          refine wpOpIn_plain rfl rfl ?_
          go_simp
          exact g.step (i := 4) (by omega) (show 40 + 10 ≤ 69 by omega) (same.out (by omega) (by omega) (by omega))
        · simp at ho
          subst ho
          refine wpOpIn_plain rfl rfl ?_
          go_simp
          exact g.step (i := 5) (by omega) (show 40 + 10 ≤ 69 by omega) (same.out (by omega) (by omega) (by omega))
        · simp at ho
          subst ho
          have v1 : a.tmps.getD 45 undef = .int .u32 (2 + ((x.1 : Nat) : Int)) := g.vals 5 (by omega) (hdep { on := 5, ground := .data } (by simp) (by decide))
          have n7 : listed.getD 7 false = false := by
            cases r : listed.getD 7 false with
            | false => rfl
            | true => have q := hiA.out; rw [(c7A.out r).2] at q; cases q
          have w0 : w' = u.drew := by rw [gw.out, n10A.out (by omega), n7, hiA.out]; simp only [Bool.false_eq_true, if_false]; exact w0e
          refine wpOpIn_plain rfl rfl ?_
          rw [w0]
          go_simp
          rw [show a.tmps[45]?.getD undef = .int .u32 (2 + ((x.1 : Nat) : Int)) by simpa using v1]
          go_simp
          have kk : u.drew.alloc (.cells #[.int .u32 (2 + ((x.1 : Nat) : Int))] 32) = ws (ph10 (listed.setIfInBounds 6 true)) := by
            unfold ph10
            rw [getD_set_ne false (by omega), getD_set_ne false (by omega), n10A.out (by omega), n7, show (listed.setIfInBounds 6 true).getD 6 false = true by simp [hnA.out]]
            simp only [Bool.false_eq_true, if_false, if_true]
            exact w1e.symm
          exact g.step (i := 6) (by omega) (show 40 + 10 ≤ 69 by omega) kk
        · simp at ho
          subst ho
          have v4 : a.tmps.getD 44 undef = .slice fa' fr'.length fc' := g.vals 4 (by omega) (hdep { on := 4, ground := .data } (by simp) (by decide))
          have r6 := hdep { on := 6, ground := .data } (by simp) (by decide)
          have v6 : a.tmps.getD 46 undef = .slice (some ⟨u.heap.size, 0, none⟩) 1 1 := g.vals 6 (by omega) r6
          have w0 : w' = u.drew.alloc (.cells #[.int .u32 (2 + ((x.1 : Nat) : Int))] 32) := by rw [gw.out, n10A.out (by omega), hiA.out, r6]; simp only [Bool.false_eq_true, if_false, if_true]; exact w1e
          refine wpOpIn_plain rfl rfl ?_
          rw [w0]
          refine op_app_in (.tmp 44) (.tmp 46) rfl _ _ _ (by simp [Act.eval, v4]) (by simp [Act.eval, v6]) hr3 ?_
          exact g.step (i := 7) (by omega) (show 40 + 10 ≤ 69 by omega) (by
            unfold ph10
            rw [getD_set_ne false (by omega), n10A.out (by omega), show (listed.setIfInBounds 7 true).getD 7 false = true by simp [hnA.out]]
            simp only [Bool.false_eq_true, if_false, if_true]
            exact w2e.symm)
        · simp at ho
          subst ho
          have v1 : a.tmps.getD 40 undef = .pointer (some ⟨X.S, 0, none⟩) := g.vals 0 (by omega) (hdep { on := 0, ground := .data } (by simp) (by decide))
          refine wpOpIn_plain rfl rfl ?_
          go_simp
          exact g.step (i := 8) (by omega) (show 40 + 10 ≤ 69 by omega) (same.out (by omega) (by omega) (by omega))
        · simp at ho
          subst ho
          have v1 : a.tmps.getD 48 undef = .pointer (some ⟨X.S, 0, none⟩) := g.vals 8 (by omega) (hdep { on := 8, ground := .data } (by simp) (by decide))
          refine wpOpIn_plain rfl rfl ?_
          go_simp
          exact g.step (i := 9) (by omega) (show 40 + 10 ≤ 69 by omega) (same.out (by omega) (by omega) (by omega))
        · simp at ho
          subst ho
          have v9 : a.tmps.getD 49 undef = .pointer (some ⟨X.S, 19, none⟩) := g.vals 9 (by omega) (hdep { on := 9, ground := .data } (by simp) (by decide))
          have r7 := hdep { on := 7, ground := .data } (by simp) (by decide)
          have v7 : a.tmps.getD 47 undef = .slice (some ⟨f, 0, none⟩) (fr'.length + 1) fc1 := g.vals 7 (by omega) r7
          have w0 : w' = u3 := by rw [gw.out, hiA.out, r7]; simp only [Bool.false_eq_true, if_false, if_true]; exact w2e
          have cc : u3.cell? ⟨X.S, 19, none⟩ = some (.slice fa' fr'.length fc') := by rw [← w2e]; exact (blkw 2 (by omega)).cell (i := 19) (by omega)
          have ff : u3.frozen? ⟨X.S, 19, none⟩ = false := by rw [← w2e]; exact (blkw 2 (by omega)).frozen 19
          refine wpOpIn_plain rfl rfl ?_
          rw [w0]
          go_simp
          exact g.store (by
            unfold ph10
            rw [show (listed.setIfInBounds 10 true).getD 10 false = true by simp [hnA.out]]
            simp only [if_true]
            exact w3e.symm) none rfl undef
      · intro listed a' w' hall g
        have gd := g.defers
        have gw : w' = u3.setCell ⟨X.S, 19, none⟩ (.slice (some ⟨f, 0, none⟩) (fr'.length + 1) fc1) := by
          rw [g.world]
          unfold ph10
          rw [hall 10 (by decide)]
          simp only [if_true]
          exact w3e
        clear g hall kpw blkw cbw w0e w1e w2e w3e
        subst gw
        clear gd
        have ltu : ∀ b, (FS X fa' b ∨ At X.ad b) → b < u.heap.size := raw.lt
        have e3 : ∀ b, b < u.heap.size → ¬ At fa' b → u3.heap[b]? = u.heap[b]? := kp3
        have hfne : X.S ≠ f := fun e => by
          rcases hf3 with q | q
          · exact q1 (e ▸ q)
          · rw [World.size_alloc] at q; have := raw.blk.lt; have : u.drew.heap.size = u.heap.size := rfl; omega
        obtain ⟨oo, ff, mm⟩ := raw.mem
        have blk3 := raw.blk.of_block (w' := u3) (e3 _ raw.blk.lt q1)
        have kpS : ∀ b, b ≠ X.S → (u3.setCell ⟨X.S, 19, none⟩ (.slice (some ⟨f, 0, none⟩) (fr'.length + 1) fc1)).heap[b]? = u3.heap[b]? := fun b e => Below.heap_setCell _ _ _ _ e
        have kpT : ∀ b, b < u.heap.size → ¬ At fa' b → b ≠ X.S → (u3.setCell ⟨X.S, 19, none⟩ (.slice (some ⟨f, 0, none⟩) (fr'.length + 1) fc1)).heap[b]? = u.heap[b]? := fun b h1 h2 h3 => (kpS b h3).trans (e3 b h1 h2)
        have g7 : Went (FS X fa') u (u3.setCell ⟨X.S, 19, none⟩ (.slice (some ⟨f, 0, none⟩) (fr'.length + 1) fc1)) := by
          have ga : Went (FS X fa') u (u.drew.alloc (.cells #[.int .u32 (2 + ((x.1 : Nat) : Int))] 32)) := (Went.refl (FS X fa') u).drew.trans (Went.new (FS X fa') u.drew _)
          exact (ga.trans (b3.wider fun b hb => .inr (.inr (.inr (.inr hb))))).trans (Went.set (.inl rfl) _ _)
        have raw7 : Raw (u3.setCell ⟨X.S, 19, none⟩ (.slice (some ⟨f, 0, none⟩) (fr'.length + 1) fc1)) X c' (some ⟨f, 0, none⟩) (fr' ++ [x.1 + 2]).length fc1 (fun i => .int .u32 ((fr' ++ [x.1 + 2]).getD i 0 : Nat)) nm' := by
          rw [show (fr' ++ [x.1 + 2]).length = fr'.length + 1 by simp]
          have o4 : OwnR 32 u3 0 (some ⟨f, 0, none⟩) (fr'.length + 1) fc1 (fun i => .int .u32 ((fr' ++ [x.1 + 2]).getD i 0 : Nat)) := o3.congr fun i hi => by
            rw [getD_snoc]
            by_cases e : i = fr'.length
            · rw [if_pos e, if_pos e]
              congr 1
              omega
            · rw [if_neg e, if_neg e]
          exact ⟨(blk3.set 19 _).congr fun i _ => stCell_19 X.n X.v X.l X.room X.ad X.W X.cap fa' (some ⟨f, 0, none⟩) fr'.length (fr'.length + 1) fc' fc1 X.P X.mp X.lines X.on i, ⟨oo, ff, mm.of_blocks (kpT _ mm.ltP q2 a1.symm) (kpT _ mm.ltR q3 a2.symm)⟩, raw.own.kept fun b hb => kpT b (ltu b (.inr hb)) (q5 b hb) (fun e => a6 (e ▸ hb)), o4.kept fun b hb => kpS b fun e => by
            obtain ⟨a, ha, hb⟩ := hb
            cases ha
            exact hfne (e.symm.trans hb.symm), raw.map.same (kpT _ raw.map.lt q4 a3.symm)⟩
        clear kpS kpT e3 blk3
        refine (by assumption : ∀ (a : Act) (w : World), Code.wpIn _ _ _ (Code.exit 1) _ a w → _) _ _ ?_
        gi_wp2
        refine rl_post raw hn bs bx wt hlt hmp6 g7 raw7 (p.free hz) fun i hi => ?_
        obtain ⟨a, ha, rfl⟩ := hi
        cases ha
        rcases hf3 with e | e
        · exact .inl e
        · refine .inr ?_
          rw [World.size_alloc] at e
          have : u.drew.heap.size = u.heap.size := rfl
          show u.heap.size ≤ f
          omega
    · have hd := b.wds.fit x.1 hx
      have hz0 : 0 < X.wd x.1 := by omega
      obtain ⟨z, hzz⟩ : ∃ z, X.wd x.1 = z := ⟨_, rfl⟩
      rw [hzz] at hd hz0
      have hne0 : ¬ z = 0 := by omega
      rw [hzz]
      obtain ⟨o, f0, ht⟩ := raw.tb b
      have K1 := Tb.find_any ht z (by omega) (by omega)
      obtain ⟨A, hA⟩ : ∃ A, u.heap.size = A := ⟨_, rfl⟩
      rw [hA] at K1
      have hH' : Aside (u.heap.size = A) := hA
      clear hA
      have hmf : ∀ (fn : Fn) (first cap : Array Value) (w : World), (Instr.makeFunc fn first cap).run Tryz.prog w = .ok (.func fn first cap) w := fun _ _ _ _ => rfl
      have hT : Aside (∀ (t : Nat → Int) (Y : Tb.Fd), Y.st = 0 → Y.key = z → Tb.FI (2 * X.room) t Y → Tb.Good (2 * X.room) t → Tb.Solo (2 * X.room) c' t Y → Y.tells = ((Y.slot : Int), 0) ∧ Y.slot < 2 * X.room ∧ ((c' Y.slot = 0 ∧ ∀ s, s < 2 * X.room → ¬ c' s = X.wd x.1) ∨ c' Y.slot = X.wd x.1) ∧ ∀ j, j < 2 * X.room → t j = upd c' Y.slot (X.wd x.1) j) := fun t Y y0 yk fi gd so => by
        have r1 := b.room1
        by_cases q : ∃ s, s < 2 * X.room ∧ c' s = z
        · obtain ⟨s0, hs0, e0⟩ := q
          obtain ⟨e1, e2, e3⟩ := so.there fi gd y0 hs0 (by rw [e0, yk])
          subst e3
          obtain ⟨_, xl, xs⟩ := fi.found e1
          refine ⟨by unfold Tb.Fd.tells; rw [if_pos e1], fi.slot_lt (by omega) xl, .inr (by rw [xs, yk, hzz]), fun j _ => ?_⟩
          unfold upd
          split
          · next e => rw [e, xs, yk, hzz]
          · rfl
        · have no : ∀ s, s < 2 * X.room → ¬ c' s = z := fun s hs e => q ⟨s, hs, e⟩
          obtain ⟨e1, e2, e3, e4, e5⟩ := so.room fi (by omega) y0 (by rw [yk]; exact no) (by rw [p.cnt]; have := cntP_le X.W X.wd (pre.map (·.1)); have := b.wide; omega)
          rw [yk] at e5
          exact ⟨by unfold Tb.Fd.tells; rw [if_pos e1], e3, .inl ⟨e4, by rw [hzz]; exact no⟩, fun j _ => by rw [e5, hzz]⟩
      have bsA : Aside (∀ u', Went (FS X fa') u u' → Boxed u' Bs 27 (.pointer (some ⟨X.S, 0, none⟩))) := fun u' g => box_went bs g (box_out raw bs (by decide))
      have hnA : Aside (∀ i, At fa' i → At fa i ∨ w.heap.size ≤ i) := hn
      gi_wp2_with (first
        | (refine ⟨trivial, ?_⟩; gi_at_call 86; refine (CallsIn.inRound l (callsIn_wide.2 K1)).mono ?_; clear K1; rintro e w1' ⟨rfl, b1, c1, s1⟩; rw [← hH'.out] at c1; have ht1 := ht.below c1; have K2 := drive_find (t0 := c') (t := c') ht1 b1 (fun i => by rw [Nat.zero_add]) (Tb.FI.start ht.pos c' (by omega)) p.good (Tb.Solo.start _ _ _))
        | (refine ⟨trivial, ?_⟩; gi_at_call 87; refine (CallsIn.inRound l (callsIn_wide.2 K2)).mono ?_; clear K2; rintro e w2' ⟨rfl, c2, o2', f2', t2, Y, ht2, ct2, cb2, b2, y0, yk, fi, gd, so, d2⟩; obtain ⟨r1, r2, r3, r4⟩ := hT.out t2 Y y0 yk fi gd so; clear y0 yk fi so; have K3 := Tb.slot_any b2; rw [r1] at K3; clear r1)
        | (refine ⟨trivial, ?_⟩; gi_at_call 89; refine (CallsIn.inRound l (callsIn_wide.2 K3)).mono ?_; clear K3; rintro e w2' ⟨rfl, rfl⟩; have g : Went (fun k => k = X.P ∨ k = X.R ∨ u.heap.size ≤ k) u w2' := ⟨d2.os.trans c1.os, d2.tape.trans c1.tape, d2.output.trans c1.output, Nat.le_trans c1.size d2.size, fun j hj hn => (d2.block j (Nat.lt_of_lt_of_le hj c1.size) fun e => hn (by rcases e with e | e | e; exact .inl e; exact .inr (.inl e); have := hH'.out; exact .inr (.inr (by omega)))).trans (c1.block j hj)⟩; obtain ⟨raw2, g2⟩ := raw.cells g ht2.mem; have cb3 := (bsA.out _ g2).cell; have c23 : w2'.cell? ⟨X.S, 23, none⟩ = some (.map (some X.mp)) := raw2.blk.cell (i := 23) (by omega); obtain ⟨u3, hr3, m3, t3⟩ := map_put raw2.map (Y.slot : Int) (2 + ((x.1 : Nat) : Int))))
      obtain ⟨raw3, g3⟩ := raw2.named t3 m3
      rw [show (2 : Int) + ((x.1 : Nat) : Int) = ((x.1 + 2 : Nat) : Int) by omega] at raw3
      have htc : t2 = c2 := by
        funext j
        have := ct2 j
        rw [Nat.zero_add] at this
        exact this.symm
      subst htc
      exact rl_post raw hnA.out bs bx wt hlt hmp6 (g2.trans g3) raw3 (p.laid b.wds hx hz r2 r3 r4 (fun j hj => cb2 j (.inr (by omega))) gd) fun i hi => .inl hi
  case done =>
    rintro D ys u hD hS ⟨⟨c', fa', fc', fr', nm', raw, p, hn⟩, _, _, wt, _⟩ hK
    gi_wp2
    refine ⟨by simp, .inl ⟨_, _, rfl, run_takeDeferred hK, ?_⟩⟩
    have hDo : ∀ j, (FS X fa' j ∨ At X.ad j) → j ≠ D := fun j hj e => by
      by_cases q : j = X.mp
      · omega
      · have := raw_cells raw hj q (e ▸ hK)
        cases this
    rw [hS] at p
    have wtD : Went (FS X fa) w (u.putObj D (.deferred none)) := ⟨wt.os, wt.tape, wt.output, by simpa using wt.size, fun j hj hnf => (World.putObj_heap_other fun e => by have := size6; omega).trans (wt.block j hj hnf)⟩
    exact ⟨_, results_none rfl _ _ _, rfl, c', fa', fc', fr', nm', raw.kept fun j hj => World.putObj_heap_other (hDo j hj), p, hn, wtD⟩
  case stop =>
    rintro D c pre u _ _ h _
    exact h.elim
end
end Go.Proofs.YtlmbofbdncgaiaaGreat.Mk
