/-
  The plan under way in memory: its block and its maps; what its small calls do.
-/
import Derived.Test.YteickckgljlacaaGreatSwA
import Derived.Test.YteickckgljlacaaGreatSwB
import Derived.Deep.QuietTactic
import Derived.BigQuiet
namespace Go.Proofs.YteickckgljlacaaGreat.Sw
open Go Go.RowKit

def exCell (S k bn bl last : Nat) (i : Nat) : Value :=
  if i = 0 then .pointer (some ⟨S, 0, none⟩) else if i = 1 then .int .i64 (k : Int) else if i = 2 then .map (some bn) else if i = 3 then .map (some bl) else .int .u32 (last : Int)
/-- The plan under way. -/
structure Ex (w0 w : World) (E S bn bl k : Nat) (N : List (Nat × Nd)) (L : List (Nd × Nat)) (last : Nat) : Prop where
  base : Below w0.heap.size w0 w
  blk : w.rowIs E 143 5 (exCell S k bn bl last)
  hN : IsH w bn N
  hL : IsL w bl L
  ne : bn ≠ bl
  aE : w0.heap.size ≤ E
  aN : w0.heap.size ≤ bn
  aL : w0.heap.size ≤ bl
/-- Its own blocks. -/
def XF (E bn bl b : Nat) : Prop := b = E ∨ b = bn ∨ b = bl
section
variable {w0 w w' : World} {E S bn bl k last : Nat} {N : List (Nat × Nd)} {L : List (Nd × Nat)} {M : Mdl} {F : Nat → Prop}
theorem Ex.kind (h : Ex w0 w E S bn bl k N L last) : E ≠ bn ∧ E ≠ bl := by
  obtain ⟨cs, hE, _⟩ := h.blk
  obtain ⟨e1, c1, h1, _⟩ := h.hN
  obtain ⟨e2, c2, h2, _⟩ := h.hL
  exact ⟨fun e => by rw [e, h1] at hE; simp at hE, fun e => by rw [e, h2] at hE; simp at hE⟩
theorem Ex.below (h : Ex w0 w E S bn bl k N L last) (g : Below w.heap.size w w') : Ex w0 w' E S bn bl k N L last :=
  ⟨h.base.trans (g.mono h.base.size), h.blk.of_block (g.block _ h.blk.lt), h.hN.same (g.block _ h.hN.lt), h.hL.same (g.block _ h.hL.lt), h.ne, h.aE, h.aN, h.aL⟩
theorem Ex.kept (h : Ex w0 w E S bn bl k N L last) {Q : Nat → Prop} (g : Went Q w w') (hQ : ∀ b, Q b → w0.heap.size ≤ b) (n1 : ¬ Q E) (n2 : ¬ Q bn) (n3 : ¬ Q bl) : Ex w0 w' E S bn bl k N L last :=
  ⟨⟨g.os.trans h.base.os, g.tape.trans h.base.tape, g.output.trans h.base.output, Nat.le_trans h.base.size g.size, fun b hb => (g.block b (Nat.lt_of_lt_of_le hb h.base.size) fun e => by have := hQ b e; omega).trans (h.base.block b hb)⟩, h.blk.of_block (g.block _ h.blk.lt n1), h.hN.same (g.block _ h.hN.lt n2), h.hL.same (g.block _ h.hL.lt n3), h.ne, h.aE, h.aN, h.aL⟩
theorem Ex.drewN (h : Ex w0 w E S bn bl k N L last) (q : Nat) : Ex w0 (w.drewN q) E S bn bl k N L last := h.below ⟨rfl, rfl, rfl, Nat.le_refl _, fun _ _ => rfl⟩
theorem Ex.drew (h : Ex w0 w E S bn bl k N L last) : Ex w0 w.drew E S bn bl k N L last := h.below ⟨rfl, rfl, rfl, Nat.le_refl _, fun _ _ => rfl⟩
theorem Ex.new (h : Ex w0 w E S bn bl k N L last) (o : Obj) : Ex w0 (w.alloc o) E S bn bl k N L last := h.below ((Below.refl _ _).alloc (Nat.le_refl _) _)
theorem Ex.st (h : Ex w0 w E S bn bl k N L last) (s : St w0 S F M) : St w S F M := s.below h.base
theorem Ex.c0 (h : Ex w0 w E S bn bl k N L last) : w.cell? ⟨E, 0, none⟩ = some (.pointer (some ⟨S, 0, none⟩)) := h.blk.cell (i := 0) (by omega)
theorem Ex.c1 (h : Ex w0 w E S bn bl k N L last) : w.cell? ⟨E, 1, none⟩ = some (.int .i64 (k : Int)) := h.blk.cell (i := 1) (by omega)
theorem Ex.c2 (h : Ex w0 w E S bn bl k N L last) : w.cell? ⟨E, 2, none⟩ = some (.map (some bn)) := h.blk.cell (i := 2) (by omega)
theorem Ex.c3 (h : Ex w0 w E S bn bl k N L last) : w.cell? ⟨E, 3, none⟩ = some (.map (some bl)) := h.blk.cell (i := 3) (by omega)
theorem Ex.c4 (h : Ex w0 w E S bn bl k N L last) : w.cell? ⟨E, 4, none⟩ = some (.int .u32 (last : Int)) := h.blk.cell (i := 4) (by omega)

/-- Does it lie on the lower level? -/
theorem onLower_any (s : St w0 S F M) (h : Ex w0 w E S bn bl k N L last) (kn : k + 1 < M.n) (x : Nat) (hx : x < 4294967296) :
    Calls Tryz.prog 85 #[.pointer (some ⟨E, 0, none⟩), .int .u32 (x : Int)] w fun e w' => e = .returned (.bool (M.levI x == (k : Int) + 1)) ∧ ∃ q, w' = w.drewN q := by
  have n8 := s.ok.le8
  have c0 := h.c0
  have c1 := h.c1
  have KL : ∀ q, Calls Tryz.prog 15 #[.pointer (some ⟨S, 0, none⟩), .int .u32 (x : Int)] (w.drewN q) fun e w' => e = .returned (.int .i64 (M.levI x)) ∧ w' = w.drewN q := fun q => s_level ((h.drewN q).st s) x hx
  have hw : IntKind.i64.wrap ((k : Int) + 1) = (k : Int) + 1 := by rw [IntKind.wrap_i64]; omega
  have hw2 : wrap64 ((k : Int) + 1) = (k : Int) + 1 := by unfold wrap64; omega
  generalize M.levI x = z at KL
  clear h s
  go_enter Tryz.func85, Tryz.ntmps85
  go_wp2_with fail
  go_quiet ((go_at_call 15; exact Calls.quiet_of_same (KL _)))
  go_wp2_with fail
  go_ret
  exact ⟨rfl, _, rfl⟩
/-! ## Halves -/
theorem cof_of (o : M.Ok) (kn : k + 1 < M.n) {x : Nat} (nx : M.isNode x) : (M.levI x == (k : Int) + 1) = decide (M.lev x = k + 1) ∧ (M.lev x = k + 1 → M.lowN x = cof M k x false ∧ M.highN x = cof M k x true) := by
  rw [Mdl.levI_node nx]
  refine ⟨?_, fun e => ?_⟩
  · rw [Bool.eq_iff_iff, beq_iff_eq, decide_eq_true_iff]
    omega
  · obtain ⟨hm, _⟩ := low_in o kn nx e
    exact ⟨by rw [Mdl.lowN_in o hm, cof_lo e], by rw [Mdl.highN_in o hm, cof_hi e]⟩

theorem at_lo (s : St w0 S F M) (h : Ex w0 w E S bn bl k N L last) (kn : k + 1 < M.n) {x : Nat} (nx : M.isNode x) :
    Calls Tryz.prog 87 #[.pointer (some ⟨E, 0, none⟩), .int .u32 (x : Int), .func (.func 29) #[.pointer (some ⟨S, 0, none⟩)] #[]] w fun e w' => e = .returned (.int .u32 (cof M k x false : Int)) ∧ ∃ q, w' = w.drewN q := by
  have hx : x < 4294967296 := by have := s.nodes nx; have := s.room.2; omega
  obtain ⟨c1, c2⟩ := cof_of s.ok kn nx
  have K := onLower_any s h kn x hx
  rw [c1] at K
  by_cases e : M.lev x = k + 1
  · rw [decide_eq_true e] at K
    have e2 := (c2 e).1
    have KS : Aside (∀ q, Calls Tryz.prog 29 #[.pointer (some ⟨S, 0, none⟩), .int .u32 (x : Int)] (w.drewN q) fun e w' => e = .returned (.int .u32 (cof M k x false : Int)) ∧ w' = w.drewN q) := fun q => by
      have := s_low ((h.drewN q).st s) x hx
      rwa [e2] at this
    generalize cof M k x false = y at KS
    clear h s c1 c2 e e2 nx
    go_enter Tryz.func87, Tryz.ntmps87
    go_wp2_with (first
      | (go_at_call 85; refine K.mono ?_; clear K; rintro e w1 ⟨rfl, q, rfl⟩; have K2 := KS.out q)
      | (go_at_call 29; refine K2.mono ?_; clear K2; rintro e w1 ⟨rfl, rfl⟩))
    go_ret
    exact ⟨rfl, _, rfl⟩
  · rw [decide_eq_false e] at K
    rw [cof_no e]
    clear h s c1 c2 e nx
    go_enter Tryz.func87, Tryz.ntmps87
    go_wp2_with (first
      | (go_at_call 85; refine K.mono ?_; clear K; rintro e w1 ⟨rfl, q, rfl⟩))
    go_ret
    exact ⟨rfl, _, rfl⟩

theorem at_hi (s : St w0 S F M) (h : Ex w0 w E S bn bl k N L last) (kn : k + 1 < M.n) {x : Nat} (nx : M.isNode x) :
    Calls Tryz.prog 87 #[.pointer (some ⟨E, 0, none⟩), .int .u32 (x : Int), .func (.func 49) #[.pointer (some ⟨S, 0, none⟩)] #[]] w fun e w' => e = .returned (.int .u32 (cof M k x true : Int)) ∧ ∃ q, w' = w.drewN q := by
  have hx : x < 4294967296 := by have := s.nodes nx; have := s.room.2; omega
  obtain ⟨c1, c2⟩ := cof_of s.ok kn nx
  have K := onLower_any s h kn x hx
  rw [c1] at K
  by_cases e : M.lev x = k + 1
  · rw [decide_eq_true e] at K
    have e2 := (c2 e).2
    have KS : Aside (∀ q, Calls Tryz.prog 49 #[.pointer (some ⟨S, 0, none⟩), .int .u32 (x : Int)] (w.drewN q) fun e w' => e = .returned (.int .u32 (cof M k x true : Int)) ∧ w' = w.drewN q) := fun q => by
      have := s_high ((h.drewN q).st s) x hx
      rwa [e2] at this
    generalize cof M k x true = y at KS
    clear h s c1 c2 e e2 nx
    go_enter Tryz.func87, Tryz.ntmps87
    go_wp2_with (first
      | (go_at_call 85; refine K.mono ?_; clear K; rintro e w1 ⟨rfl, q, rfl⟩; have K2 := KS.out q)
      | (go_at_call 49; refine K2.mono ?_; clear K2; rintro e w1 ⟨rfl, rfl⟩))
    go_ret
    exact ⟨rfl, _, rfl⟩
  · rw [decide_eq_false e] at K
    rw [cof_no e]
    clear h s c1 c2 e nx
    go_enter Tryz.func87, Tryz.ntmps87
    go_wp2_with (first
      | (go_at_call 85; refine K.mono ?_; clear K; rintro e w1 ⟨rfl, q, rfl⟩))
    go_ret
    exact ⟨rfl, _, rfl⟩

theorem went_drewN {Q : Nat → Prop} {a b : World} (h : Went Q a b) (q : Nat) : Went Q a (b.drewN q) := ⟨h.os, h.tape, h.output, h.size, h.block⟩
theorem Turned.went {b : Nat} {Q : Nat → Prop} (t : Turned b w w') (hb : Q b) : Went Q w w' := ⟨t.os, t.tape, t.output, Nat.le_of_eq t.size.symm, fun i _ hn => t.block i fun e => hn (e ▸ hb)⟩
theorem Ex.turnN (h : Ex w0 w E S bn bl k N L last) {N' : List (Nat × Nd)} (t : Turned bn w w') (n : IsH w' bn N') : Ex w0 w' E S bn bl k N' L last ∧ Went (XF E bn bl) w w' := by
  obtain ⟨k1, k2⟩ := h.kind
  exact ⟨⟨⟨t.os.trans h.base.os, t.tape.trans h.base.tape, t.output.trans h.base.output, by have := t.size; have := h.base.size; omega, fun b hb => (t.block b (by have := h.aN; omega)).trans (h.base.block b hb)⟩, h.blk.of_block (t.block _ k1), n, h.hL.same (t.block _ h.ne.symm), h.ne, h.aE, h.aN, h.aL⟩, Turned.went t (.inr (.inl rfl))⟩
theorem Ex.turnL (h : Ex w0 w E S bn bl k N L last) {L' : List (Nd × Nat)} (t : Turned bl w w') (n : IsL w' bl L') : Ex w0 w' E S bn bl k N L' last ∧ Went (XF E bn bl) w w' := by
  obtain ⟨k1, k2⟩ := h.kind
  exact ⟨⟨⟨t.os.trans h.base.os, t.tape.trans h.base.tape, t.output.trans h.base.output, by have := t.size; have := h.base.size; omega, fun b hb => (t.block b (by have := h.aL; omega)).trans (h.base.block b hb)⟩, h.blk.of_block (t.block _ k2), h.hN.same (t.block _ h.ne), n, h.ne, h.aE, h.aN, h.aL⟩, Turned.went t (.inr (.inr rfl))⟩
theorem Ex.setLast (h : Ex w0 w E S bn bl k N L last) (y : Nat) : Ex w0 (w.setCell ⟨E, 4, none⟩ (.int .u32 (y : Int))) E S bn bl k N L y ∧ Went (XF E bn bl) w (w.setCell ⟨E, 4, none⟩ (.int .u32 (y : Int))) := by
  obtain ⟨k1, k2⟩ := h.kind
  have kp : ∀ b, b ≠ E → (w.setCell ⟨E, 4, none⟩ (.int .u32 (y : Int))).heap[b]? = w.heap[b]? := fun b e => Below.heap_setCell _ _ _ _ e
  refine ⟨⟨h.base.setCell h.aE _, (h.blk.set 4 _).congr fun i hi => ?_, h.hN.same (kp _ k1.symm), h.hL.same (kp _ k2.symm), h.ne, h.aE, h.aN, h.aL⟩, Went.set (.inl rfl) _ _⟩
  have : i = 0 ∨ i = 1 ∨ i = 2 ∨ i = 3 ∨ i = 4 := by omega
  rcases this with rfl | rfl | rfl | rfl | rfl <;> rfl
/-- A node's three cells. -/
def ndC (d : Nd) (i : Nat) : Value := if i = 0 then .int .i64 (d.1 : Int) else if i = 1 then .int .u32 (d.2.1 : Int) else .int .u32 (d.2.2 : Int)
theorem nd_row {B : Nat} {d : Nd} (h : w.rowIs B 139 3 (ndC d)) : w.cell? ⟨B, 0, none⟩ = some (.int .i64 (d.1 : Int)) ∧ w.cell? ⟨B, 1, none⟩ = some (.int .u32 (d.2.1 : Int)) ∧ w.cell? ⟨B, 2, none⟩ = some (.int .u32 (d.2.2 : Int)) :=
  ⟨h.cell (i := 0) (by omega), h.cell (i := 1) (by omega), h.cell (i := 2) (by omega)⟩
theorem nd_new (w : World) (d : Nd) : (w.alloc (.cells #[.int .i64 (d.1 : Int), .int .u32 (d.2.1 : Int), .int .u32 (d.2.2 : Int)] 139)).rowIs w.heap.size 139 3 (ndC d) := ⟨_, Go.Deep.blk_alloc_new w _, rfl, fun i hi => by
    have : i = 0 ∨ i = 1 ∨ i = 2 := by omega
    rcases this with rfl | rfl | rfl <;> rfl⟩
/-- A node is laid. -/
theorem put_any (h : Ex w0 w E S bn bl k N L last) (x : Nat) (d : Nd) (hx : x ∉ N.map (·.1)) (hd : d ∉ L.map (·.1)) (kb : k ≤ 8) :
    Calls Tryz.prog 72 #[.pointer (some ⟨E, 0, none⟩), .int .u32 (x : Int), ndV d] w fun e w' => e = .returned (.tuple #[]) ∧ Ex w0 w' E S bn bl k (N ++ [(x, d)]) (if d.1 = k + 1 then L ++ [(d, x)] else L) last ∧ Went (XF E bn bl) w w' := by
  have hw : IntKind.i64.wrap ((k : Int) + 1) = (k : Int) + 1 := by rw [IntKind.wrap_i64]; omega
  have hw2 : wrap64 ((k : Int) + 1) = (k : Int) + 1 := by unfold wrap64; omega
  obtain ⟨l, a, b⟩ := d
  obtain ⟨B, hB⟩ : ∃ B, w.heap.size = B := ⟨_, rfl⟩
  obtain ⟨w1, hw1⟩ : ∃ w1, w1 = w.alloc (.cells #[.int .i64 (l : Int), .int .u32 (a : Int), .int .u32 (b : Int)] 139) := ⟨_, rfl⟩
  have h1 := h.new (.cells #[.int .i64 (l : Int), .int .u32 (a : Int), .int .u32 (b : Int)] 139)
  have r1 := nd_new w (l, a, b)
  have g1 : Aside (Went (XF E bn bl) w w1) := by show Went _ _ _; rw [hw1]; exact Went.new _ _ _
  rw [hB] at r1
  change World.rowIs (w.alloc (.cells #[.int .i64 (l : Int), .int .u32 (a : Int), .int .u32 (b : Int)] 139)) _ _ _ _ at r1
  rw [← hw1] at h1 r1
  obtain ⟨b0, b1, b2⟩ := nd_row r1
  have c2 := h1.c2
  obtain ⟨w2, hr2, n2, t2⟩ := putH h1.drew.hN x (l, a, b) hx
  change (Instr.mapUpdate _ _ _ (.agg #[.int .i64 (l : Int), .int .u32 (a : Int), .int .u32 (b : Int)])).run Tryz.prog w1.drew = _ at hr2
  change Calls _ _ #[_, _, .agg #[.int .i64 (l : Int), .int .u32 (a : Int), .int .u32 (b : Int)]] _ _
  have bE : B ≠ E := fun e => by have := h.blk.lt; omega
  have bN : B ≠ bn := fun e => by have := h.hN.lt; omega
  have bL : B ≠ bl := fun e => by have := h.hL.lt; omega
  obtain ⟨h2, g2⟩ := h1.drew.turnN t2 n2
  have r2 := r1.of_block (w' := w2) (t2.block B bN)
  have h2A : Aside (Ex w0 w2 E S bn bl k (N ++ [(x, l, a, b)]) L last) := h2
  have g2A : Aside (Went (XF E bn bl) w w2) := g1.out.trans ((Went.refl (XF E bn bl) w1).drew.trans g2)
  have c1' := h2.c1
  obtain ⟨d0, d1, d2⟩ := nd_row r2
  have r2A : Aside (w2.rowIs B 139 3 (ndC (l, a, b))) := r2
  clear h r1 h1 n2 t2 g2 h2 r2
  by_cases e : l = k + 1
  · have eb : ((l : Int) == (k : Int) + 1) = true := by rw [beq_iff_eq]; omega
    rw [if_pos e]
    generalize hz : (l : Int) = z at hw1 b0 hr2 d0 eb ⊢
    have hzA : Aside ((l : Int) = z) := hz
    clear hz e
    go_enter Tryz.func72, Tryz.ntmps72
    go_wp2_with fail
    rw [← hw1]
    clear hw1 hB
    go_region
    go_wp2_with fail
    go_quiet (fail)
    have h3 := h2A.out.drewN nq
    have r3 := World.rowIs.of_block (w' := w2.drewN nq) r2A.out rfl
    obtain ⟨w3, hr3, n3, t3⟩ := putL h3.drew.hL (l, a, b) x hd
    change (Instr.mapUpdate _ _ (.agg #[.int .i64 (l : Int), .int .u32 (a : Int), .int .u32 (b : Int)]) _).run Tryz.prog (w2.drewN nq).drew = _ at hr3
    rw [hzA.out] at hr3
    obtain ⟨h4, g4⟩ := h3.drew.turnL t3 n3
    have h4A : Aside (Ex w0 w3 E S bn bl k (N ++ [(x, l, a, b)]) (L ++ [((l, a, b), x)]) last) := h4
    have g4A : Aside (Went (XF E bn bl) w w3) := (went_drewN g2A.out nq).trans ((Went.refl (XF E bn bl) (w2.drewN nq)).drew.trans g4)
    have c3 := h3.c3
    obtain ⟨q0, q1, q2⟩ := nd_row r3
    change _ = some (Value.int IntKind.i64 (l : Int)) at q0
    rw [hzA.out] at q0
    clear h3 r3 t3 n3 h4 g4 c1' c2 b0 b1 b2 d0 d1 d2
    generalize w2.drewN nq = w5 at hr3 c3 q0 q1 q2 ⊢
    go_wp2_with fail
    go_region
    go_wp2_with fail
    go_end0
    exact ⟨rfl, h4A.out, g4A.out⟩
  · have eb : ((l : Int) == (k : Int) + 1) = false := by rw [beq_eq_false_iff_ne]; omega
    rw [if_neg e]
    generalize hz : (l : Int) = z at hw1 b0 hr2 d0 eb ⊢
    have hzA : Aside ((l : Int) = z) := hz
    clear hz e
    go_enter Tryz.func72, Tryz.ntmps72
    go_wp2_with fail
    rw [← hw1]
    clear hw1 hB
    go_region
    go_wp2_with fail
    go_quiet (fail)
    go_wp2_with fail
    go_end0
    exact ⟨rfl, h2A.out.drewN nq, went_drewN g2A.out nq⟩
end
end Go.Proofs.YteickckgljlacaaGreat.Sw
