/-
  What a store keeps in its cache: asked for, laid.
-/
import Derived.Test.YtdmfbfbebcneeaaName
namespace Go.Proofs.Ytdmfbfbebcneeaa
open Go Go.RowKit

/-- All but the blocks of F stay as they were; those of F' are of F, or new. -/
structure Wf (F F' : Nat → Prop) (w w' : World) : Prop where
  os : w'.os = w.os
  tape : w'.tape = w.tape
  output : w'.output = w.output
  size : w.heap.size ≤ w'.heap.size
  block : ∀ k, k < w.heap.size → ¬ F k → w'.heap[k]? = w.heap[k]?
  new : ∀ k, F' k → F k ∨ w.heap.size ≤ k
namespace Wf
variable {F F' F'' : Nat → Prop} {a b c w w' : World}
theorem refl (F : Nat → Prop) (w : World) : Wf F F w w := ⟨rfl, rfl, rfl, Nat.le_refl _, fun _ _ _ => rfl, fun _ h => .inl h⟩
theorem trans (h : Wf F F' a b) (k : Wf F' F'' b c) : Wf F F'' a c :=
  ⟨k.os.trans h.os, k.tape.trans h.tape, k.output.trans h.output, Nat.le_trans h.size k.size,
   fun i hi hf => (k.block i (Nat.lt_of_lt_of_le hi h.size) fun e => (h.new i e).elim hf fun g => by omega).trans (h.block i hi hf),
   fun i hi => (k.new i hi).elim (fun e => h.new i e) fun e => .inr (Nat.le_trans h.size e)⟩
theorem of_below (h : Below w.heap.size w w') (F : Nat → Prop) : Wf F F w w' := ⟨h.os, h.tape, h.output, h.size, fun k hk _ => h.block k hk, fun _ e => .inl e⟩
theorem below {B : Nat} (h : Wf F F' w w') (hB : B ≤ w.heap.size) (hF : ∀ k, F k → B ≤ k) : Below B w w' :=
  ⟨h.os, h.tape, h.output, h.size, fun k hk => h.block k (by omega) fun e => by have := hF k e; omega⟩
theorem drewN (h : Wf F F' a b) (q : Nat) : Wf F F' a (b.drewN q) := ⟨h.os, h.tape, h.output, h.size, h.block, h.new⟩
theorem drew (h : Wf F F' a b) : Wf F F' a b.drew := ⟨h.os, h.tape, h.output, h.size, h.block, h.new⟩
theorem undrew (h : Wf F F' a.drew b) : Wf F F' a b := ⟨h.os, h.tape, h.output, h.size, h.block, h.new⟩
theorem far {B : Nat} {d : World} (h : Below B d a) (k : Wf F F' a b) (hB : B ≤ a.heap.size) (hF : ∀ i, F i → B ≤ i) : Below B d b := h.trans (k.below hB hF)
theorem after (h : Wf F F' a b) {B : Nat} (hB : B ≤ a.heap.size) (hF : ∀ i, F i → B ≤ i) : ∀ i, F' i → B ≤ i := fun i hi => (h.new i hi).elim (hF i) fun e => Nat.le_trans hB e
end Wf

def Ins.cells (I : Ins) (c' : Nat → Int) : Ins := ⟨I.P, I.R, I.mp, I.ad, I.cap, I.lines, c', I.wd, I.nm, I.l, I.on⟩
theorem Ins.cells_self (I : Ins) : I.cells I.c = I := rfl
theorem Fp_cells (S : Nat) (I : Ins) (c' : Nat → Int) : Fp S (I.cells c') = Fp S I := rfl

section
variable {w w' : World} {S : Nat} {M : Mdl} {I : Ins}
theorem StI.drewN (h : StI w S M I) (q : Nat) : StI (w.drewN q) S M I := h.kept fun _ _ => rfl
/-- Its blocks are unlike one another. -/
theorem StI.apart (h : StI w S M I) : S ≠ I.P ∧ S ≠ I.R ∧ S ≠ I.mp ∧ I.mp ≠ I.P ∧ I.mp ≠ I.R ∧ (¬ At I.ad S) ∧ (¬ At I.ad I.P) ∧ (¬ At I.ad I.R) ∧ ¬ At I.ad I.mp := by
  obtain ⟨cs, hS⟩ := h.kind
  obtain ⟨o, f, m⟩ := h.mem
  obtain ⟨cr, hR, _⟩ := m.row
  obtain ⟨es, ck, l, hM, _⟩ := h.map
  have hP := m.head
  refine ⟨fun e => ?_, fun e => ?_, fun e => ?_, fun e => ?_, fun e => ?_, h.own.apart hS (by decide), h.own.apart hP (by decide), h.own.apart hR (by decide), fun e => ?_⟩
  · rw [e, hP] at hS; simp at hS
  · rw [e, hR] at hS; simp at hS
  · rw [e, hM] at hS; simp at hS
  · rw [e, hP] at hM; simp at hM
  · rw [e, hR] at hM; simp at hM
  · obtain ⟨cur, hc⟩ := h.own.kind _ e
    rw [hM] at hc
    simp at hc
/-- The cells turned, and nothing else. -/
theorem StI.turn (h : StI w S M I) {c' : Nat → Int} {o f : Int} (g : Went (fun k => k = I.P ∨ k = I.R ∨ w.heap.size ≤ k) w w') (m : IsMem w' I.P I.R (2 * M.room + 4 * I.lines) c' o f) (p : Pu M (I.cells c')) : StI w' S M (I.cells c') ∧ Wf (Fp S I) (Fp S I) w w' := by
  obtain ⟨a1, a2, a3, a4, a5, a6, a7, a8, a9⟩ := h.apart
  have keep : ∀ b, b < w.heap.size → b ≠ I.P → b ≠ I.R → w'.heap[b]? = w.heap[b]? := fun b hb h1 h2 => g.block b hb fun e => by rcases e with e | e | e <;> omega
  refine ⟨⟨h.blk.of_block (keep S h.ltS a1 a2), ⟨o, f, m⟩, h.own.kept fun b hb => keep b (h.own.block b hb).2 (fun e => a7 (e ▸ hb)) (fun e => a8 (e ▸ hb)), h.map.same (keep I.mp h.map.lt a4 a5), p⟩, ?_⟩
  refine ⟨g.os, g.tape, g.output, g.size, fun k hk hf => keep k hk (fun e => hf (.inr (.inl e))) fun e => hf (.inr (.inr (.inl e))), fun k hk => .inl hk⟩
theorem line_low (room lines : Nat) (key : Int) : room ≤ Ch.line room lines key := by unfold Ch.line; omega
/-- The cells of a store with a value laid in its cache. -/
theorem Pu.put (p : Pu M I) {i : Nat} (hi : i < M.hs.length) : Pu M (I.cells (Ch.putAt I.c (Ch.line (2 * M.room) I.lines (I.wd i)) (I.wd i) ((i : Int) + 2))) := by
  obtain ⟨_, w0, w1, _⟩ := p.word hi
  have hln := p.len
  have low := line_low (2 * M.room) I.lines
  generalize hL : Ch.line (2 * M.room) I.lines (I.wd i) = L
  have hLl : 2 * M.room ≤ L := hL ▸ low (I.wd i)
  have same : ∀ s, s < 2 * M.room → Ch.putAt I.c L (I.wd i) ((i : Int) + 2) s = I.c s := fun s hs => Ch.putAt_other (.inl (by omega))
  have hfit : Ch.U64 (Ch.putAt I.c L (I.wd i) ((i : Int) + 2)) := by
    have := (Ch.runs_fit (N := L + 4) 16 I.c (Ch.Ac.ofPut L (I.wd i) ((i : Int) + 2)) p.fit (Ch.Fit.ofPut (by omega) (by omega) w1 (by omega) (by omega))).1
    rwa [(Ch.runs_put I.c L (I.wd i) ((i : Int) + 2)).1] at this
  have pl : ∀ (k : Int) j, Tb.place (2 * M.room) k j < 2 * M.room := fun k j => Tb.place_lt k j (by have := p.room1; omega)
  refine ⟨p.ok, p.room1, p.room2, p.lines1, p.lines2, p.hs, p.wd, hfit, fun k j hk hj e q hq => ?_, fun s hs h0 => ?_, fun j hj => ?_, ?_, fun key k0 k1 hh => ?_⟩
  · change Ch.putAt I.c L _ _ _ = k at e
    show ¬ Ch.putAt I.c L _ _ _ = 0 ∧ ¬ Ch.putAt I.c L _ _ _ = k
    rw [same _ (pl k j)] at e
    rw [same _ (pl k q)]
    exact p.good k j hk hj e q hq
  · change ¬ Ch.putAt I.c L _ _ _ = 0 at h0
    rw [same s hs] at h0
    obtain ⟨j, hj, e1, e2⟩ := p.tab s hs h0
    exact ⟨j, hj, (same s hs).trans e1, e2⟩
  · obtain ⟨s, hs, e⟩ := p.all j hj
    exact ⟨s, hs, (same s hs).trans e⟩
  · rw [← p.cnt]
    exact Tb.cnt_congr _ fun s hs => same s hs
  · change Ch.Hits (Ch.putAt I.c L _ _) (Ch.line (2 * M.room) I.lines key) key at hh
    show ∃ j, j < M.hs.length ∧ key = I.wd j ∧ Ch.jn (Ch.lo (Ch.putAt I.c L _ _ (Ch.line (2 * M.room) I.lines key + 2))) (Ch.lo (Ch.putAt I.c L _ _ (Ch.line (2 * M.room) I.lines key + 3))) = (j : Int) + 2
    by_cases e : Ch.line (2 * M.room) I.lines key = L
    · rw [e] at hh ⊢
      have ph := Ch.put_hits (f := L) (key := I.wd i) (key' := key) (val := (i : Int) + 2) p.fit (by omega) w1 (by omega) (by omega)
      exact ⟨i, hi, ph.1.1 hh, ph.2⟩
    · have apart : ∀ j, Ch.line (2 * M.room) I.lines key ≤ j → j < Ch.line (2 * M.room) I.lines key + 4 → Ch.putAt I.c L (I.wd i) ((i : Int) + 2) j = I.c j := fun j h1 h2 => Ch.putAt_other (by
        rw [← hL] at e ⊢
        unfold Ch.line at e h1 h2 ⊢
        generalize home key I.lines = q at e h1 h2
        generalize home (I.wd i) I.lines = r at e ⊢
        omega)
      rw [Ch.hits_congr apart] at hh
      rw [apart _ (by omega) (by omega), apart _ (by omega) (by omega)]
      exact p.cch key k0 k1 hh

/-- A word is asked of the cache. -/
theorem recall_any (h : StI w S M I) (k : Int) (h0 : 0 ≤ k) (h1 : k ≤ 18446744073709551615) :
    Calls Try.prog 49 #[.pointer (some ⟨S, 0, none⟩), .int .u64 k] w fun e w' => ∃ (x : Nat) (ok : Bool), e = .returned (.tuple #[.int .u32 (x : Int), .bool ok]) ∧ Aside (ok = true → ∃ i, i < M.hs.length ∧ k = I.wd i ∧ x = i + 2) ∧ StI w' S M I ∧ Wf (Fp S I) (Fp S I) w w' := by
  have c26 := h.c26
  cases hon : I.on with
  | false =>
    rw [hon] at c26
    clear hon
    go_enter Try.func49, Try.ntmps49
    go_wp2_with fail
    go_ret2
    exact ⟨0, false, rfl, (fun e => by cases e), h, Wf.refl _ _⟩
  | true =>
    rw [hon] at c26
    clear hon
    obtain ⟨o, f, hc⟩ := h.ch
    have K1 := Ch.aget_any hc k h0 h1
    have hL := hc.line_lt k
    have hln := h.pu.len
    have cch : Aside (_) := h.pu.cch k h0 h1
    generalize hLe : Ch.line (2 * M.room) I.lines k = L at K1 hL cch
    have hfit := Ch.Fit.ofGet (key := k) hL h0 h1
    have rg := Ch.runs_get I.c L k
    have rf := (Ch.runs_fit 16 I.c (Ch.Ac.ofGet L k) hc.fit hfit).2.h
    have rt : Aside (∃ (x : Nat) (ok : Bool), (Ch.runs 16 I.c (Ch.Ac.ofGet L k)).2.told = (x : Int) ∧ x < 4294967296 ∧ (Ch.runs 16 I.c (Ch.Ac.ofGet L k)).2.found = ok ∧ (ok = true → ∃ i, i < M.hs.length ∧ k = I.wd i ∧ x = i + 2)) := by
      obtain ⟨r1, r2, r3, r4⟩ := rg
      cases hf : (Ch.runs 16 I.c (Ch.Ac.ofGet L k)).2.found with
      | false =>
        refine ⟨0, false, ?_, by omega, rfl, fun e => by cases e⟩
        unfold Ch.Ac.told
        rw [hf]
        rfl
      | true =>
        obtain ⟨i, hi, e1, e2⟩ := cch.out (r3.1 hf)
        exact ⟨i + 2, true, by rw [r4 hf, e2]; simp, by omega, rfl, fun _ => ⟨i, hi, e1, rfl⟩⟩
    have rc : Aside ((Ch.runs 16 I.c (Ch.Ac.ofGet L k)).1 = I.c) := rg.1
    clear rg cch
    generalize hX : Ch.Ac.ofGet L k = X at K1 hfit rf rt rc
    clear hX
    obtain ⟨x, ok, hx, hx4, hok, told⟩ := rt.out
    have told' : Aside (ok = true → ∃ i, i < M.hs.length ∧ k = I.wd i ∧ x = i + 2) := told
    have hxw : IntKind.u32.wrap (x : Int) = (x : Int) := by rw [IntKind.wrap_u32]; omega
    clear told rt
    have hmf : ∀ (fn : Fn) (first cap : Array Value) (w : World), (Instr.makeFunc fn first cap).run Try.prog w = .ok (.func fn first cap) w := fun _ _ _ _ => rfl
    have hA : Aside (w.heap.size = w.heap.size) := rfl
    generalize hH : w.heap.size = A at K1 hA
    have hH' : Aside (w.heap.size = A) := hH
    clear hH hA
    go_enter Try.func49, Try.ntmps49
    go_wp2_with (first
      | (go_at_call 57; refine K1.mono ?_; clear K1; rintro e w1 ⟨rfl, a1, b1, s1⟩; rw [← hH'.out] at b1; have sA : Aside (w1.heap.size = A + 1) := s1; clear s1; have hc1 := hc.below b1; have K2 := drive_act hc1 a1 hfit; rw [rc.out] at K2)
      | (go_at_call 58; refine K2.mono ?_; clear K2; rintro e w2 ⟨rfl, ⟨o2, f2, hc2⟩, a2, b2⟩; have K3 := Ch.got_any a2 rf; rw [hx, hok] at K3)
      | (go_at_call 60; refine K3.mono ?_; clear K3; rintro e w3 ⟨rfl, q, rfl⟩))
    go_ret2
    have g : Went (fun k => k = I.P ∨ k = I.R ∨ w.heap.size ≤ k) w w2 := ⟨b2.os.trans b1.os, b2.tape.trans b1.tape, b2.output.trans b1.output, Nat.le_trans b1.size b2.size, fun j hj hn => (b2.block j (Nat.lt_of_lt_of_le hj b1.size) fun e => hn (by rcases e with e | e | e; exact .inl e; exact .inr (.inl e); have := hH'.out; exact .inr (.inr (by omega)))).trans (b1.block j hj)⟩
    obtain ⟨t1, t2⟩ := h.turn (c' := I.c) g hc2.mem h.pu
    exact ⟨x, ok, rfl, told', t1.drewN q, t2.drewN q⟩
/-- A handle is laid in the cache. -/
theorem keep_any (h : StI w S M I) (i : Nat) (hi : i < M.hs.length) :
    Calls Try.prog 51 #[.pointer (some ⟨S, 0, none⟩), .int .u64 (I.wd i), .int .u32 ((i : Int) + 2)] w fun e w' => e = .returned (.tuple #[]) ∧ ∃ c', StI w' S M (I.cells c') ∧ Wf (Fp S I) (Fp S I) w w' := by
  have c26 := h.c26
  cases hon : I.on with
  | false =>
    rw [hon] at c26
    clear hon
    go_enter Try.func51, Try.ntmps51
    go_wp2_with fail
    go_end0
    exact ⟨rfl, I.c, h, Wf.refl _ _⟩
  | true =>
    rw [hon] at c26
    clear hon
    obtain ⟨_, w0, w1, _⟩ := h.pu.word hi
    have hln := h.pu.len
    obtain ⟨o, f, hc⟩ := h.ch
    have K1 := Ch.aput_any hc (I.wd i) ((i : Int) + 2) (by omega) w1 (by omega) (by omega)
    have hL := hc.line_lt (I.wd i)
    have pput : Aside (_) := h.pu.put hi
    generalize Ch.line (2 * M.room) I.lines (I.wd i) = L at K1 hL pput
    have hfit := Ch.Fit.ofPut (key := I.wd i) (val := (i : Int) + 2) hL (by omega) w1 (by omega) (by omega)
    have rc : Aside ((Ch.runs 16 I.c (Ch.Ac.ofPut L (I.wd i) ((i : Int) + 2))).1 = Ch.putAt I.c L (I.wd i) ((i : Int) + 2)) := (Ch.runs_put _ _ _ _).1
    generalize hX : Ch.Ac.ofPut L (I.wd i) ((i : Int) + 2) = X at K1 hfit rc
    clear hX
    generalize Ch.putAt I.c L (I.wd i) ((i : Int) + 2) = c' at rc pput
    have hxw : IntKind.u64.wrap ((i : Int) + 2) = (i : Int) + 2 := by rw [IntKind.wrap_u64]; omega
    have hmf : ∀ (fn : Fn) (first cap : Array Value) (w : World), (Instr.makeFunc fn first cap).run Try.prog w = .ok (.func fn first cap) w := fun _ _ _ _ => rfl
    generalize hH : w.heap.size = A at K1
    have hH' : Aside (w.heap.size = A) := hH
    clear hH
    go_enter Try.func51, Try.ntmps51
    go_wp2_with (first
      | (go_at_call 67; refine K1.mono ?_; clear K1; rintro e w1 ⟨rfl, a1, b1, s1⟩; rw [← hH'.out] at b1; have sA : Aside (w1.heap.size = A + 1) := s1; clear s1; have hc1 := hc.below b1; have K2 := drive_act hc1 a1 hfit; rw [rc.out] at K2)
      | (go_at_call 58; refine K2.mono ?_; clear K2; rintro e w2 ⟨rfl, ⟨o2, f2, hc2⟩, a2, b2⟩))
    go_end0
    have g : Went (fun k => k = I.P ∨ k = I.R ∨ w.heap.size ≤ k) w w2 := ⟨b2.os.trans b1.os, b2.tape.trans b1.tape, b2.output.trans b1.output, Nat.le_trans b1.size b2.size, fun j hj hn => (b2.block j (Nat.lt_of_lt_of_le hj b1.size) fun e => hn (by rcases e with e | e | e; exact .inl e; exact .inr (.inl e); have := hH'.out; exact .inr (.inr (by omega)))).trans (b1.block j hj)⟩
    obtain ⟨t1, t2⟩ := h.turn (c' := c') g hc2.mem pput.out
    exact ⟨rfl, c', t1, t2⟩
end
end Go.Proofs.Ytdmfbfbebcneeaa
