/-
  A store told whether to keep results in its cache (Cached).
-/
import Derived.Test.YtdmfbfbebcneeaaGreatFace
namespace Go.Proofs.YtdmfbfbebcneeaaGreat
open Go Go.RowKit

theorem stCell_26 (n : Nat) (v l : Nat → Nat) (room : Nat) (ad : Option Addr) (L cap P mp lines : Nat) (on on' : Bool) (i : Nat) (hi : i < 27) : (if i = 26 then .bool on' else stCell n v l room ad L cap P mp lines on i) = stCell n v l room ad L cap P mp lines on' i := by
  unfold stCell
  by_cases e : i = 26
  · subst e; simp
  · rw [if_neg e]
    by_cases h1 : i < 17
    · rw [if_pos h1, if_pos h1]
    · have : i = 17 ∨ i = 18 ∨ i = 19 ∨ i = 20 ∨ i = 21 ∨ i = 22 ∨ i = 23 ∨ i = 24 ∨ i = 25 := by omega
      rcases this with rfl | rfl | rfl | rfl | rfl | rfl | rfl | rfl | rfl <;> simp
def Ins.turned (I : Ins) (on : Bool) : Ins := ⟨I.P, I.R, I.mp, I.ad, I.cap, I.lines, I.c, I.wd, I.nm, I.l, on⟩
section
variable {w w' : World} {S : Nat} {M : Mdl} {I : Ins}
theorem Pu.turned (p : Pu M I) (on : Bool) : Pu M (I.turned on) := ⟨p.ok, p.room1, p.room2, p.lines1, p.lines2, p.hs, p.wd, p.fit, p.good, p.tab, p.all, p.cnt, p.cch⟩
/-- The cells of a store whose cache is cleared. -/
theorem Pu.clear (p : Pu M I) {c' : Nat → Int} (fit : Ch.U64 c') (z : ∀ j, j < I.lines → c' (2 * M.room + 4 * j + 1) = 0) (same : ∀ i, i < 2 * M.room → c' i = I.c i) : Pu M (I.cells c') := by
  have pl : ∀ (k : Int) j, Tb.place (2 * M.room) k j < 2 * M.room := fun k j => Tb.place_lt k j (by have := p.room1; omega)
  refine ⟨p.ok, p.room1, p.room2, p.lines1, p.lines2, p.hs, p.wd, fit, fun k j hk hj e q hq => ?_, fun s hs h0 => ?_, fun j hj => ?_, ?_, fun key k0 k1 hh => ?_⟩
  · change c' _ = k at e
    show ¬ c' _ = 0 ∧ ¬ c' _ = k
    rw [same _ (pl k j)] at e
    rw [same _ (pl k q)]
    exact p.good k j hk hj e q hq
  · change ¬ c' _ = 0 at h0
    rw [same s hs] at h0
    obtain ⟨j, hj, e1, e2⟩ := p.tab s hs h0
    exact ⟨j, hj, (same s hs).trans e1, e2⟩
  · obtain ⟨s, hs, e⟩ := p.all j hj
    exact ⟨s, hs, (same s hs).trans e⟩
  · rw [← p.cnt]
    exact Tb.cnt_congr _ fun s hs => same s hs
  · exfalso
    change Ch.Hits c' (Ch.line (2 * M.room) I.lines key) key at hh
    obtain ⟨h0, _, h2, _⟩ := hh
    have e := z (home key I.lines) (home_lt key p.lines1)
    rw [show Ch.line (2 * M.room) I.lines key = 2 * M.room + 4 * home key I.lines from rfl] at h0 h2
    rw [e] at h2
    exact h0 (h2.symm.trans (by simp [Ch.hi]))
theorem StI.told (h : StI w S M I) (on : Bool) : StI (w.setCell ⟨S, 26, none⟩ (.bool on)) S M (I.turned on) ∧ Wf (Fp S I) (Fp S I) w (w.setCell ⟨S, 26, none⟩ (.bool on)) := by
  obtain ⟨a1, a2, a3, a4, a5, a6, a7, a8, a9⟩ := h.apart
  obtain ⟨o, f, m⟩ := h.mem
  have k : ∀ b, b ≠ S → (w.setCell ⟨S, 26, none⟩ (.bool on)).heap[b]? = w.heap[b]? := fun b hb => Below.heap_setCell _ _ _ _ hb
  refine ⟨⟨(h.blk.set 26 _).congr fun i hi => stCell_26 _ _ _ _ _ _ _ _ _ _ _ on i hi, ⟨o, f, m.of_blocks (k _ a1.symm) (k _ a2.symm)⟩, h.own.kept fun b hb => k b fun e => a6 (e ▸ hb), h.map.same (k _ a3.symm), h.pu.turned on⟩, ?_⟩
  have g : Below S w (w.setCell ⟨S, 26, none⟩ (.bool on)) := (Below.refl S w).setCell (Nat.le_refl _) _
  exact ⟨g.os, g.tape, g.output, g.size, fun b _ hf => k b fun e => hf (.inl e), fun b hb => .inl hb⟩
set_option maxHeartbeats 1000000 in
theorem cached_any (h : StI w S M I) (on : Bool) :
    Calls Tryz.prog 6 #[.pointer (some ⟨S, 0, none⟩), .bool on] w fun e w' => e = .returned (.tuple #[]) ∧ ∃ I', StI w' S M I' ∧ Fp S I' = Fp S I ∧ Wf (Fp S I) (Fp S I) w w' := by
  have c26 := h.c26
  have f26 := h.free 26
  obtain ⟨t1, t2⟩ := h.told on
  cases on with
  | true =>
    go_enter Tryz.func6, Tryz.ntmps6
    go_wp2_with fail
    go_end0
    exact ⟨rfl, I.turned true, t1, rfl, t2⟩
  | false =>
    obtain ⟨o, f, hc⟩ := t1.ch
    have K := Ch.clear_any hc
    go_enter Tryz.func6, Tryz.ntmps6
    go_wp2_with (first
      | (go_at_call 19; refine K.mono ?_; clear K; rintro e w2 ⟨rfl, ⟨c', o2, f2, s2, z2, e2⟩, m2⟩))
    go_end0
    have p2 := t1.pu.clear s2.fit z2 e2
    obtain ⟨u1, u2⟩ := t1.turn (c' := c') ⟨m2.os, m2.tape, m2.output, m2.size, fun k hk hn => m2.block k hk (fun e => hn (.inl e)) fun e => hn (.inr (.inl e))⟩ s2.mem p2
    exact ⟨rfl, _, u1, rfl, t2.trans u2⟩
end
theorem s_cached {w : World} {S : Nat} {F : Nat → Prop} {M : Mdl} (h : St w S F M) (on : Bool) :
    Calls Tryz.prog 6 #[.pointer (some ⟨S, 0, none⟩), .bool on] w fun e w' => e = .returned (.tuple #[]) ∧ ∃ F', St w' S F' M ∧ Wf F F' w w' := by
  obtain ⟨I, h, rfl⟩ := h
  exact (cached_any h on).mono fun e w' ⟨he, I', h', hf, g⟩ => ⟨he, Fp S I, ⟨I', h', hf.symm⟩, g⟩
end Go.Proofs.YtdmfbfbebcneeaaGreat
