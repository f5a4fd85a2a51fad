/-
  What an argument that is a slice of small numbers gives the walks.
-/
import Derived.Test.YtdmfbfbebcneeaaView
import Derived.Deep.Slices
namespace Go.Proofs.Ytdmfbfbebcneeaa
open Go.ChangeShapes Go.WideShapes Go.ChangeAt Go.RowKit Go.Deep Go

/-- A row of numbers of 16 bits among the arguments. -/
structure Words (W : World) (ad : Option Addr) (len b off : Nat) (Z : Nat → Int) : Prop where
  ad_ : 0 < len → ad = some ⟨b, off, none⟩
  lt : 0 < len → b < W.heap.size
  cell : ∀ k, k < len → W.cell? ⟨b, off + k, none⟩ = some (.int .u16 (Z k))
  val : ∀ k, k < len → 0 ≤ Z k ∧ Z k ≤ 65535
theorem Words.kept {W w : World} {ad : Option Addr} {len b off : Nat} {Z : Nat → Int} (h : Words W ad len b off Z) (k : Below W.heap.size W w) {i : Nat} (hi : i < len) : w.cell? ⟨b, off + i, none⟩ = some (.int .u16 (Z i)) := by
  rw [k.cell (h.lt (by omega))]; exact h.cell i hi
set_option maxRecDepth 100000 in
theorem view_words {H : Type} {enc : TypeId × Value → H} {W : World} {base : Nat} {r : Reach} {v : Value} {d : DataW H} {p : List MemPlace}
    (hv : Value.okWide Try.prog W r base 57 v) (h : DataW.Trod enc Try.prog W 0 (fun _ => true) true 57 v d p) :
    ∃ (ad : Option Addr) (len cap b off : Nat) (Z : Nat → Int), v = .slice ad len cap ∧ Words W ad len b off Z := by
  obtain ⟨ad, len, cap, rfl, hcase⟩ := view_ints Try.underlying57 Try.underlying58 (by kernel_rfl) hv h
  rcases hcase with rfl | ⟨b, off, Z, rfl, hb, hz⟩
  · exact ⟨ad, 0, cap, 0, 0, fun _ => 0, rfl, ⟨fun h => absurd h (by omega), fun h => absurd h (by omega), fun k hk => absurd hk (by omega), fun k hk => absurd hk (by omega)⟩⟩
  · exact ⟨_, len, cap, b, off, Z, rfl, ⟨fun _ => rfl, fun _ => hb, fun k hk => (hz k hk).1, fun k hk => wf_u16 (hz k hk).2⟩⟩

/-- A row of nodes to be made among the arguments. -/
structure Makes (W : World) (ad : Option Addr) (len b off : Nat) (Le Lo Hi : Nat → Int) (Ra : Nat → Bool) : Prop where
  ad_ : 0 < len → ad = some ⟨b, off, none⟩
  lt : 0 < len → b < W.heap.size
  le : ∀ k, k < len → W.cell? ⟨b, off + k * 4, none⟩ = some (.int .i64 (Le k))
  lo : ∀ k, k < len → W.cell? ⟨b, off + k * 4 + 1, none⟩ = some (.int .i64 (Lo k))
  hi : ∀ k, k < len → W.cell? ⟨b, off + k * 4 + 2, none⟩ = some (.int .i64 (Hi k))
  ra : ∀ k, k < len → W.cell? ⟨b, off + k * 4 + 3, none⟩ = some (.bool (Ra k))
section
variable {W w : World} {ad : Option Addr} {len b off : Nat} {Le Lo Hi : Nat → Int} {Ra : Nat → Bool}
theorem Makes.le' (h : Makes W ad len b off Le Lo Hi Ra) (k : Below W.heap.size W w) {i : Nat} (hi : i < len) : w.cell? ⟨b, off + i * 4, none⟩ = some (.int .i64 (Le i)) := by rw [k.cell (h.lt (by omega))]; exact h.le i hi
theorem Makes.lo' (h : Makes W ad len b off Le Lo Hi Ra) (k : Below W.heap.size W w) {i : Nat} (hi : i < len) : w.cell? ⟨b, off + i * 4 + 1, none⟩ = some (.int .i64 (Lo i)) := by rw [k.cell (h.lt (by omega))]; exact h.lo i hi
theorem Makes.hi' (h : Makes W ad len b off Le Lo Hi Ra) (k : Below W.heap.size W w) {i : Nat} (hi : i < len) : w.cell? ⟨b, off + i * 4 + 2, none⟩ = some (.int .i64 (Hi i)) := by rw [k.cell (h.lt (by omega))]; exact h.hi i hi
theorem Makes.ra' (h : Makes W ad len b off Le Lo Hi Ra) (k : Below W.heap.size W w) {i : Nat} (hi : i < len) : w.cell? ⟨b, off + i * 4 + 3, none⟩ = some (.bool (Ra i)) := by rw [k.cell (h.lt (by omega))]; exact h.ra i hi
end
theorem cellsMake : Try.prog.cellsOf 34 = 4 := by kernel_rfl
theorem cellsInt : Try.prog.cellsOf 3 = 1 := by kernel_rfl
theorem cellsBool : Try.prog.cellsOf 4 = 1 := by kernel_rfl
set_option maxRecDepth 100000 in
theorem view_makes {H : Type} {enc : TypeId × Value → H} {W : World} {base : Nat} {r : Reach} {v : Value} {d : DataW H} {p : List MemPlace}
    (hv : Value.okWide Try.prog W r base 22 v) (h : DataW.Trod enc Try.prog W 0 (fun _ => true) true 22 v d p) :
    ∃ (ad : Option Addr) (len cap b off : Nat) (Le Lo Hi : Nat → Int) (Ra : Nat → Bool), v = .slice ad len cap ∧ Makes W ad len b off Le Lo Hi Ra := by
  obtain ⟨ad, len, cap, rfl⟩ := okWide_slice Try.underlying22 hv
  obtain ⟨fuel, hf⟩ := h
  have none_ : len = 0 → ∃ (ad' : Option Addr) (len' cap' b off : Nat) (Le Lo Hi : Nat → Int) (Ra : Nat → Bool), Value.slice ad len cap = .slice ad' len' cap' ∧ Makes W ad' len' b off Le Lo Hi Ra := by
    rintro rfl
    exact ⟨ad, 0, cap, 0, 0, fun _ => 0, fun _ => 0, fun _ => 0, fun _ => false, rfl, ⟨fun h => absurd h (by omega), fun h => absurd h (by omega), fun k hk => absurd hk (by omega), fun k hk => absurd hk (by omega), fun k hk => absurd hk (by omega), fun k hk => absurd hk (by omega)⟩⟩
  rcases open_slice Try.underlying22 hf with ⟨hcs, _⟩ | ⟨a, len', cap', m, n, D, Pl, hcs, _, hl, _, hm, _, hx⟩
  · simp [Value.cells] at hcs
    exact none_ hcs.2.1
  · simp [Value.cells] at hcs
    obtain ⟨rfl, rfl, rfl⟩ := hcs
    rw [if_pos rfl] at hm
    subst hm
    by_cases h0 : len = 0
    · exact none_ h0
    · have each : ∀ i, i < len → ∃ (t o n : Int) (q : Bool), W.cell? (a.add (i * 4 + 0)) = some (.int .i64 t) ∧ W.cell? (a.add (i * 4 + 1)) = some (.int .i64 o) ∧ W.cell? (a.add (i * 4 + 2)) = some (.int .i64 n) ∧ W.cell? (a.add (i * 4 + 3)) = some (.bool q) := by
        intro i hi
        obtain ⟨cs', h1, h2⟩ := hx i (by omega)
        rw [cellsMake] at h1
        obtain ⟨_, hlen, hcell⟩ := World.cells?_some h1
        obtain ⟨xs, k, _, _, _, hxl, hf'⟩ := DataW.trod_struct Try.underlying34 h2
        match xs, hxl, cs', hlen with
        | [y0, y1, y2, y3], _, [v0, v1, v2, v3], _ =>
          have g0 := hf' 0 _ rfl
          have g1 := hf' 1 _ rfl
          have g2 := hf' 2 _ rfl
          have g3 := hf' 3 _ rfl
          simp [cellsInt, cellsBool] at g0 g1 g2 g3
          obtain ⟨t, e0, _, w0⟩ := DataW.trod_int Try.underlying3 g0
          obtain ⟨o, e1, _, w1⟩ := DataW.trod_int Try.underlying3 g1
          obtain ⟨n', e2, _, w2⟩ := DataW.trod_int Try.underlying3 g2
          obtain ⟨q, e3, _⟩ := DataW.trod_bool Try.underlying4 g3
          simp at e0 e1 e2 e3
          subst e0 e1 e2 e3
          have k0 := hcell 0 (by omega)
          have k1 := hcell 1 (by omega)
          have k2 := hcell 2 (by omega)
          have k3 := hcell 3 (by omega)
          rw [add_add] at k0 k1 k2 k3
          exact ⟨t, o, n', q, k0, k1, k2, k3⟩
      obtain ⟨t0, o0, n0, q0, c0, _⟩ := each 0 (by omega)
      obtain ⟨e', n', hs, _, hsp⟩ := World.shape?_of_cell? c0
      obtain ⟨b, off, sp⟩ := a
      have hsp' : sp = none := hsp
      subst hsp'
      have hadd : ∀ i, (⟨b, off, none⟩ : Addr).add i = ⟨b, off + i, none⟩ := fun i => by
        by_cases hi : i = 0
        · subst hi; rfl
        · simp [Addr.add, hi]
      have hb : b < W.heap.size := by
        rw [hadd] at c0
        cases hh : W.heap[b]? with
        | none => simp [World.cell?, hh] at c0
        | some o => exact (Array.getElem?_eq_some_iff.1 hh).1
      have all : ∃ (Le Lo Hi : Nat → Int) (Ra : Nat → Bool), ∀ i, i < len → W.cell? ⟨b, off + i * 4, none⟩ = some (.int .i64 (Le i)) ∧ W.cell? ⟨b, off + i * 4 + 1, none⟩ = some (.int .i64 (Lo i)) ∧ W.cell? ⟨b, off + i * 4 + 2, none⟩ = some (.int .i64 (Hi i)) ∧ W.cell? ⟨b, off + i * 4 + 3, none⟩ = some (.bool (Ra i)) := by
        have ex : ∀ i, ∃ (q : Int × Int × Int × Bool), i < len → W.cell? ⟨b, off + i * 4, none⟩ = some (.int .i64 q.1) ∧ W.cell? ⟨b, off + i * 4 + 1, none⟩ = some (.int .i64 q.2.1) ∧ W.cell? ⟨b, off + i * 4 + 2, none⟩ = some (.int .i64 q.2.2.1) ∧ W.cell? ⟨b, off + i * 4 + 3, none⟩ = some (.bool q.2.2.2) := by
          intro i
          by_cases hi : i < len
          · obtain ⟨t, o, n', q, k0, k1, k2, k3⟩ := each i hi
            rw [hadd] at k0 k1 k2 k3
            exact ⟨(t, o, n', q), fun _ => ⟨k0, k1, k2, k3⟩⟩
          · exact ⟨(0, 0, 0, false), fun h => absurd h hi⟩
        exact ⟨fun i => (ex i).choose.1, fun i => (ex i).choose.2.1, fun i => (ex i).choose.2.2.1, fun i => (ex i).choose.2.2.2, fun i hi => (ex i).choose_spec hi⟩
      obtain ⟨Le, Lo, Hi, Ra, hall⟩ := all
      exact ⟨_, len, _, b, off, Le, Lo, Hi, Ra, rfl, ⟨fun _ => rfl, fun _ => hb, fun k hk => (hall k hk).1, fun k hk => (hall k hk).2.1, fun k hk => (hall k hk).2.2.1, fun k hk => (hall k hk).2.2.2⟩⟩
end Go.Proofs.Ytdmfbfbebcneeaa
