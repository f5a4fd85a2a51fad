/-
  Arguments that are rows of bytes, of calls, as the walks take them.
-/
import Derived.Test.YtjapmhipbipdbaaView
import Derived.Deep.Slices
namespace Go.Proofs.Ytjapmhipbipdbaa
open Go.ChangeShapes Go.WideShapes Go.ChangeAt Go.RowKit Go.Deep Go

structure Bytes (W : World) (ad : Option Addr) (len b off : Nat) (Z : Nat → Int) : Prop where
  ad_ : 0 < len → ad = some ⟨b, off, none⟩
  lt : 0 < len → b < W.heap.size
  cell : ∀ k, k < len → W.cell? ⟨b, off + k, none⟩ = some (.int .u8 (Z k))
  val : ∀ k, k < len → 0 ≤ Z k ∧ Z k ≤ 255
theorem Bytes.kept {W w : World} {ad : Option Addr} {len b off : Nat} {Z : Nat → Int} (h : Bytes W ad len b off Z) (k : Below W.heap.size W w) {i : Nat} (hi : i < len) : w.cell? ⟨b, off + i, none⟩ = some (.int .u8 (Z i)) := by
  rw [k.cell (h.lt (by omega))]
  exact h.cell i hi
/-- A row of calls: what, whose, of which handle. -/
structure Dos (W : World) (ad : Option Addr) (len b off : Nat) (Wh Wo Ha : Nat → Int) : Prop where
  ad_ : 0 < len → ad = some ⟨b, off, none⟩
  lt : 0 < len → b < W.heap.size
  what : ∀ k, k < len → W.cell? ⟨b, off + k * 3, none⟩ = some (.int .i64 (Wh k))
  work : ∀ k, k < len → W.cell? ⟨b, off + k * 3 + 1, none⟩ = some (.int .i64 (Wo k))
  hand : ∀ k, k < len → W.cell? ⟨b, off + k * 3 + 2, none⟩ = some (.int .u32 (Ha k))
  hands : ∀ k, k < len → 0 ≤ Ha k ∧ Ha k ≤ 4294967295
section
variable {W w : World} {ad : Option Addr} {len b off : Nat} {Wh Wo Ha : Nat → Int}
theorem Dos.what' (h : Dos W ad len b off Wh Wo Ha) (k : Below W.heap.size W w) {i : Nat} (hi : i < len) : w.cell? ⟨b, off + i * 3, none⟩ = some (.int .i64 (Wh i)) := by rw [k.cell (h.lt (by omega))]; exact h.what i hi
theorem Dos.work' (h : Dos W ad len b off Wh Wo Ha) (k : Below W.heap.size W w) {i : Nat} (hi : i < len) : w.cell? ⟨b, off + i * 3 + 1, none⟩ = some (.int .i64 (Wo i)) := by rw [k.cell (h.lt (by omega))]; exact h.work i hi
theorem Dos.hand' (h : Dos W ad len b off Wh Wo Ha) (k : Below W.heap.size W w) {i : Nat} (hi : i < len) : w.cell? ⟨b, off + i * 3 + 2, none⟩ = some (.int .u32 (Ha i)) := by rw [k.cell (h.lt (by omega))]; exact h.hand i hi
end

theorem view_bytes {H : Type} {enc : TypeId × Value → H} {W : World} {base : Nat} {r : Reach} {v : Value} {d : DataW H} {p : List MemPlace}
    (hv : Value.okWide Try.prog W r base 48 v) (h : DataW.Trod enc Try.prog W 0 (fun _ => true) true 48 v d p) :
    ∃ (ad : Option Addr) (len cap b off : Nat) (Z : Nat → Int), v = .slice ad len cap ∧ Bytes W ad len b off Z := by
  obtain ⟨ad, len, cap, rfl, hcase⟩ := view_ints Try.underlying48 Try.underlying5 (by kernel_rfl) hv h
  rcases hcase with rfl | ⟨b, off, Z, rfl, hb, hz⟩
  · exact ⟨ad, 0, cap, 0, 0, fun _ => 0, rfl, ⟨fun h => absurd h (by omega), fun h => absurd h (by omega), fun k hk => absurd hk (by omega), fun k hk => absurd hk (by omega)⟩⟩
  · exact ⟨_, len, cap, b, off, Z, rfl, ⟨fun _ => rfl, fun _ => hb, fun k hk => (hz k hk).1, fun k hk => wf_u8 (hz k hk).2⟩⟩
theorem cells31 : Try.prog.cellsOf 31 = 3 := by kernel_rfl
theorem cells3 : Try.prog.cellsOf 3 = 1 := by kernel_rfl
theorem cells29 : Try.prog.cellsOf 29 = 1 := by kernel_rfl
set_option maxRecDepth 100000 in
theorem view_dos {H : Type} {enc : TypeId × Value → H} {W : World} {base : Nat} {r : Reach} {v : Value} {d : DataW H} {p : List MemPlace}
    (hv : Value.okWide Try.prog W r base 22 v) (h : DataW.Trod enc Try.prog W 0 (fun _ => true) true 22 v d p) :
    ∃ (ad : Option Addr) (len cap b off : Nat) (Wh Wo Ha : Nat → Int), v = .slice ad len cap ∧ Dos W ad len b off Wh Wo Ha := by
  obtain ⟨ad, len, cap, rfl⟩ := okWide_slice Try.underlying22 hv
  obtain ⟨fuel, hf⟩ := h
  have none_ : len = 0 → ∃ (ad' : Option Addr) (len' cap' b off : Nat) (Wh Wo Ha : Nat → Int), Value.slice ad len cap = .slice ad' len' cap' ∧ Dos W ad' len' b off Wh Wo Ha := by
    rintro rfl
    exact ⟨ad, 0, cap, 0, 0, fun _ => 0, fun _ => 0, fun _ => 0, rfl, ⟨fun h => absurd h (by omega), fun h => absurd h (by omega), fun k hk => absurd hk (by omega), fun k hk => absurd hk (by omega), fun k hk => absurd hk (by omega), fun k hk => absurd hk (by omega)⟩⟩
  rcases open_slice Try.underlying22 hf with ⟨hcs, _⟩ | ⟨a, len', cap', m, n, D, Pl, hcs, _, hl, _, hm, _, hx⟩
  · simp [Value.cells] at hcs
    exact none_ hcs.2.1
  · simp [Value.cells] at hcs
    obtain ⟨rfl, rfl, rfl⟩ := hcs
    rw [if_pos rfl] at hm
    subst hm
    by_cases h0 : len = 0
    · exact none_ h0
    · have each : ∀ i, i < len → ∃ (t o n : Int), W.cell? (a.add (i * 3 + 0)) = some (.int .i64 t) ∧ W.cell? (a.add (i * 3 + 1)) = some (.int .i64 o) ∧ W.cell? (a.add (i * 3 + 2)) = some (.int .u32 n) ∧ (0 ≤ n ∧ n ≤ 4294967295) := by
        intro i hi
        obtain ⟨cs', h1, h2⟩ := hx i (by omega)
        rw [cells31] at h1
        obtain ⟨_, hlen, hcell⟩ := World.cells?_some h1
        obtain ⟨xs, k, _, _, _, hxl, hf'⟩ := DataW.trod_struct Try.underlying31 h2
        match xs, hxl, cs', hlen with
        | [y0, y1, y2], _, [v0, v1, v2], _ =>
          have g0 := hf' 0 _ rfl
          have g1 := hf' 1 _ rfl
          have g2 := hf' 2 _ rfl
          simp [cells3, cells29] at g0 g1 g2
          obtain ⟨t, e0, _, w0⟩ := DataW.trod_int Try.underlying3 g0
          obtain ⟨o, e1, _, w1⟩ := DataW.trod_int Try.underlying3 g1
          obtain ⟨n', e2, _, w2⟩ := DataW.trod_int Try.underlying29 g2
          simp at e0 e1 e2
          subst e0 e1 e2
          have k0 := hcell 0 (by omega)
          have k1 := hcell 1 (by omega)
          have k2 := hcell 2 (by omega)
          rw [add_add] at k0 k1 k2
          exact ⟨t, o, n', k0, k1, k2, wf_u32 w2⟩
      obtain ⟨t0, o0, n0, c0, _⟩ := each 0 (by omega)
      obtain ⟨e', n', hs, _, hsp⟩ := World.shape?_of_cell? c0
      obtain ⟨b, off, sp⟩ := a
      have hsp' : sp = none := hsp
      subst hsp'
      have hadd : ∀ i, (⟨b, off, none⟩ : Addr).add i = ⟨b, off + i, none⟩ := fun i => by
        by_cases hi : i = 0
        · subst hi; rfl
        · simp [Addr.add, hi]
      have hb : b < W.heap.size := by
        rw [hadd] at c0
        cases hh : W.heap[b]? with
        | none => simp [World.cell?, hh] at c0
        | some o => exact (Array.getElem?_eq_some_iff.1 hh).1
      have all : ∃ (Wh Wo Ha : Nat → Int), ∀ i, i < len → W.cell? ⟨b, off + i * 3, none⟩ = some (.int .i64 (Wh i)) ∧ W.cell? ⟨b, off + i * 3 + 1, none⟩ = some (.int .i64 (Wo i)) ∧ W.cell? ⟨b, off + i * 3 + 2, none⟩ = some (.int .u32 (Ha i)) ∧ (0 ≤ Ha i ∧ Ha i ≤ 4294967295) := by
        have ex : ∀ i, ∃ (q : Int × Int × Int), i < len → W.cell? ⟨b, off + i * 3, none⟩ = some (.int .i64 q.1) ∧ W.cell? ⟨b, off + i * 3 + 1, none⟩ = some (.int .i64 q.2.1) ∧ W.cell? ⟨b, off + i * 3 + 2, none⟩ = some (.int .u32 q.2.2) ∧ (0 ≤ q.2.2 ∧ q.2.2 ≤ 4294967295) := by
          intro i
          by_cases hi : i < len
          · obtain ⟨t, o, n', k0, k1, k2, q2⟩ := each i hi
            rw [hadd] at k0 k1 k2
            exact ⟨(t, o, n'), fun _ => ⟨k0, k1, k2, q2⟩⟩
          · exact ⟨(0, 0, 0), fun h => absurd h hi⟩
        exact ⟨fun i => (ex i).choose.1, fun i => (ex i).choose.2.1, fun i => (ex i).choose.2.2, fun i hi => (ex i).choose_spec hi⟩
      obtain ⟨Pt, Ky, Vl, hall⟩ := all
      exact ⟨_, len, _, b, off, Pt, Ky, Vl, rfl, ⟨fun _ => rfl, fun _ => hb, fun k hk => (hall k hk).1, fun k hk => (hall k hk).2.1, fun k hk => (hall k hk).2.2.1, fun k hk => (hall k hk).2.2.2⟩⟩
end Go.Proofs.Ytjapmhipbipdbaa
