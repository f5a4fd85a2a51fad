/-
  Arguments that are rows of bytes, of words, of acts, as the walks take them.
-/
import Derived.Test.YtekeabiokiacnaaView
import Derived.Deep.Slices
namespace Go.Proofs.Ytekeabiokiacnaa
open Go.ChangeShapes Go.WideShapes Go.ChangeAt Go.RowKit Go.Deep Go

structure Bytes (W : World) (ad : Option Addr) (len b off : Nat) (Z : Nat → Int) : Prop where
  ad_ : 0 < len → ad = some ⟨b, off, none⟩
  lt : 0 < len → b < W.heap.size
  cell : ∀ k, k < len → W.cell? ⟨b, off + k, none⟩ = some (.int .u8 (Z k))
  val : ∀ k, k < len → 0 ≤ Z k ∧ Z k ≤ 255
theorem Bytes.kept {W w : World} {ad : Option Addr} {len b off : Nat} {Z : Nat → Int} (h : Bytes W ad len b off Z) (k : Below W.heap.size W w) {i : Nat} (hi : i < len) : w.cell? ⟨b, off + i, none⟩ = some (.int .u8 (Z i)) := by
  rw [k.cell (h.lt (by omega))]
  exact h.cell i hi
structure Words (W : World) (ad : Option Addr) (len b off : Nat) (Z : Nat → Int) : Prop where
  ad_ : 0 < len → ad = some ⟨b, off, none⟩
  lt : 0 < len → b < W.heap.size
  cell : ∀ k, k < len → W.cell? ⟨b, off + k, none⟩ = some (.int .u64 (Z k))
  val : ∀ k, k < len → 0 ≤ Z k ∧ Z k ≤ 18446744073709551615
theorem Words.kept {W w : World} {ad : Option Addr} {len b off : Nat} {Z : Nat → Int} (h : Words W ad len b off Z) (k : Below W.heap.size W w) {i : Nat} (hi : i < len) : w.cell? ⟨b, off + i, none⟩ = some (.int .u64 (Z i)) := by
  rw [k.cell (h.lt (by omega))]
  exact h.cell i hi
/-- A row of acts: whether it puts, its key, its value. -/
structure Dos (W : World) (ad : Option Addr) (len b off : Nat) (Pt : Nat → Bool) (Ky Vl : Nat → Int) : Prop where
  ad_ : 0 < len → ad = some ⟨b, off, none⟩
  lt : 0 < len → b < W.heap.size
  put : ∀ k, k < len → W.cell? ⟨b, off + k * 3, none⟩ = some (.bool (Pt k))
  key : ∀ k, k < len → W.cell? ⟨b, off + k * 3 + 1, none⟩ = some (.int .u8 (Ky k))
  val : ∀ k, k < len → W.cell? ⟨b, off + k * 3 + 2, none⟩ = some (.int .u64 (Vl k))
  keys : ∀ k, k < len → 0 ≤ Ky k ∧ Ky k ≤ 255
  vals : ∀ k, k < len → 0 ≤ Vl k ∧ Vl k ≤ 18446744073709551615
section
variable {W w : World} {ad : Option Addr} {len b off : Nat} {Pt : Nat → Bool} {Ky Vl : Nat → Int}
theorem Dos.put' (h : Dos W ad len b off Pt Ky Vl) (k : Below W.heap.size W w) {i : Nat} (hi : i < len) : w.cell? ⟨b, off + i * 3, none⟩ = some (.bool (Pt i)) := by rw [k.cell (h.lt (by omega))]; exact h.put i hi
theorem Dos.key' (h : Dos W ad len b off Pt Ky Vl) (k : Below W.heap.size W w) {i : Nat} (hi : i < len) : w.cell? ⟨b, off + i * 3 + 1, none⟩ = some (.int .u8 (Ky i)) := by rw [k.cell (h.lt (by omega))]; exact h.key i hi
theorem Dos.val' (h : Dos W ad len b off Pt Ky Vl) (k : Below W.heap.size W w) {i : Nat} (hi : i < len) : w.cell? ⟨b, off + i * 3 + 2, none⟩ = some (.int .u64 (Vl i)) := by rw [k.cell (h.lt (by omega))]; exact h.val i hi
end

theorem view_bytes {H : Type} {enc : TypeId × Value → H} {W : World} {base : Nat} {r : Reach} {v : Value} {d : DataW H} {p : List MemPlace}
    (hv : Value.okWide Try.prog W r base 23 v) (h : DataW.Trod enc Try.prog W 0 (fun _ => true) true 23 v d p) :
    ∃ (ad : Option Addr) (len cap b off : Nat) (Z : Nat → Int), v = .slice ad len cap ∧ Bytes W ad len b off Z := by
  obtain ⟨ad, len, cap, rfl, hcase⟩ := view_ints Try.underlying23 Try.underlying5 (by kernel_rfl) hv h
  rcases hcase with rfl | ⟨b, off, Z, rfl, hb, hz⟩
  · exact ⟨ad, 0, cap, 0, 0, fun _ => 0, rfl, ⟨fun h => absurd h (by omega), fun h => absurd h (by omega), fun k hk => absurd hk (by omega), fun k hk => absurd hk (by omega)⟩⟩
  · exact ⟨_, len, cap, b, off, Z, rfl, ⟨fun _ => rfl, fun _ => hb, fun k hk => (hz k hk).1, fun k hk => wf_u8 (hz k hk).2⟩⟩
theorem view_words {H : Type} {enc : TypeId × Value → H} {W : World} {base : Nat} {r : Reach} {v : Value} {d : DataW H} {p : List MemPlace}
    (hv : Value.okWide Try.prog W r base 49 v) (h : DataW.Trod enc Try.prog W 0 (fun _ => true) true 49 v d p) :
    ∃ (ad : Option Addr) (len cap b off : Nat) (Z : Nat → Int), v = .slice ad len cap ∧ Words W ad len b off Z := by
  obtain ⟨ad, len, cap, rfl, hcase⟩ := view_ints Try.underlying49 Try.underlying34 (by kernel_rfl) hv h
  rcases hcase with rfl | ⟨b, off, Z, rfl, hb, hz⟩
  · exact ⟨ad, 0, cap, 0, 0, fun _ => 0, rfl, ⟨fun h => absurd h (by omega), fun h => absurd h (by omega), fun k hk => absurd hk (by omega), fun k hk => absurd hk (by omega)⟩⟩
  · exact ⟨_, len, cap, b, off, Z, rfl, ⟨fun _ => rfl, fun _ => hb, fun k hk => (hz k hk).1, fun k hk => wf_u64 (hz k hk).2⟩⟩

theorem cells36 : Try.prog.cellsOf 36 = 3 := by kernel_rfl
theorem cells4 : Try.prog.cellsOf 4 = 1 := by kernel_rfl
theorem cells5 : Try.prog.cellsOf 5 = 1 := by kernel_rfl
theorem cells34 : Try.prog.cellsOf 34 = 1 := by kernel_rfl
set_option maxRecDepth 100000 in
theorem view_dos {H : Type} {enc : TypeId × Value → H} {W : World} {base : Nat} {r : Reach} {v : Value} {d : DataW H} {p : List MemPlace}
    (hv : Value.okWide Try.prog W r base 22 v) (h : DataW.Trod enc Try.prog W 0 (fun _ => true) true 22 v d p) :
    ∃ (ad : Option Addr) (len cap b off : Nat) (Pt : Nat → Bool) (Ky Vl : Nat → Int), v = .slice ad len cap ∧ Dos W ad len b off Pt Ky Vl := by
  obtain ⟨ad, len, cap, rfl⟩ := okWide_slice Try.underlying22 hv
  obtain ⟨fuel, hf⟩ := h
  have none_ : len = 0 → ∃ (ad' : Option Addr) (len' cap' b off : Nat) (Pt : Nat → Bool) (Ky Vl : Nat → Int), Value.slice ad len cap = .slice ad' len' cap' ∧ Dos W ad' len' b off Pt Ky Vl := by
    rintro rfl
    exact ⟨ad, 0, cap, 0, 0, fun _ => false, fun _ => 0, fun _ => 0, rfl, ⟨fun h => absurd h (by omega), fun h => absurd h (by omega), fun k hk => absurd hk (by omega), fun k hk => absurd hk (by omega), fun k hk => absurd hk (by omega), fun k hk => absurd hk (by omega), fun k hk => absurd hk (by omega)⟩⟩
  rcases open_slice Try.underlying22 hf with ⟨hcs, _⟩ | ⟨a, len', cap', m, n, D, Pl, hcs, _, hl, _, hm, _, hx⟩
  · simp [Value.cells] at hcs
    exact none_ hcs.2.1
  · simp [Value.cells] at hcs
    obtain ⟨rfl, rfl, rfl⟩ := hcs
    rw [if_pos rfl] at hm
    subst hm
    by_cases h0 : len = 0
    · exact none_ h0
    · have each : ∀ i, i < len → ∃ (t : Bool) (o n : Int), W.cell? (a.add (i * 3 + 0)) = some (.bool t) ∧ W.cell? (a.add (i * 3 + 1)) = some (.int .u8 o) ∧ W.cell? (a.add (i * 3 + 2)) = some (.int .u64 n) ∧ (0 ≤ o ∧ o ≤ 255) ∧ (0 ≤ n ∧ n ≤ 18446744073709551615) := by
        intro i hi
        obtain ⟨cs', h1, h2⟩ := hx i (by omega)
        rw [cells36] at h1
        obtain ⟨_, hlen, hcell⟩ := World.cells?_some h1
        obtain ⟨xs, k, _, _, _, hxl, hf'⟩ := DataW.trod_struct Try.underlying36 h2
        match xs, hxl, cs', hlen with
        | [y0, y1, y2], _, [v0, v1, v2], _ =>
          have g0 := hf' 0 _ rfl
          have g1 := hf' 1 _ rfl
          have g2 := hf' 2 _ rfl
          simp [cells4, cells5, cells34] at g0 g1 g2
          obtain ⟨t, e0, _⟩ := DataW.trod_bool Try.underlying4 g0
          obtain ⟨o, e1, _, w1⟩ := DataW.trod_int Try.underlying5 g1
          obtain ⟨n', e2, _, w2⟩ := DataW.trod_int Try.underlying34 g2
          simp at e0 e1 e2
          subst e0 e1 e2
          have k0 := hcell 0 (by omega)
          have k1 := hcell 1 (by omega)
          have k2 := hcell 2 (by omega)
          rw [add_add] at k0 k1 k2
          exact ⟨t, o, n', k0, k1, k2, wf_u8 w1, wf_u64 w2⟩
      obtain ⟨t0, o0, n0, c0, _⟩ := each 0 (by omega)
      obtain ⟨e', n', hs, _, hsp⟩ := World.shape?_of_cell? c0
      obtain ⟨b, off, sp⟩ := a
      have hsp' : sp = none := hsp
      subst hsp'
      have hadd : ∀ i, (⟨b, off, none⟩ : Addr).add i = ⟨b, off + i, none⟩ := fun i => by
        by_cases hi : i = 0
        · subst hi; rfl
        · simp [Addr.add, hi]
      have hb : b < W.heap.size := by
        rw [hadd] at c0
        cases hh : W.heap[b]? with
        | none => simp [World.cell?, hh] at c0
        | some o => exact (Array.getElem?_eq_some_iff.1 hh).1
      have all : ∃ (Pt : Nat → Bool) (Ky Vl : Nat → Int), ∀ i, i < len → W.cell? ⟨b, off + i * 3, none⟩ = some (.bool (Pt i)) ∧ W.cell? ⟨b, off + i * 3 + 1, none⟩ = some (.int .u8 (Ky i)) ∧ W.cell? ⟨b, off + i * 3 + 2, none⟩ = some (.int .u64 (Vl i)) ∧ (0 ≤ Ky i ∧ Ky i ≤ 255) ∧ (0 ≤ Vl i ∧ Vl i ≤ 18446744073709551615) := by
        have ex : ∀ i, ∃ (q : Bool × Int × Int), i < len → W.cell? ⟨b, off + i * 3, none⟩ = some (.bool q.1) ∧ W.cell? ⟨b, off + i * 3 + 1, none⟩ = some (.int .u8 q.2.1) ∧ W.cell? ⟨b, off + i * 3 + 2, none⟩ = some (.int .u64 q.2.2) ∧ (0 ≤ q.2.1 ∧ q.2.1 ≤ 255) ∧ (0 ≤ q.2.2 ∧ q.2.2 ≤ 18446744073709551615) := by
          intro i
          by_cases hi : i < len
          · obtain ⟨t, o, n', k0, k1, k2, q1, q2⟩ := each i hi
            rw [hadd] at k0 k1 k2
            exact ⟨(t, o, n'), fun _ => ⟨k0, k1, k2, q1, q2⟩⟩
          · exact ⟨(false, 0, 0), fun h => absurd h hi⟩
        exact ⟨fun i => (ex i).choose.1, fun i => (ex i).choose.2.1, fun i => (ex i).choose.2.2, fun i hi => (ex i).choose_spec hi⟩
      obtain ⟨Pt, Ky, Vl, hall⟩ := all
      exact ⟨_, len, _, b, off, Pt, Ky, Vl, rfl, ⟨fun _ => rfl, fun _ => hb, fun k hk => (hall k hk).1, fun k hk => (hall k hk).2.1, fun k hk => (hall k hk).2.2.1, fun k hk => (hall k hk).2.2.2.1, fun k hk => (hall k hk).2.2.2.2⟩⟩
end Go.Proofs.Ytekeabiokiacnaa
