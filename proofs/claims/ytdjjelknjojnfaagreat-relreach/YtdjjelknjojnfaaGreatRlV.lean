/-
  Slices of bytes: among the arguments, and of one's own beside a store.
-/
import Derived.Test.YtdjjelknjojnfaaGreatRlK
import Derived.Test.YtdjjelknjojnfaaGreatBaseD
namespace Go.Proofs.YtdjjelknjojnfaaGreat
open Go.ChangeShapes Go.WideShapes Go.ChangeAt Go.RowKit Go
open Rf (tab word IsTab IntsAt)

def BtAt (w : World) (ad : Option Addr) (n : Nat) (V : Nat → Nat) : Prop :=
  n = 0 ∨ ∃ b off, ad = some ⟨b, off, none⟩ ∧ b < w.heap.size ∧ ∀ i, i < n → w.cell? ⟨b, off + i, none⟩ = some (.int .u8 (V i : Int))
theorem BtAt.kept {w w' : World} {ad : Option Addr} {n : Nat} {V : Nat → Nat} (h : BtAt w ad n V) (k : Below w.heap.size w w') : BtAt w' ad n V := by
  rcases h with h | ⟨b, off, e, hb, hc⟩
  · exact .inl h
  · exact .inr ⟨b, off, e, Nat.lt_of_lt_of_le hb k.size, fun i hi => by rw [k.cell hb]; exact hc i hi⟩
theorem BtAt.some {w : World} {ad : Option Addr} {n : Nat} {V : Nat → Nat} (h : BtAt w ad n V) (hn : 0 < n) : ∃ b off, ad = .some ⟨b, off, none⟩ ∧ ∀ i, i < n → w.cell? ⟨b, off + i, none⟩ = .some (.int .u8 (V i : Int)) := by
  rcases h with h | ⟨b, off, e, _, hc⟩
  · omega
  · exact ⟨b, off, e, hc⟩
theorem bytes_of {W : World} {ad : Option Addr} {len : Nat} (h : len = 0 ∨ ∃ (b off : Nat) (Z : Nat → Int), ad = some ⟨b, off, none⟩ ∧ b < W.heap.size ∧ ∀ i, i < len → W.cell? ⟨b, off + i, none⟩ = some (.int .u8 (Z i)) ∧ (Lit.int .u8 (Z i)).wf = true) : ∃ V, BtAt W ad len V ∧ ∀ i, i < len → V i < 256 := by
  rcases h with h | ⟨b, off, Z, e, hb, hc⟩
  · exact ⟨fun _ => 0, .inl h, fun i _ => by show 0 < 256; omega⟩
  · refine ⟨fun i => (Z i).toNat, .inr ⟨b, off, e, hb, fun i hi => ?_⟩, fun i hi => ?_⟩
    · have w := wf_u8 (hc i hi).2
      rw [(hc i hi).1]
      congr 2
      show Z i = (((Z i).toNat : Nat) : Int)
      omega
    · have w := wf_u8 (hc i hi).2
      show (Z i).toNat < 256
      omega
/-! ## Slices of one's own -/
section
variable {W w w' : World} {S n r b : Nat} {l : Kl}
/-- Blocks of other kinds may be turned. -/
theorem Sx.kept' (h : Sx W w S n r l b) (B' : Below W.heap.size W w') (k : ∀ b, b < w.heap.size → w'.heap[b]? = w.heap[b]? ∨ ∃ cs t fr, w.heap[b]? = some (Obj.cells cs t fr) ∧ (t ≠ 87 ∧ t ≠ 126 ∧ t ≠ 166 ∧ t ≠ 40)) : Sx W w' S n r l b := by
  obtain ⟨F, M, s, e1, e2, e3, q, B, f⟩ := h
  refine ⟨F, M, s.kept fun x hx => ?_, e1, e2, e3, q, B', f⟩
  rcases k x (s.lt x hx) with e | ⟨cs, t, fr, hk, ht⟩
  · exact e
  · exact absurd hx (s.row hk ht)
theorem Out.own {w w' : World} (o : Out w w') {e : TypeId} {B n cap : Nat} {ad : Option Addr} {V : Nat → Value} (h : OwnR e w B ad n cap V) (he : e ≠ 87 ∧ e ≠ 126 ∧ e ≠ 166 ∧ e ≠ 40) : OwnR e w' B ad n cap V := h.kept fun b hb => by
  obtain ⟨cur, hc⟩ := h.kind b hb
  rw [o b _ _ _ hc he, hc]
theorem Out.row {w w' : World} (o : Out w w') {t : TypeId} {g n : Nat} {V : Nat → Value} (h : w.rowIs g t n V) (ht : t ≠ 87 ∧ t ≠ 126 ∧ t ≠ 166 ∧ t ≠ 40) : w'.rowIs g t n V := by
  obtain ⟨c, hb, hs, hc⟩ := h
  exact ⟨c, o g c _ _ hb ht, hs, hc⟩
theorem went_sx {B k cap : Nat} {e : TypeId} {ad : Option Addr} {V : Nat → Value} (h : Sx W w S n r l b) (hW : W.heap.size ≤ B) (hB : B ≤ w.heap.size) (own : OwnR e w B ad k cap V) (he : e ≠ 87 ∧ e ≠ 126 ∧ e ≠ 166 ∧ e ≠ 40) (g : Went (At ad) w w') : Sx W w' S n r l b ∧ Below B w w' := by
  have b1 : Below B w w' := ⟨g.os, g.tape, g.output, g.size, fun x hx => g.block x (by omega) fun q => by have := (own.block x q).1; omega⟩
  refine ⟨h.kept' (h.base.trans ⟨b1.os, b1.tape, b1.output, b1.size, fun k hk => b1.block k (by omega)⟩) fun k hk => ?_, b1⟩
  by_cases c : At ad k
  · obtain ⟨cur, hc⟩ := own.kind k c
    exact .inr ⟨_, _, _, hc, he⟩
  · exact .inl (g.block k hk c)
theorem OwnR.one (e : TypeId) (w : World) (B : Nat) (hB : B ≤ w.heap.size) (x : Value) : OwnR e (w.alloc (.cells #[x] e)) B (some ⟨w.heap.size, 0, none⟩) 1 1 (fun _ => x) :=
  ⟨by rw [rowL_length], .inr ⟨w.heap.size, 1, #[x], rfl, hB, Go.Deep.blk_alloc_new _ _, by omega, by decide, rfl, rfl⟩⟩
end
theorem info_u8 : (Tryz.prog.info? 5).map (fun i => (i.zero, i.size, i.bytes)) = some (some (.int .u8 0), 1, 1) := by kernel_rfl
theorem append_u8 {w : World} {B n cap : Nat} {ad : Option Addr} {V : Nat → Value} {ops : Array Oper} {rest : List Oper} {o : Oper} {a : Act} {Q : Exit → Act → World → Prop} (hown : OwnR 5 w B ad n cap V) (blk : Nat) (p : Int) (hblk : w.heap[blk]? = some (.cells #[.int .u8 p] 5 (0, 0))) (hn : n ≤ 1000000) (hB : B ≤ w.heap.size)
    (hgd : o.guard = none) (s y : Operand)
    (ho : o.op = .call { callee := .builtin .append, args := #[s, y], argTypes := #[22, 22] }) (hs : a.eval s = .slice ad n cap) (hx : a.eval y = .slice (some ⟨blk, 0, none⟩) 1 1)
    (h : ∀ g cap' w', OwnR 5 w' B (some ⟨g, 0, none⟩) (n + 1) cap' (fun i => if i = n then .int .u8 p else V i) → Went (At ad) w w' → (At ad g ∨ g = w.heap.size) → wpList Tryz.prog ops Q rest (a.put o.dst (.slice (some ⟨g, 0, none⟩) (n + 1) cap')) w') :
    wpList Tryz.prog ops Q (o :: rest) a w := by
  obtain ⟨i, hi, hzz⟩ := Option.map_eq_some_iff.1 info_u8
  simp only [Prod.mk.injEq] at hzz
  obtain ⟨hz, hs2, hb⟩ := hzz
  exact append_row 22 5 i _ Tryz.underlying22 hi hz hs2 1 hb (by decide) (by kernel_rfl) hown blk (.int .u8 p) rfl hblk hn hB hgd s y ho hs hx h
end Go.Proofs.YtdjjelknjojnfaaGreat
