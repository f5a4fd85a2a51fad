/-
  What an argument that is a slice of tables, or of integers, gives the walks.
-/
import Derived.Test.YtmfocngdobcfcabDoorCard
import Derived.Test.YtmfocngdobcfcabDoorParts
import Derived.Test.YtmfocngdobcfcabDoorSizesW
import Derived.Deep.Slices
import Derived.ChangeSlices
namespace Go.Proofs.YtmfocngdobcfcabDoor
open Go.ChangeShapes Go.WideShapes Go.ChangeAt Go.RowKit

/-- Four cells that are read as a table. -/
theorem trod24 {H : Type} {enc : TypeId × Value → H} {W : World} {base : Nat} {sp : Nat → Bool} {held : Bool} {fuel : Nat} {cs : List Value} {x : DataW H × List MemPlace}
    (h : DataW.trod enc Tryd.prog W base sp held fuel 24 cs = some x) (hlen : cs.length = 4) : ∃ F : Nat → Bool, ∀ k, k < 4 → cs[k]? = some (.int .u64 (word F k : Int)) := by
  cases fuel with
  | zero => simp [DataW.trod] at h
  | succ fuel =>
    simp only [DataW.trod, Tryd.underlying24, cells22, cells24, hlen] at h
    rw [if_pos trivial] at h
    · obtain ⟨ys, hm, hx⟩ := Option.map_eq_some_iff.1 h
      have key : ∀ i, i < 4 → ∃ n : Nat, n < 18446744073709551616 ∧ cs[i]? = some (.int .u64 (n : Int)) := by
        intro i hi
        obtain ⟨b, hb, hf2⟩ := Lib.mapM_at hm i i (by simp [hi])
        obtain ⟨z, hc, _, hwf⟩ := DataW.trod_int Tryd.underlying22 hf2
        have h1 : cs[i]? = some (.int .u64 z) := by
          have := congrArg (·[0]?) hc
          simpa [List.getElem?_take, List.getElem?_drop] using this
        have hz := bounds_u64 hwf
        exact ⟨z.toNat, by omega, by rw [h1]; congr 2; omega⟩
      obtain ⟨n0, l0, e0⟩ := key 0 (by decide)
      obtain ⟨n1, l1, e1⟩ := key 1 (by decide)
      obtain ⟨n2, l2, e2⟩ := key 2 (by decide)
      obtain ⟨n3, l3, e3⟩ := key 3 (by decide)
      obtain ⟨w0, w1, w2, w3⟩ := word_of n0 n1 n2 n3 l0 l1 l2 l3
      refine ⟨ofWords n0 n1 n2 n3, fun k hk => ?_⟩
      have h4 : k = 0 ∨ k = 1 ∨ k = 2 ∨ k = 3 := by omega
      rcases h4 with rfl | rfl | rfl | rfl
      · rw [w0]; exact e0
      · rw [w1]; exact e1
      · rw [w2]; exact e2
      · rw [w3]; exact e3

theorem add_none (b off i : Nat) : (⟨b, off, none⟩ : Addr).add i = ⟨b, off + i, none⟩ := by
  by_cases hi : i = 0
  · subst hi; rfl
  · simp [Addr.add, hi]

theorem view_tabs {H : Type} {enc : TypeId × Value → H} {W : World} {base : Nat} {r : Reach} {t : TypeId} {v : Value} {d : DataW H} {p : List MemPlace}
    (ht : Tryd.prog.underlying t = some (.slice 24)) (hv : Value.okWide Tryd.prog W r base t v) (h : DataW.Trod enc Tryd.prog W 0 (fun _ => true) true t v d p) :
    ∃ (ad : Option Addr) (len cap : Nat) (T : Nat → Nat → Bool), v = .slice ad len cap ∧ len ≤ cap ∧ TabsAt W ad len T := by
  obtain ⟨ad, len, cap, rfl⟩ := okWide_slice ht hv
  obtain ⟨fuel, hf⟩ := h
  rcases Deep.open_slice ht hf with ⟨hcs, _⟩ | ⟨a, len', cap', m, n, D, Pl, hcs, _, hl, _, hm, _, hx⟩
  · simp [Value.cells] at hcs
    obtain ⟨rfl, rfl, rfl⟩ := hcs
    exact ⟨none, 0, 0, fun _ _ => false, rfl, Nat.le_refl _, .inl rfl⟩
  · simp [Value.cells] at hcs
    obtain ⟨rfl, rfl, rfl⟩ := hcs
    rw [if_pos rfl] at hm
    rw [cells24] at hx
    have each : ∀ i, ∃ F : Nat → Bool, i < len → ∀ k, k < 4 → W.cell? ((a.add (i * 4)).add k) = some (.int .u64 (word F k : Int)) := by
      intro i
      by_cases hi : i < len
      · obtain ⟨cs', h1, h2⟩ := hx i (by omega)
        obtain ⟨_, hlen, hc⟩ := World.cells?_some h1
        obtain ⟨F, hF⟩ := trod24 h2 hlen
        refine ⟨F, fun _ k hk => ?_⟩
        rw [hc k hk]
        exact hF k hk
      · exact ⟨fun _ => false, fun q => absurd q hi⟩
    obtain ⟨T, hT⟩ := Classical.axiomOfChoice each
    refine ⟨some a, len, cap, T, rfl, hl, ?_⟩
    by_cases h0 : len = 0
    · exact .inl h0
    · right
      have c0 := hT 0 (by omega) 0 (by decide)
      obtain ⟨b, off, s⟩ := a
      have c0' : W.cell? ⟨b, off, s⟩ = some (.int .u64 (word (T 0) 0 : Int)) := by simpa [Addr.add] using c0
      obtain ⟨e', n', hs, _, hsp⟩ := World.shape?_of_cell? c0'
      have hsp' : s = none := hsp
      subst hsp'
      refine ⟨b, off, rfl, size_of_cell c0', fun i hi k hk => ?_⟩
      have := hT i hi k hk
      rw [add_none, add_none] at this
      exact this

theorem view_ints {H : Type} {enc : TypeId × Value → H} {W : World} {base : Nat} {r : Reach} {t : TypeId} {v : Value} {d : DataW H} {p : List MemPlace}
    (ht : Tryd.prog.underlying t = some (.slice 3)) (he : Tryd.prog.underlying 3 = some (.int .i64)) (hc : Tryd.prog.cellsOf 3 = 1)
    (hv : Value.okWide Tryd.prog W r base t v) (h : DataW.Trod enc Tryd.prog W 0 (fun _ => true) true t v d p) :
    ∃ (ad : Option Addr) (len cap : Nat) (V : Nat → Int), v = .slice ad len cap ∧ len ≤ cap ∧ IntsAt W ad len V := by
  obtain ⟨ad, len, cap, rfl⟩ := okWide_slice ht hv
  obtain ⟨fuel, hf⟩ := h
  rcases open_ints ht he hc hf with ⟨hcs, _⟩ | ⟨a, len', cap', zs, hcs, _, hl, _, hz, _, hcell, _⟩
  · simp [Value.cells] at hcs
    obtain ⟨rfl, rfl, rfl⟩ := hcs
    exact ⟨none, 0, 0, fun _ => 0, rfl, Nat.le_refl _, .inl rfl⟩
  · simp [Value.cells] at hcs
    obtain ⟨rfl, rfl, rfl⟩ := hcs
    rw [if_pos rfl] at hz
    refine ⟨some a, len, cap, fun i => zs.getD i 0, rfl, hl, ?_⟩
    by_cases h0 : len = 0
    · exact .inl h0
    · right
      have c0 := hcell 0 (by omega)
      obtain ⟨b, off, s⟩ := a
      obtain ⟨e', n', hs, _, hsp⟩ := World.shape?_of_cell? c0
      have hsp' : s = none := hsp
      subst hsp'
      rw [add_none] at c0
      refine ⟨b, off, rfl, size_of_cell c0, fun i hi => ?_⟩
      have := hcell i (by omega)
      rwa [add_none] at this
theorem view_bytes {H : Type} {enc : TypeId × Value → H} {W : World} {base : Nat} {r : Reach} {t : TypeId} {v : Value} {d : DataW H} {p : List MemPlace}
    (ht : Tryd.prog.underlying t = some (.slice 5)) (he : Tryd.prog.underlying 5 = some (.int .u8)) (hc : Tryd.prog.cellsOf 5 = 1)
    (hv : Value.okWide Tryd.prog W r base t v) (h : DataW.Trod enc Tryd.prog W 0 (fun _ => true) true t v d p) :
    ∃ (ad : Option Addr) (len cap : Nat) (Z : Nat → Nat), v = .slice ad len cap ∧ BytesAt W ad len Z := by
  obtain ⟨ad, len, cap, rfl⟩ := okWide_slice ht hv
  obtain ⟨fuel, hf⟩ := h
  rcases open_ints ht he hc hf with ⟨hcs, _⟩ | ⟨a, len', cap', zs, hcs, _, hl, _, hz, _, hcell, hwf⟩
  · simp [Value.cells] at hcs
    obtain ⟨rfl, rfl, rfl⟩ := hcs
    exact ⟨none, 0, 0, fun _ => 0, rfl, .inl rfl⟩
  · simp [Value.cells] at hcs
    obtain ⟨rfl, rfl, rfl⟩ := hcs
    rw [if_pos rfl] at hz
    refine ⟨some a, len, cap, fun i => (zs.getD i 0).toNat, rfl, ?_⟩
    by_cases h0 : len = 0
    · exact .inl h0
    · right
      have c0 := hcell 0 (by omega)
      obtain ⟨b, off, s⟩ := a
      obtain ⟨e', n', hs, _, hsp⟩ := World.shape?_of_cell? c0
      have hsp' : s = none := hsp
      subst hsp'
      rw [add_none] at c0
      refine ⟨b, off, rfl, size_of_cell c0, fun i hi => ?_⟩
      have h1 := hcell i (by omega)
      rw [add_none] at h1
      have hi' : i < zs.length := by omega
      have hg : zs.getD i 0 = zs[i] := by simp [List.getD, List.getElem?_eq_getElem hi']
      have hb := bounds_u8 (hwf _ (List.getElem_mem hi'))
      rw [← hg] at hb
      have e : (((zs.getD i 0).toNat : Nat) : Int) = zs.getD i 0 := by rw [hg] at hb ⊢; omega
      have l9 : (zs.getD i 0).toNat < 256 := by rw [hg] at hb ⊢; omega
      exact ⟨by rw [h1, e], l9⟩
end Go.Proofs.YtmfocngdobcfcabDoor
