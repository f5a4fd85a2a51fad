/-
  RanksPlay: for every row of steps the law tells true, and the row reads as it did: no condition.
-/
import Derived.Test.YthcjmbfhcdkffaaView
import Derived.Test.YthcjmbfhcdkffaaPlayW
import Derived.Deep.Slices
namespace Go.Proofs.Ythcjmbfhcdkffaa
open Go.ChangeShapes Go.WideShapes Go.ChangeAt Go.RowKit Go.Deep

theorem cells28 : Try.prog.cellsOf 28 = 3 := by kernel_rfl
theorem cells3 : Try.prog.cellsOf 3 = 1 := by kernel_rfl

theorem view_steps {H : Type} {enc : TypeId × Value → H} {W : World} {base : Nat} {r : Reach} {v : Value} {d : DataW H} {p : List MemPlace}
    (hv : Value.okWide Try.prog W r base 22 v) (h : DataW.Trod enc Try.prog W 0 (fun _ => true) true 22 v d p) :
    ∃ (ad : Option Addr) (len cap : Nat) (T : Nat → Int × Int × Int), v = .slice ad len cap ∧ StepsAt W ad len T := by
  obtain ⟨ad, len, cap, rfl⟩ := okWide_slice Try.underlying22 hv
  obtain ⟨fuel, hf⟩ := h
  rcases open_slice Try.underlying22 hf with ⟨hcs, _⟩ | ⟨a, len', cap', m, n, D, Pl, hcs, _, hl, _, hm, _, hx⟩
  · simp [Value.cells] at hcs
    exact ⟨ad, len, cap, fun _ => (0, 0, 0), rfl, Or.inl hcs.2.1⟩
  · simp [Value.cells] at hcs
    obtain ⟨rfl, rfl, rfl⟩ := hcs
    rw [if_pos rfl] at hm
    subst hm
    by_cases h0 : len = 0
    · exact ⟨_, len, _, fun _ => (0, 0, 0), rfl, Or.inl h0⟩
    · have each : ∀ i, ∃ t : Int × Int × Int, i < len → W.cell? (a.add (i * 3 + 0)) = some (.int .i64 t.1) ∧ W.cell? (a.add (i * 3 + 1)) = some (.int .i64 t.2.1) ∧ W.cell? (a.add (i * 3 + 2)) = some (.int .i64 t.2.2) := by
        intro i
        by_cases hi : i < len
        · obtain ⟨cs', h1, h2⟩ := hx i (by omega)
          rw [cells28] at h1
          obtain ⟨_, hlen, hcell⟩ := World.cells?_some h1
          obtain ⟨xs, k, _, _, _, hxl, hf'⟩ := DataW.trod_struct Try.underlying28 h2
          match xs, hxl, cs', hlen with
          | [y0, y1, y2], _, [v0, v1, v2], _ =>
            have g0 := hf' 0 _ rfl
            have g1 := hf' 1 _ rfl
            have g2 := hf' 2 _ rfl
            simp [cells3] at g0 g1 g2
            obtain ⟨z0, e0, _, _⟩ := DataW.trod_int Try.underlying3 g0
            obtain ⟨z1, e1, _, _⟩ := DataW.trod_int Try.underlying3 g1
            obtain ⟨z2, e2, _, _⟩ := DataW.trod_int Try.underlying3 g2
            simp at e0 e1 e2
            subst e0 e1 e2
            have k0 := hcell 0 (by omega)
            have k1 := hcell 1 (by omega)
            have k2 := hcell 2 (by omega)
            rw [add_add] at k0 k1 k2
            exact ⟨(z0, z1, z2), fun _ => ⟨k0, k1, k2⟩⟩
        · exact ⟨(0, 0, 0), fun h => absurd h hi⟩
      obtain ⟨T, hT⟩ : ∃ T : Nat → Int × Int × Int, ∀ i, i < len → W.cell? (a.add (i * 3 + 0)) = some (.int .i64 (T i).1) ∧ W.cell? (a.add (i * 3 + 1)) = some (.int .i64 (T i).2.1) ∧ W.cell? (a.add (i * 3 + 2)) = some (.int .i64 (T i).2.2) := ⟨fun i => Classical.choose (each i), fun i => Classical.choose_spec (each i)⟩
      have c0 := (hT 0 (by omega)).1
      obtain ⟨e', n', hs, _, hsp⟩ := World.shape?_of_cell? c0
      obtain ⟨b, off, sp⟩ := a
      have hsp' : sp = none := hsp
      subst hsp'
      refine ⟨_, len, _, T, rfl, Or.inr ⟨b, off, rfl, ?_, fun i hi => ?_⟩⟩
      · rw [addr_add] at c0
        cases hh : W.heap[b]? with
        | none => simp [World.cell?, hh] at c0
        | some o => exact (Array.getElem?_eq_some_iff.1 hh).1
      · obtain ⟨k0, k1, k2⟩ := hT i hi
        rw [addr_add] at k0 k1 k2
        exact ⟨k0, k1, k2⟩

set_option maxRecDepth 100000 in
theorem play_long (ad : Option Addr) (len cap : Nat) (W : World) (hlen : 100 < len) :
    Calls Try.prog 3 #[.slice ad len cap] W fun e w' => e = .returned (.bool true) ∧ Below W.heap.size W w' := by
  have hd : decide (100 < (len : Int)) = true := by simp; omega
  have H0 := known_any W
  go_enter Try.func3, Try.ntmps3
  go_wp2_with (first
    | (go_at_call 7; refine H0.mono ?_; clear H0; rintro e w1 ⟨rfl, b1⟩))
  go_ret
  exact ⟨rfl, b1⟩

set_option maxRecDepth 100000 in
theorem play_lifted (os : Os) (started : os.Started) (H : Type) (enc : TypeId × Value → H) :
    ReturnsInHanded {} Try.checked os 3 .any (Rows.ranksPlaySpec.pre6 enc Try.prog Try.f3 Rows.ranksPlayRow.domain false) (Rows.ranksPlaySpec.post enc Try.prog Try.f3 false true false false) := by
  refine returnsInHanded_of_change (C := Try.checked) try_own started (by kernel_rfl) Try.func3
    (ChangeSpec.witness6 (enc := enc) (C := Try.checked) false ⟨#[], #[.slice none 0 0], []⟩ 8 (by kernel_rfl) (by kernel_rfl) (by kernel_rfl) (by kernel_rfl)) ?_
  intro W base args ds gs before hval0 hW hcnd _
  have hval : ∀ (j : Nat) t v, Try.f3.params[j]? = some t → args[j]? = some v → Value.okWide Try.prog W .any base t v := hval0
  have hW' := hW
  obtain ⟨p, q, hA0, hV, rfl, hfz, hnd⟩ := hW
  have hA : DataW.TrodAll enc Try.prog W 0 (fun _ => true) true Try.f3.params.toList args.toList ds p := hA0
  rw [Try.params3] at hA hval
  obtain ⟨v0, d0, rfl, rfl, h0⟩ := trodAll_one hA
  obtain ⟨rfl, rfl⟩ := trodVars_none hV
  clear hA0 hval0
  simp only [List.append_nil] at hW'
  have hlt0 : ∀ x ∈ p, x.block < W.heap.size := fun x hx => by simpa using hW'.lt x (by simp [hx])
  have hargs0 : ∀ (W' : World), Below W.heap.size W W' → DataW.Trod enc Try.prog W' 0 (fun b => decide (b < W.heap.size)) true 22 v0 d0 p :=
    fun W' hn => Below.trod try_laid (by kernel_rfl) (of_decide_eq_true (by kernel_rfl)) h0 hn hlt0
  have fin : Calls Try.prog 3 #[v0] W fun e w' => e = .returned (.bool true) ∧ Below W.heap.size W w' := by
    obtain ⟨ad, len, cap, T, rfl, hT⟩ := view_steps (hval 0 22 v0 rfl rfl) h0
    by_cases hlen : 100 < len
    · exact play_long ad len cap W hlen
    · exact play_walk ad len cap T W hT (by omega)
  refine fin.mono fun e W' ⟨he, hg⟩ => ?_
  subst he
  refine ⟨_, rfl, _, _, _, [], _, [], hW', ?_, trodAll_mk1 (hargs0 _ hg), rfl, hg.frame _, fun h => by cases h⟩
  exact trodAll_cons_mk (shut_bool Try.underlying4 _) trodAll_mk0

theorem play_holds : Rows.RanksPlaySaid :=
  OpenClaim.holds_of_wide 3 Try.f3 rfl rfl rfl rfl rfl rfl rfl ⟨rfl, rfl, rfl, rfl, rfl⟩ rfl rfl rfl rfl rfl (by kernel_rfl) Try.func3 (by kernel_rfl)
    (of_decide_eq_true (by kernel_rfl)) (by unfold Func.isWrapper; first | (rw [if_pos (by decide +kernel)]; kernel_rfl) | (rw [if_neg (by decide +kernel)]; exact ⟨rfl, rfl⟩))
    (fun os started H enc _ => play_lifted os started H enc)
end Go.Proofs.Ythcjmbfhcdkffaa
