/-
  MemSums: for every two rows the law tells true, and both read as they did: no condition.
-/
import Derived.Test.YtkfdmclobodfgaaView
import Derived.Test.YtkfdmclobodfgaaSumsWalk
namespace Go.Proofs.Ytkfdmclobodfgaa
open Go.ChangeShapes Go.WideShapes Go.ChangeAt Go.RowKit

set_option maxRecDepth 100000 in
theorem sums_lifted (os : Os) (started : os.Started) (H : Type) (enc : TypeId × Value → H) :
    ReturnsInHanded {} Try.checked os 7 .any (Rows.memSumsSpec.pre6 enc Try.prog Try.f7 Rows.memSumsRow.domain false) (Rows.memSumsSpec.post enc Try.prog Try.f7 false true false false) := by
  refine returnsInHanded_of_change (C := Try.checked) try_own started (by kernel_rfl) Try.func7
    (ChangeSpec.witness6 (enc := enc) (C := Try.checked) false ⟨#[], #[.slice none 0 0, .slice none 0 0], []⟩ 8 (by kernel_rfl) (by kernel_rfl) (by kernel_rfl) (by kernel_rfl)) ?_
  intro W base args ds gs before hval0 hW hcnd _
  have hval : ∀ (j : Nat) t v, Try.f7.params[j]? = some t → args[j]? = some v → Value.okWide Try.prog W .any base t v := hval0
  have hW' := hW
  obtain ⟨p, q, hA0, hV, rfl, hfz, hnd⟩ := hW
  have hA : DataW.TrodAll enc Try.prog W 0 (fun _ => true) true Try.f7.params.toList args.toList ds p := hA0
  rw [Try.params7] at hA hval
  obtain ⟨v0, v1, d0, d1, p0, p1, rfl, rfl, rfl, h0, h1⟩ := trodAll_two hA
  obtain ⟨rfl, rfl⟩ := trodVars_none hV
  clear hA0 hval0
  simp only [List.append_nil] at hW'
  have hlt0 : ∀ x ∈ p0, x.block < W.heap.size := fun x hx => by simpa using hW'.lt x (by simp [hx])
  have hlt1 : ∀ x ∈ p1, x.block < W.heap.size := fun x hx => by simpa using hW'.lt x (by simp [hx])
  have hargs0 : ∀ (W' : World), Below W.heap.size W W' → DataW.Trod enc Try.prog W' 0 (fun b => decide (b < W.heap.size)) true 36 v0 d0 p0 :=
    fun W' hn => Below.trod try_laid (by kernel_rfl) (of_decide_eq_true (by kernel_rfl)) h0 hn hlt0
  have hargs1 : ∀ (W' : World), Below W.heap.size W W' → DataW.Trod enc Try.prog W' 0 (fun b => decide (b < W.heap.size)) true 26 v1 d1 p1 :=
    fun W' hn => Below.trod try_laid (by kernel_rfl) (of_decide_eq_true (by kernel_rfl)) h1 hn hlt1
  have fin : Calls Try.prog 7 #[v0, v1] W fun e w' => e = .returned (.bool true) ∧ Below W.heap.size W w' := by
    obtain ⟨ad, len, cap, rfl, hcase⟩ := view_ints Try.underlying36 Try.underlying5 (by kernel_rfl) (hval 0 36 v0 rfl rfl) h0
    obtain ⟨ad2, len2, cap2, rfl, hcase2⟩ := view_ints Try.underlying26 Try.underlying27 (by kernel_rfl) (hval 1 26 v1 rfl rfl) h1
    by_cases hlen : 80 < len ∨ len2 < len
    · exact sums_long ad ad2 len cap len2 cap2 W hlen
    · by_cases h00 : len = 0
      · subst h00
        rcases hcase2 with rfl | ⟨b2, off2, V, rfl, hb2, hz2⟩
        · exact sums_walk ad ad2 0 0 0 cap (fun _ => 0) (fun k hk => absurd hk (by omega)) 0 0 0 cap2 (fun _ => 0) W (fun h => absurd h (by omega)) (fun k hk => absurd hk (by omega)) (fun h => absurd h (by omega)) (fun k hk => absurd hk (by omega)) (by omega) (by omega) (fun h => absurd h (by omega)) (fun h => absurd h (by omega))
        · exact sums_walk ad _ 0 0 0 cap (fun _ => 0) (fun k hk => absurd hk (by omega)) b2 off2 len2 cap2 V W (fun h => absurd h (by omega)) (fun k hk => absurd hk (by omega)) (fun _ => hb2) (fun k hk => (hz2 k hk).1) (by omega) (by omega) (fun h => absurd h (by omega)) (fun h => absurd h (by omega))
      · rcases hcase with rfl | ⟨b, off, Z, rfl, hb, hz⟩
        · exact absurd rfl h00
        · rcases hcase2 with rfl | ⟨b2, off2, V, rfl, hb2, hz2⟩
          · omega
          · exact sums_walk _ _ b off len cap Z (fun k hk => wf_u8 (hz k hk).2) b2 off2 len2 cap2 V W (fun _ => hb) (fun k hk => (hz k hk).1) (fun _ => hb2) (fun k hk => (hz2 k hk).1) (by omega) (by omega) (fun _ => rfl) (fun _ => rfl)
  refine fin.mono fun e W' ⟨he, hg⟩ => ?_
  subst he
  refine ⟨_, rfl, _, _, _, [], _, [], hW', ?_, trodAll_mk2 (hargs0 _ hg) (hargs1 _ hg), rfl, hg.frame _, fun h => by cases h⟩
  exact trodAll_cons_mk (shut_bool Try.underlying4 _) trodAll_mk0

theorem sums_holds : Rows.MemSumsSaid :=
  OpenClaim.holds_of_wide 7 Try.f7 rfl rfl rfl rfl rfl rfl rfl ⟨rfl, rfl, rfl, rfl, rfl⟩ rfl rfl rfl rfl rfl (by kernel_rfl) Try.func7 (by kernel_rfl)
    (of_decide_eq_true (by kernel_rfl)) (by unfold Func.isWrapper; first | (rw [if_pos (by decide +kernel)]; kernel_rfl) | (rw [if_neg (by decide +kernel)]; exact ⟨rfl, rfl⟩))
    (fun os started H enc _ => sums_lifted os started H enc)
end Go.Proofs.Ytkfdmclobodfgaa
