/-
  RanksSort: for every row of keys the law tells true, and the row reads as it did: no condition.
-/
import Derived.Test.YthcjmbfhcdkffaaView
import Derived.Test.YthcjmbfhcdkffaaSortW
namespace Go.Proofs.Ythcjmbfhcdkffaa
open Go.ChangeShapes Go.WideShapes Go.ChangeAt Go.RowKit

set_option maxRecDepth 100000 in
theorem sort_long (ad : Option Addr) (len cap : Nat) (W : World) (hlen : 100 < len) :
    Calls Try.prog 4 #[.slice ad len cap] W fun e w' => e = .returned (.bool true) ∧ Below W.heap.size W w' := by
  have hd : decide (100 < (len : Int)) = true := by simp; omega
  have H0 := known_any W
  go_enter Try.func4, Try.ntmps4
  go_wp2_with (first
    | (go_at_call 7; refine H0.mono ?_; clear H0; rintro e w1 ⟨rfl, b1⟩))
  go_ret
  exact ⟨rfl, b1⟩

set_option maxRecDepth 100000 in
theorem sort_lifted (os : Os) (started : os.Started) (H : Type) (enc : TypeId × Value → H) :
    ReturnsInHanded {} Try.checked os 4 .any (Rows.ranksSortSpec.pre6 enc Try.prog Try.f4 Rows.ranksSortRow.domain false) (Rows.ranksSortSpec.post enc Try.prog Try.f4 false true false false) := by
  refine returnsInHanded_of_change (C := Try.checked) try_own started (by kernel_rfl) Try.func4
    (ChangeSpec.witness6 (enc := enc) (C := Try.checked) false ⟨#[], #[.slice none 0 0], []⟩ 8 (by kernel_rfl) (by kernel_rfl) (by kernel_rfl) (by kernel_rfl)) ?_
  intro W base args ds gs before hval0 hW hcnd _
  have hval : ∀ (j : Nat) t v, Try.f4.params[j]? = some t → args[j]? = some v → Value.okWide Try.prog W .any base t v := hval0
  have hW' := hW
  obtain ⟨p, q, hA0, hV, rfl, hfz, hnd⟩ := hW
  have hA : DataW.TrodAll enc Try.prog W 0 (fun _ => true) true Try.f4.params.toList args.toList ds p := hA0
  rw [Try.params4] at hA hval
  obtain ⟨v0, d0, rfl, rfl, h0⟩ := trodAll_one hA
  obtain ⟨rfl, rfl⟩ := trodVars_none hV
  clear hA0 hval0
  simp only [List.append_nil] at hW'
  have hlt0 : ∀ x ∈ p, x.block < W.heap.size := fun x hx => by simpa using hW'.lt x (by simp [hx])
  have hargs0 : ∀ (W' : World), Below W.heap.size W W' → DataW.Trod enc Try.prog W' 0 (fun b => decide (b < W.heap.size)) true 40 v0 d0 p :=
    fun W' hn => Below.trod try_laid (by kernel_rfl) (of_decide_eq_true (by kernel_rfl)) h0 hn hlt0
  have fin : Calls Try.prog 4 #[v0] W fun e w' => e = .returned (.bool true) ∧ Below W.heap.size W w' := by
    obtain ⟨ad, len, cap, rfl, hcase⟩ := view_ints Try.underlying40 Try.underlying41 (by kernel_rfl) (hval 0 40 v0 rfl rfl) h0
    by_cases hlen : 100 < len
    · exact sort_long ad len cap W hlen
    · rcases hcase with rfl | ⟨b, off, Z, rfl, hb, hz⟩
      · exact sort_walk ad 0 cap (fun _ => 0) W (.inl rfl) (fun i hi => by omega) (by omega)
      · exact sort_walk _ len cap Z W (.inr ⟨b, off, rfl, hb, fun k hk => (hz k hk).1⟩) (fun i hi => wf_i8 (hz i hi).2) (by omega)
  refine fin.mono fun e W' ⟨he, hg⟩ => ?_
  subst he
  refine ⟨_, rfl, _, _, _, [], _, [], hW', ?_, trodAll_mk1 (hargs0 _ hg), rfl, hg.frame _, fun h => by cases h⟩
  exact trodAll_cons_mk (shut_bool Try.underlying4 _) trodAll_mk0

theorem sort_holds : Rows.RanksSortSaid :=
  OpenClaim.holds_of_wide 4 Try.f4 rfl rfl rfl rfl rfl rfl rfl ⟨rfl, rfl, rfl, rfl, rfl⟩ rfl rfl rfl rfl rfl (by kernel_rfl) Try.func4 (by kernel_rfl)
    (of_decide_eq_true (by kernel_rfl)) (by unfold Func.isWrapper; first | (rw [if_pos (by decide +kernel)]; kernel_rfl) | (rw [if_neg (by decide +kernel)]; exact ⟨rfl, rfl⟩))
    (fun os started H enc _ => sort_lifted os started H enc)
end Go.Proofs.Ythcjmbfhcdkffaa
