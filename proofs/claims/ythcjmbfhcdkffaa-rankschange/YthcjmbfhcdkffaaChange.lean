/-
  RanksChange: for every row of keys and every three numbers the law tells true, and all four arguments read as they did: no condition.
-/
import Derived.Test.YthcjmbfhcdkffaaView
import Derived.Test.YthcjmbfhcdkffaaChangeW
namespace Go.Proofs.Ythcjmbfhcdkffaa
open Go.ChangeShapes Go.WideShapes Go.ChangeAt Go.RowKit

set_option maxRecDepth 100000 in
theorem change_far (ad : Option Addr) (len cap : Nat) (who t drop : Int) (W : World) (hlen : len < 2 ∨ 60 < len) :
    Calls Try.prog 5 #[.slice ad len cap, .int .u8 who, .int .i8 t, .int .u8 drop] W fun e w' => e = .returned (.bool true) ∧ Below W.heap.size W w' := by
  have H0 := known_any W
  by_cases h2 : len < 2
  · have hd0 : decide ((len : Int) < 2) = true := by simp; omega
    clear hlen
    go_enter Try.func5, Try.ntmps5
    go_wp2_with (first
      | (go_at_call 7; refine H0.mono ?_; clear H0; rintro e w1 ⟨rfl, b1⟩))
    go_ret
    exact ⟨rfl, b1⟩
  · have hd0 : decide ((len : Int) < 2) = false := by simp; omega
    have hd1 : decide (60 < (len : Int)) = true := by simp; omega
    clear hlen
    go_enter Try.func5, Try.ntmps5
    go_wp2_with (first
      | (go_at_call 7; refine H0.mono ?_; clear H0; rintro e w1 ⟨rfl, b1⟩))
    go_ret
    exact ⟨rfl, b1⟩

set_option maxRecDepth 100000 in
theorem change_lifted (os : Os) (started : os.Started) (H : Type) (enc : TypeId × Value → H) :
    ReturnsInHanded {} Try.checked os 5 .any (Rows.ranksChangeSpec.pre6 enc Try.prog Try.f5 Rows.ranksChangeRow.domain false) (Rows.ranksChangeSpec.post enc Try.prog Try.f5 false true false false) := by
  refine returnsInHanded_of_change (C := Try.checked) try_own started (by kernel_rfl) Try.func5
    (ChangeSpec.witness6 (enc := enc) (C := Try.checked) false ⟨#[], #[.slice none 0 0, .int .u8 0, .int .i8 0, .int .u8 0], []⟩ 8 (by kernel_rfl) (by kernel_rfl) (by kernel_rfl) (by kernel_rfl)) ?_
  intro W base args ds gs before hval0 hW hcnd _
  have hval : ∀ (j : Nat) t v, Try.f5.params[j]? = some t → args[j]? = some v → Value.okWide Try.prog W .any base t v := hval0
  have hW' := hW
  obtain ⟨p, q, hA0, hV, rfl, hfz, hnd⟩ := hW
  have hA : DataW.TrodAll enc Try.prog W 0 (fun _ => true) true Try.f5.params.toList args.toList ds p := hA0
  rw [Try.params5] at hA hval
  obtain ⟨v0, v1, v2, v3, d0, d1, d2, d3, p0, p1, p2, p3, rfl, rfl, rfl, h0, h1, h2, h3⟩ := trodAll_four hA
  obtain ⟨rfl, rfl⟩ := trodVars_none hV
  obtain ⟨who, rfl, rfl, rfl, ww⟩ := open_int Try.underlying5 (hval 1 5 v1 rfl rfl) h1
  obtain ⟨t, rfl, rfl, rfl, wt⟩ := open_int Try.underlying41 (hval 2 41 v2 rfl rfl) h2
  obtain ⟨drop, rfl, rfl, rfl, wd⟩ := open_int Try.underlying5 (hval 3 5 v3 rfl rfl) h3
  clear hA0 hval0
  simp only [List.append_nil] at hW'
  have hlt0 : ∀ x ∈ p0, x.block < W.heap.size := fun x hx => by simpa using hW'.lt x (by simp [hx])
  have hargs0 : ∀ (W' : World), Below W.heap.size W W' → DataW.Trod enc Try.prog W' 0 (fun b => decide (b < W.heap.size)) true 40 v0 d0 p0 :=
    fun W' hn => Below.trod try_laid (by kernel_rfl) (of_decide_eq_true (by kernel_rfl)) h0 hn hlt0
  have fin : Calls Try.prog 5 #[v0, .int .u8 who, .int .i8 t, .int .u8 drop] W fun e w' => e = .returned (.bool true) ∧ Below W.heap.size W w' := by
    obtain ⟨ad, len, cap, rfl, hcase⟩ := view_ints Try.underlying40 Try.underlying41 (by kernel_rfl) (hval 0 40 v0 rfl rfl) h0
    by_cases hlen : len < 2 ∨ 60 < len
    · exact change_far ad len cap who t drop W hlen
    · rcases hcase with rfl | ⟨b, off, Z, rfl, hb, hz⟩
      · omega
      · exact change_walk _ len cap Z who t drop W (.inr ⟨b, off, rfl, hb, fun k hk => (hz k hk).1⟩) (fun i hi => wf_i8 (hz i hi).2) (wf_u8 ww) (wf_i8 wt) (wf_u8 wd) (by omega)
  refine fin.mono fun e W' ⟨he, hg⟩ => ?_
  subst he
  refine ⟨_, rfl, _, _, _, [], _, [], hW', ?_, trodAll_mk4 (hargs0 _ hg) (shut_int Try.underlying5 ww) (shut_int Try.underlying41 wt) (shut_int Try.underlying5 wd), rfl, hg.frame _, fun h => by cases h⟩
  exact trodAll_cons_mk (shut_bool Try.underlying4 _) trodAll_mk0

theorem change_holds : Rows.RanksChangeSaid :=
  OpenClaim.holds_of_wide 5 Try.f5 rfl rfl rfl rfl rfl rfl rfl ⟨rfl, rfl, rfl, rfl, rfl⟩ rfl rfl rfl rfl rfl (by kernel_rfl) Try.func5 (by kernel_rfl)
    (of_decide_eq_true (by kernel_rfl)) (by unfold Func.isWrapper; first | (rw [if_pos (by decide +kernel)]; kernel_rfl) | (rw [if_neg (by decide +kernel)]; exact ⟨rfl, rfl⟩))
    (fun os started H enc _ => change_lifted os started H enc)
end Go.Proofs.Ythcjmbfhcdkffaa
