/-
  Package count: Size and Levels.
-/
import Derived.Test.YteickckgljlacaaGreatSwCr
namespace Go.Proofs.YteickckgljlacaaGreat
open Go Go.RowKit

/-- How many of them lie on a level. -/
def lvN (M : Mdl) (ks : List Nat) (i : Nat) : Nat := (ks.filter fun k => decide ((M.nd k).1 = i)).length
theorem lvN_le (M : Mdl) (ks : List Nat) (i : Nat) : lvN M ks i ≤ ks.length := List.length_filter_le _ _
theorem lvN_put (M : Mdl) (ks : List Nat) (k i : Nat) : lvN M (ks ++ [k]) i = if i = (M.nd k).1 then lvN M ks (M.nd k).1 + 1 else lvN M ks i := by
  unfold lvN
  rw [List.filter_append, List.length_append]
  by_cases c : i = (M.nd k).1
  · subst c
    simp
  · rw [if_neg c, List.filter_cons, if_neg (by simp; exact fun e => c e.symm)]
    simp
theorem lvN_perm {M : Mdl} {ks ls : List Nat} (h : ks.Nodup) (g : ls.Nodup) (e : ∀ k, k ∈ ks ↔ k ∈ ls) (i : Nat) : lvN M ks i = lvN M ls i :=
  (((List.perm_ext_iff_of_nodup h g).2 e).filter _).length_eq
theorem rch_len {M : Mdl} {H : Nat → Nat} {n : Nat} {ks : List Nat} (r : Rch M H n ks) (h : ks.Nodup) : ks.length ≤ M.hs.length := nodup_le _ _ h r.inn
section
variable {w w' u : World} {S b h : Nat} {F0 : Nat → Prop} {M : Mdl}
def SizeQ (M : Mdl) (n : Nat) (H : Nat → Nat) (e : Ending) : Prop :=
  ((∀ i, i < n → M.isNode (H i)) ∧ ∃ ks, ks.Nodup ∧ Rch M H n ks ∧ e = .returned (.tuple #[.int .i64 (ks.length : Int), .int .i64 0])) ∨ ((∃ i, i < n ∧ ¬ M.isNode (H i)) ∧ e = .returned (.tuple #[.int .i64 0, .int .i64 101]))
set_option maxRecDepth 100000 in
set_option maxHeartbeats 1000000 in
theorem size_op {ad : Option Addr} {n cap : Nat} {H : Nat → Nat} (s : St w S F0 M) (hl : HsAt w ad n H) (hb : ∀ i, i < n → H i < 4294967296) (hn : n ≤ 1000000) :
    Calls Tryz.prog 26 #[.pointer (some ⟨S, 0, none⟩), .slice ad n cap] w fun e w' => SizeQ M n H e ∧ Below w.heap.size w w' := by
  have K := reach_any (cap := cap) s hl hb hn
  clear hl hb hn
  go_enter Tryz.func26, Tryz.ntmps26
  go_upto_region 1 with fail
  have Kr : Calls Tryz.prog 54 #[.pointer (some ⟨S, 0, none⟩), .slice ad n cap] w fun e w' => ∃ (mv : Value) (er k : Nat), e = .returned (.tuple #[mv, .int .i64 (er : Int)]) ∧ (∀ ty, (Builtin.len_ #[107] ty #[mv]).run Tryz.prog w' = .ok (.int .i64 (k : Int)) w') ∧ Aside (SizeQ M n H (.returned (.tuple #[.int .i64 (k : Int), .int .i64 (er : Int)]))) ∧ Below w.heap.size w w' := by
    refine K.mono ?_
    rintro e w' (⟨hN, b, ks, rfl, m, r, B, _⟩ | ⟨bad, rfl, B⟩)
    · exact ⟨_, 0, ks.length, rfl, fun ty => by simpa using Hm.map_len _ Tryz.underlying107 m ty, .inl ⟨hN, ks, keys_once m, r, rfl⟩, B⟩
    · exact ⟨_, 101, 0, rfl, fun ty => Hm.map_len_nil _ Tryz.underlying107 w' ty, .inr ⟨bad, rfl⟩, B⟩
  clear K
  go_wp2_with (first
    | (go_at_call 54; refine Kr.mono ?_; clear Kr; rintro e w1 ⟨mv, er, k, rfl, hln, hq, B⟩))
  go_ret2
  exact ⟨hq.out, B⟩
end
end Go.Proofs.YteickckgljlacaaGreat
