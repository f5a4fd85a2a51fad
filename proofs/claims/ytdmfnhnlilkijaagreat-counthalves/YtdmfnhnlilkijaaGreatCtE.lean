/-
  Package count: Eval.
-/
import Derived.Test.YtdmfnhnlilkijaaGreatCtN
import Derived.Deep.LoopGhost
namespace Go.Proofs.YtdmfnhnlilkijaaGreat
open Go Go.RowKit

section
variable {w : World} {S h : Nat} {F0 : Nat → Prop} {M : Mdl}
theorem read8 (m v : Nat) (hm : m < 256) : (bits .and .u8 ((m : Int) / 2 ^ v) 1 == 1) = m.testBit v := by rw [Rf.read_mask m v hm, Rf.M_bit]
set_option maxRecDepth 100000 in
set_option maxHeartbeats 2000000 in
theorem eval_op (s : St w S F0 M) (hh : M.isNode h) (x : Nat) (hx : x < 256) :
    Calls Tryz.prog 11 #[.pointer (some ⟨S, 0, none⟩), .int .u32 (h : Int), .int .u8 (x : Int)] w fun e w' => e = .returned (.tuple #[.bool (M.tbl h x), .int .i64 0]) ∧ Below w.heap.size w w' := by
  have ok := s.ok
  have n8 := ok.le8
  have K1 := s_is s h (by have := Mdl.isNode_lt ok hh; omega)
  rw [Mdl.nodeB_true hh] at K1
  have K2 := s_order s
  obtain ⟨r, hr⟩ : ∃ r, M.tbl h x = r := ⟨_, rfl⟩
  have hrA : Aside (M.tbl h x = r) := hr
  rw [hr]
  clear hr
  go_enter Tryz.func11, Tryz.ntmps11
  go_wp2_with (first
    | (go_at_call 35; refine K1.mono ?_; clear K1; rintro e w ⟨rfl, rfl⟩)
    | (go_at_call 16; refine K2.mono ?_; clear K2; rintro e w1 ⟨P, lv, rfl, o1, b1, p1⟩))
  have s1 := s.below b1
  clear p1
  have okA : Aside M.Ok := ok
  have hhA : Aside (M.isNode h) := hh
  clear ok hh s
  go_loopg [1] (M.n - M.lev h) (fun g sh wr => ∃ c : Nat, g = M.n - M.lev c ∧ sh = .int .u32 (c : Int) ∧ Aside (M.isNode c) ∧ Aside (M.tbl c x = r) ∧ wr = w1)
  case atStart => exact ⟨h, rfl, rfl, hhA, hrA, rfl⟩
  case round =>
    obtain ⟨c, hg, rfl, hc, ht, rfl⟩ := hrel
    have hgA : Aside (gk = M.n - M.lev c) := hg
    clear hg hrA hhA
    have ok := okA.out
    have cb := Mdl.isNode_lt ok hc.out
    by_cases c2 : c < 2
    · have c1 : ¬ (1 : Int) < (c : Int) := by omega
      have t := ht.out
      have e : r = decide (c = 1) := by rw [← t]; exact Mdl.val_const c2 _
      have e2 : ((c : Int) == 1) = r := by
        rw [e]
        by_cases q : c = 1
        · subst q; rfl
        · rw [decide_eq_false q, beq_eq_false_iff_ne]; omega
      have e3 : (decide ((c : Int) = 1)) = r := by
        rw [e]
        by_cases q : c = 1
        · subst q; rfl
        · rw [decide_eq_false q, decide_eq_false]; omega
      clear t e ok hgA okA c2
      go_wp2_with fail
      go_ret2
      exact ⟨by simp, b1⟩
    · have cm := hc.out.resolve_left c2
      have c1 : (1 : Int) < (c : Int) := by omega
      have lvn := ok.lv c cm
      have KL := lv_any s1 hc.out
      rw [Mdl.lev_in ok cm] at KL
      have KV := Od.var_in o1 n8 (M.nd c).1 lvn
      have KA := s_low s1 c (by omega)
      rw [Mdl.lowN_in ok cm] at KA
      have KB := s_high s1 c (by omega)
      rw [Mdl.highN_in ok cm] at KB
      have v8 : M.v (M.nd c).1 < 8 := by have := ok.vlt _ lvn; omega
      have rd := read8 x (M.v (M.nd c).1) hx
      have ht' := ht.out
      rw [tbl_at ok cm] at ht'
      have ll : M.lev c < M.lev (M.nd c).2.1 := by rw [Mdl.lev_in ok cm]; exact (ok.lo c cm).2
      have lh : M.lev c < M.lev (M.nd c).2.2 := by rw [Mdl.lev_in ok cm]; exact (ok.hi c cm).2
      have nl := (ok.lo c cm).1
      have nh := (ok.hi c cm).1
      have lln := Mdl.lev_le ok nl
      have lhn := Mdl.lev_le ok nh
      generalize M.v (M.nd c).1 = v at KV v8 rd ht'
      generalize (M.nd c).1 = L at KL KV lvn
      generalize (M.nd c).2.1 = lo at KA ht' ll nl lln
      generalize (M.nd c).2.2 = hi at KB ht' lh nh lhn
      have m1 : min v 8 = v := by omega
      have v8i : (v : Int) < 8 := by omega
      have G1 : Aside (M.lev c < M.lev lo ∧ M.lev lo ≤ M.n) := ⟨ll, lln⟩
      have G2 : Aside (M.lev c < M.lev hi ∧ M.lev hi ≤ M.n) := ⟨lh, lhn⟩
      have nlA : Aside (M.isNode lo) := nl
      have nhA : Aside (M.isNode hi) := nh
      clear ll lh lln lhn nl nh ok cm c2 hc ht
      cases q : x.testBit v with
      | true =>
        rw [q] at rd ht'
        rw [if_pos rfl] at ht'
        have tA : Aside (M.tbl hi x = r) := ht'
        clear ht' q KA
        go_wp2_with (first
          | (go_at_call 41; refine KL.mono ?_; clear KL; rintro e wr ⟨rfl, rfl⟩)
          | (go_at_call 40; refine KV.mono ?_; clear KV; rintro e wr ⟨rfl, rfl⟩)
          | (go_at_call 26; refine KB.mono ?_; clear KB; rintro e wr ⟨rfl, rfl⟩))
        go_roundg (M.n - M.lev hi)
        case measure => have := hgA.out; have := G2.out; omega
        case rel => exact ⟨hi, rfl, rfl, nhA, tA, rfl⟩
      | false =>
        rw [q] at rd ht'
        rw [if_neg (by simp)] at ht'
        have tA : Aside (M.tbl lo x = r) := ht'
        clear ht' q KB
        go_wp2_with (first
          | (go_at_call 41; refine KL.mono ?_; clear KL; rintro e wr ⟨rfl, rfl⟩)
          | (go_at_call 40; refine KV.mono ?_; clear KV; rintro e wr ⟨rfl, rfl⟩)
          | (go_at_call 25; refine KA.mono ?_; clear KA; rintro e wr ⟨rfl, rfl⟩))
        go_roundg (M.n - M.lev lo)
        case measure => have := hgA.out; have := G1.out; omega
        case rel => exact ⟨lo, rfl, rfl, nlA, tA, rfl⟩
end
end Go.Proofs.YtdmfnhnlilkijaaGreat
