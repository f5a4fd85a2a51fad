/-
  The statements' own look (known).
-/
import Derived.Test.YtdmfnhnlilkijaaGreatCtX
namespace Go.Proofs.YtdmfnhnlilkijaaGreat
open Go Go.RowKit
open Rf (countUpto supUpto)

set_option maxRecDepth 100000 in
set_option maxHeartbeats 2000000 in
theorem nknown_any (W : World) :
    Calls Tryz.prog 5 #[] W fun e w' => e = .returned (.bool true) ∧ Below W.heap.size W w' := by
  have oe := Mdl.empty_ok (n := 3) (room := 100) (by omega) (by omega)
  have K1 : Calls Tryz.prog 6 #[.int .i64 3, .int .i64 100] W _ := s_new 3 100 W (by omega) (by omega) (by omega) (by omega)
  have KV : Aside (∀ (u : World) (S : Nat) (F : Nat → Prop), St u S F (Mdl.empty 3 100) → Calls Tryz.prog 27 #[.pointer (some ⟨S, 0, none⟩), .int .i64 1] u fun e w' => ∃ (a : Nat) (M : Mdl) (F' : Nat → Prop), e = .returned (.tuple #[.int .u32 (a : Int), .int .i64 0]) ∧ Aside (Got (Mdl.empty 3 100) 0 (Rf.M 1) a M) ∧ St w' S F' M ∧ Wf F F' u w') := fun u S F su => by
    have : Calls Tryz.prog 27 #[.pointer (some ⟨S, 0, none⟩), .int .i64 1] u _ := var_op su (i := 1) (by decide)
    refine this.mono ?_
    rintro e w' ⟨a, er, M', F', rfl, t, s', g⟩
    rcases t with ⟨rfl, t⟩ | ⟨rfl, rfl, t⟩
    · exact ⟨a, M', F', rfl, t, s', g⟩
    · exact (t.never s'.ok (by decide)).elim
  have oeA : Aside (Mdl.empty 3 100).Ok := oe
  clear oe
  obtain ⟨q1, q2, q3, q4⟩ := num_known
  have q1A : Aside (countUpto (Rf.M 1) 8 = 4) := q1
  have q2A : Aside (supUpto (Rf.M 1) 8 = 2) := q2
  have q3A : Aside (oneN (Rf.M 1) = 2) := q3
  have q4A : Aside (oneB (Rf.M 1) = true) := q4
  clear q1 q2 q3 q4
  go_enter Tryz.func5, Tryz.ntmps5
  go_upto_region 5 with (first
    | (go_at_call 6; refine K1.mono ?_; clear K1; rintro e w1 ⟨S, F1, rfl, s1, b1, f1⟩; have K2 := KV.out w1 S F1 s1)
    | (go_at_call 27; refine K2.mono ?_; clear K2; rintro e w2 ⟨a, M, F2, rfl, g2, s2, wf2⟩))
  have n3 : M.n = 3 := g2.out.grew.n
  have r100 : M.room = 100 := g2.out.grew.room
  have an := g2.out.node
  have tA := g2.out.tbl
  have B2 : Aside (Below W.heap.size W w2) := Wf.far b1 wf2 b1.size f1
  have C1 : Aside (∀ u, St u S F2 M → Calls Tryz.prog 9 #[.pointer (some ⟨S, 0, none⟩), .int .u32 (a : Int)] u fun e w' => e = .returned (.tuple #[.int .u64 4, .int .i64 0]) ∧ Below u.heap.size u w') := fun u su => by
    have := count_op su an
    unfold tCnt at this
    rw [n3, cnt_congr (G := Rf.M 1) _ fun y hy => tA y (by simp at hy; omega)] at this
    rw [show (2 : Nat) ^ 3 = 8 from rfl, q1A.out] at this
    exact this
  have C2 : Aside (∀ u, St u S F2 M → Calls Tryz.prog 10 #[.pointer (some ⟨S, 0, none⟩), .int .u32 (a : Int)] u fun e w' => e = .returned (.tuple #[.int .u8 2, .int .i64 0]) ∧ Below u.heap.size u w') := fun u su => by
    have := support_op su an
    unfold tSup at this
    rw [sup_congr tA, q2A.out] at this
    exact this
  have C3 : Aside (∀ u, St u S F2 M → Calls Tryz.prog 12 #[.pointer (some ⟨S, 0, none⟩), .int .u32 (a : Int)] u fun e w' => e = .returned (.tuple #[.int .u8 2, .bool true, .int .i64 0]) ∧ Below u.heap.size u w') := fun u su => by
    have := one_op su an
    have h3 := q3A.out
    have h4 := q4A.out
    unfold oneN at h3
    unfold oneB at h4
    unfold oneN oneB at this
    rw [lst_congr tA, h3, h4] at this
    exact this
  have C4 : Aside (∀ u, St u S F2 M → Calls Tryz.prog 9 #[.pointer (some ⟨S, 0, none⟩), .int .u32 999] u fun e w' => e = .returned (.tuple #[.int .u64 0, .int .i64 101]) ∧ w' = u) := fun u su => by
    have := count_bad (h := 999) su (by omega) fun h => by have := su.nodes h; omega
    exact this
  have ab := Mdl.isNode_lt s2.ok an
  have C5 : Aside (∀ u, St u S F2 M → Calls Tryz.prog 14 #[.pointer (some ⟨S, 0, none⟩), .slice (some ⟨u.heap.size, 0, none⟩) 3 3] (u.alloc (.cells #[.int .u32 (a : Int), .int .u32 1, .int .u32 (a : Int)] 32)) fun e w' => e = .returned (.tuple #[.int .i64 1, .int .i64 0]) ∧ Below (u.alloc (.cells #[.int .u32 (a : Int), .int .u32 1, .int .u32 (a : Int)] 32)).heap.size (u.alloc (.cells #[.int .u32 (a : Int), .int .u32 1, .int .u32 (a : Int)] 32)) w') := fun u su => by
    have hN : ∀ i, i < 3 → M.isNode ((fun i => if i = 0 then a else if i = 1 then 1 else a) i) := fun i hi => by
      show M.isNode (if i = 0 then a else if i = 1 then 1 else a)
      split
      · exact an
      · split
        · exact .inl (by omega)
        · exact an
    have := size_op (cap := 3) (su.below (nb u (.cells #[.int .u32 (a : Int), .int .u32 ((1 : Nat) : Int), .int .u32 (a : Int)] 32))) (hs3 u a 1 a) (fun i hi => Nat.lt_trans (Mdl.isNode_lt su.ok (hN i hi)) (by decide)) (by omega)
    refine this.mono ?_
    rintro e w' ⟨⟨_, ks, nd, r, rfl⟩ | ⟨⟨i, hi, bad⟩, _⟩, B⟩
    · have e1 := var_alone (i := 1) oeA.out su.ok rfl (by decide) g2.out r nd ⟨0, by omega, rfl⟩
      rw [e1]
      exact ⟨rfl, B⟩
    · exact absurd (hN i hi) bad
  have sA : Aside (∀ u, Below w2.heap.size w2 u → St u S F2 M) := fun u k => s2.below k
  have K3 := C1.out w2 s2
  clear b1 s1 f1 wf2 g2 n3 r100 an tA ab s2 KV
  go_upto_region 9 with (first
    | (go_at_call 9; refine K3.mono ?_; clear K3; rintro e w3 ⟨rfl, b3⟩; have K4 := C2.out w3 (sA.out w3 b3))
    | (go_at_call 10; refine K4.mono ?_; clear K4; rintro e w4 ⟨rfl, b4⟩; have b4' := Rf.below_far b3 b4; have K5 := C3.out w4 (sA.out w4 b4'))
    | (go_at_call 12; refine K5.mono ?_; clear K5; rintro e w5 ⟨rfl, b5⟩; have b5' := Rf.below_far b4' b5; have K6 := C4.out w5 (sA.out w5 b5'))
    | (go_at_call 9; refine K6.mono ?_; clear K6; rintro e w5 ⟨rfl, rfl⟩))
  have K7 := C5.out _ (sA.out _ b5')
  have B5 : Aside (Below W.heap.size W w5) := Rf.below_far B2.out b5'
  clear C1 C2 C3 C4 C5 sA b3 b4 b4' b5 b5'
  go_wp2_with (first
    | (go_at_call 14; refine K7.mono ?_; clear K7; rintro e w6 ⟨rfl, b6⟩))
  go_ret
  exact ⟨rfl, Rf.below_far (Rf.below_far B5.out (nb w5 _)) b6⟩
end Go.Proofs.YtdmfnhnlilkijaaGreat
