/-
  CountHalves, walked.
-/
import Derived.Test.YtdmfnhnlilkijaaGreatCtK
namespace Go.Proofs.YtdmfnhnlilkijaaGreat
open Go Go.RowKit
open Rf (tab word IsTab countUpto)

theorem hs_mem {l : List Nat} {i : Nat} (h : i < l.length) : l.getD i 0 ∈ l := by
  rw [List.getD_eq_getElem?_getD, List.getElem?_eq_getElem h, Option.getD_some]
  exact List.getElem_mem h
theorem cnt_ends {M : Mdl} (o : M.Ok) {h N : Nat} (hN : 2 ^ M.n = N) (h8 : N = 256) (hm : h ∈ M.hs) : tCnt M h ≠ 0 ∧ tCnt M h ≠ N := by
  unfold tCnt
  rw [hN]
  refine ⟨fun e => ne_cst o hm (.inl fun x hx => ?_), fun e => ne_cst o hm (.inr fun x hx => ?_)⟩
  · exact cnt_none e x (by omega)
  · exact cnt_all e x (by omega)
set_option maxRecDepth 100000 in
set_option maxHeartbeats 4000000 in
theorem halves_walk (F : Nat → Bool) (W : World) :
    Calls Tryz.prog 4 #[tab F] W fun e w' => e = .returned (.bool true) ∧ Below W.heap.size W w' := by
  conv in #[tab F] => unfold tab
  go_enter Tryz.func4, Tryz.ntmps4
  go_upto_region 1 with fail
  have TF := IsTab.new W F
  have B3 := nb W (.cells #[.int .u64 (word F 0 : Int), .int .u64 (word F 1 : Int), .int .u64 (word F 2 : Int), .int .u64 (word F 3 : Int)] 24)
  generalize W.alloc (.cells #[.int .u64 (word F 0 : Int), .int .u64 (word F 1 : Int), .int .u64 (word F 2 : Int), .int .u64 (word F 3 : Int)] 24) = v3 at TF B3 ⊢
  have B3A : Aside (Below W.heap.size W v3) := B3
  clear B3
  generalize W.heap.size = bf at TF ⊢
  have Kk := nknown_any v3
  go_upto_region 3 with (first
    | (go_at_call 5; refine Kk.mono ?_; clear Kk; rintro e v4 ⟨rfl, b4⟩))
  have TF4 := kept TF b4
  have Kn : Calls Tryz.prog 6 #[.int .i64 8, .int .i64 200] v4 _ := new_x W v4 8 200 (by omega) (by omega) (by omega) (by omega) (Rf.below_far B3A.out b4)
  clear TF B3A b4
  go_upto_region 6 with (first
    | (go_at_call 6; refine Kn.mono ?_; clear Kn; rintro e w5 ⟨S, rfl, f5, x5, b5⟩))
  have TF5 := kept TF4 b5
  have K1 := make_x x5 (by omega) F
  clear TF4 b5 f5
  unfold tab at K1
  obtain ⟨y0, y1, y2, y3⟩ := TF5.copy
  go_upto_region 7 with (first
    | (go_at_call 8; refine K1.mono ?_; clear K1; rintro e w6 ⟨a, rfl, x6, u6⟩))
  clear y0 y1 y2 y3 TF5 x5 u6
  obtain ⟨F0, M, s, e1, e2, e3, q, B, f⟩ := x6
  have o := s.ok
  have K2 := s_all s
  have ll : M.hs.length ≤ 200 := by have := o.len; omega
  have BA : Aside (Below W.heap.size W w6) := B
  have inn : Aside (∀ i, i < M.hs.length → M.hs.getD i 0 ∈ M.hs) := fun i hi => hs_mem hi
  have oA : Aside M.Ok := o
  have n8 : Aside (M.n = 8) := e1
  clear e1 e2 e3 q f B o
  go_wp2_with (first
    | (go_at_call 24; refine K2.mono ?_; clear K2; rintro e w7 ⟨g, rfl, row7, b7, _⟩))
  have sA : Aside (∀ u, Below w7.heap.size w7 u → St u S F0 M) := fun u k => (s.below b7).below k
  have rA : Aside (∀ u, Below w7.heap.size w7 u → u.rowIs g 32 M.hs.length (fun i => .int .u32 (M.hs.getD i 0 : Nat))) := fun u k => row7.of_block (k.block g row7.lt)
  have BW : Aside (∀ u, Below w7.heap.size w7 u → Below W.heap.size W u) := fun u k => Rf.below_far BA.out (Rf.below_far b7 k)
  clear row7 b7 s BA
  go_loopg [8, 9, 10, 11, 12, 13, 14] M.hs.length (fun gg s8 _ _ _ _ _ _ wr => ∃ i : Nat, i + gg = M.hs.length ∧ s8 = .int .i64 (i : Int) ∧ Aside (Below w7.heap.size w7 wr))
  case atStart => exact ⟨0, by omega, rfl, Below.refl _ _⟩
  case round =>
    obtain ⟨i, hi, rfl, hB⟩ := hrel
    have hI : Aside (i + gk = M.hs.length) := hi
    by_cases hlt : i < M.hs.length
    · have hlt' : (i : Int) < (M.hs.length : Int) := by omega
      have hm := inn.out i hlt
      have rC : Aside (∀ u, Below wr.heap.size wr u → u.cell? ⟨g, i, none⟩ = some (.int .u32 (M.hs.getD i 0 : Nat))) := fun u k => (rA.out u (Rf.below_far hB.out k)).cell hlt
      have cl := rC.out wr (Below.refl _ _)
      have o := oA.out
      have lo := (o.lo _ hm).1
      have hh := (o.hi _ hm).1
      have j1 := (cnt_join o hm).1
      have p8 : 2 ^ M.n = 256 := by rw [n8.out]
      obtain ⟨z0, z1⟩ := cnt_ends o p8 rfl hm
      have l1 := tCnt_le M (M.hs.getD i 0)
      have l2 := tCnt_le M (M.nd (M.hs.getD i 0)).2.1
      have l3 := tCnt_le M (M.nd (M.hs.getD i 0)).2.2
      rw [p8] at l1 l2 l3
      have j1' : 2 * tCnt M (M.hs.getD i 0) = tCnt M (M.nd (M.hs.getD i 0)).2.1 + tCnt M (M.nd (M.hs.getD i 0)).2.2 := j1
      have xb := Mdl.isNode_lt o (show M.isNode (M.hs.getD i 0) from .inr hm)
      have S0 : Aside (∀ u, Below wr.heap.size wr u → St u S F0 M) := fun u k => sA.out u (Rf.below_far hB.out k)
      have K1 := count_op (S0.out wr (Below.refl _ _)) (.inr hm)
      have KA : Aside (∀ u, Below wr.heap.size wr u → Calls Tryz.prog 25 #[.pointer (some ⟨S, 0, none⟩), .int .u32 (M.hs.getD i 0 : Nat)] u fun e w' => e = .returned (.int .u32 ((M.nd (M.hs.getD i 0)).2.1 : Int)) ∧ w' = u) := fun u k => by
        have := s_low (S0.out u k) (M.hs.getD i 0) (by omega)
        rwa [Mdl.lowN_in o hm] at this
      have KB : Aside (∀ u, Below wr.heap.size wr u → Calls Tryz.prog 26 #[.pointer (some ⟨S, 0, none⟩), .int .u32 (M.hs.getD i 0 : Nat)] u fun e w' => e = .returned (.int .u32 ((M.nd (M.hs.getD i 0)).2.2 : Int)) ∧ w' = u) := fun u k => by
        have := s_high (S0.out u k) (M.hs.getD i 0) (by omega)
        rwa [Mdl.highN_in o hm] at this
      have KC : Aside (∀ u, Below wr.heap.size wr u → Calls Tryz.prog 9 #[.pointer (some ⟨S, 0, none⟩), .int .u32 ((M.nd (M.hs.getD i 0)).2.1 : Int)] u fun e w' => e = .returned (.tuple #[.int .u64 (tCnt M (M.nd (M.hs.getD i 0)).2.1 : Int), .int .i64 0]) ∧ Below u.heap.size u w') := fun u k => count_op (S0.out u k) lo
      have KD : Aside (∀ u, Below wr.heap.size wr u → Calls Tryz.prog 9 #[.pointer (some ⟨S, 0, none⟩), .int .u32 ((M.nd (M.hs.getD i 0)).2.2 : Int)] u fun e w' => e = .returned (.tuple #[.int .u64 (tCnt M (M.nd (M.hs.getD i 0)).2.2 : Int), .int .i64 0]) ∧ Below u.heap.size u w') := fun u k => count_op (S0.out u k) hh
      generalize tCnt M (M.hs.getD i 0) = ca at K1 j1' z0 z1 l1
      generalize tCnt M (M.nd (M.hs.getD i 0)).2.1 = cb at KC j1' l2
      generalize tCnt M (M.nd (M.hs.getD i 0)).2.2 = cc at KD j1' l3
      generalize (M.nd (M.hs.getD i 0)).2.1 = xl at KA KC
      generalize (M.nd (M.hs.getD i 0)).2.2 = xh at KB KD
      generalize M.hs.getD i 0 = x at K1 KA KB rC cl
      have w1 : IntKind.u64.wrap (2 * (ca : Int)) = ((2 * ca : Nat) : Int) := by rw [IntKind.wrap_u64]; omega
      have w2 : IntKind.u64.wrap ((cb : Int) + (cc : Int)) = ((2 * ca : Nat) : Int) := by rw [IntKind.wrap_u64]; omega
      have w3 : 2 * (ca : Int) = (cb : Int) + (cc : Int) := by omega
      have d0 : ¬ (ca : Int) = 0 := by omega
      have d1 : ¬ (ca : Int) = 256 := by omega
      have d0' : ((ca : Int) == 0) = false := by simpa using d0
      have d1' : ((ca : Int) == 256) = false := by simpa using d1
      have hltA : Aside (i < M.hs.length) := hlt
      clear hi hlt hm o lo hh j1 j1' p8 z0 z1 xb l1
      go_wp2_with (first
        | (go_at_call 9; refine K1.mono ?_; clear K1; rintro e w8 ⟨rfl, b8⟩; clear cl; have cl := rC.out w8 b8; have K2 := KA.out w8 b8; have K3 := KC.out w8 b8)
        | (go_at_call 25; refine K2.mono ?_; clear K2; rintro e w8 ⟨rfl, rfl⟩)
        | (go_at_call 9; refine K3.mono ?_; clear K3; rintro e w9 ⟨rfl, b9⟩; have b9' := Rf.below_far b8 b9; clear cl; have cl := rC.out w9 b9'; have K4 := KB.out w9 b9'; have K5 := KD.out w9 b9')
        | (go_at_call 26; refine K4.mono ?_; clear K4; rintro e w9 ⟨rfl, rfl⟩)
        | (go_at_call 9; refine K5.mono ?_; clear K5; rintro e w10 ⟨rfl, b10⟩; have b10' := Rf.below_far b9' b10))
      go_roundg (gk - 1)
      case measure => have := hI.out; have := hltA.out; omega
      case rel =>
        have := hI.out
        have := hltA.out
        exact ⟨i + 1, by omega, by go_num, Rf.below_far hB.out b10'⟩
    · have e : i = M.hs.length := by omega
      have hlt' : ¬ (i : Int) < (M.hs.length : Int) := by omega
      clear hi hlt e
      go_wp2_with fail
      go_ret
      exact ⟨rfl, BW.out wr hB.out⟩
end Go.Proofs.YtdmfnhnlilkijaaGreat
