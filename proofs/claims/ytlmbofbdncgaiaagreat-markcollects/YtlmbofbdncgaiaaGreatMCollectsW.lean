/-
  MarkCollects, walked.
-/
import Derived.Test.YtlmbofbdncgaiaaGreatMkU
namespace Go.Proofs.YtlmbofbdncgaiaaGreat.Mk
open Go Go.RowKit
open Rf (tab word IsTab)
open Rf (gval gval_pos gval_neg does_val does_call does_if vok_plain vok_maybe x_move x_load x_bin x_un x_convert x_index x_call x_pick wp_region_vals)

set_option maxRecDepth 100000 in
set_option maxHeartbeats 4000000 in
theorem collects_walk (T : Nat → Nat → Bool) (K : Nat → Bool) (z : Int) (byR : Bool) (W : World) :
    Calls Tryz.prog 3 #[tab4 T, .int .u8 z, tab K, .bool byR] W fun e w' => e = .returned (.bool true) ∧ Below W.heap.size W w' := by
  conv in #[tab4 T, Value.int .u8 z, tab K, Value.bool byR] => unfold tab tab4
  go_enter Tryz.func3, Tryz.ntmps3
  go_upto_region 1 with fail
  have T4 := (IsT4.new W T)
  have b1 := (Below.refl _ W).alloc (Nat.le_refl _) (.cells #[.int .u64 (word (T 0) 0 : Int), .int .u64 (word (T 0) 1 : Int), .int .u64 (word (T 0) 2 : Int), .int .u64 (word (T 0) 3 : Int), .int .u64 (word (T 1) 0 : Int), .int .u64 (word (T 1) 1 : Int), .int .u64 (word (T 1) 2 : Int), .int .u64 (word (T 1) 3 : Int), .int .u64 (word (T 2) 0 : Int), .int .u64 (word (T 2) 1 : Int), .int .u64 (word (T 2) 2 : Int), .int .u64 (word (T 2) 3 : Int), .int .u64 (word (T 3) 0 : Int), .int .u64 (word (T 3) 1 : Int), .int .u64 (word (T 3) 2 : Int), .int .u64 (word (T 3) 3 : Int)] 25)
  have hsz1 : (W.alloc (.cells #[.int .u64 (word (T 0) 0 : Int), .int .u64 (word (T 0) 1 : Int), .int .u64 (word (T 0) 2 : Int), .int .u64 (word (T 0) 3 : Int), .int .u64 (word (T 1) 0 : Int), .int .u64 (word (T 1) 1 : Int), .int .u64 (word (T 1) 2 : Int), .int .u64 (word (T 1) 3 : Int), .int .u64 (word (T 2) 0 : Int), .int .u64 (word (T 2) 1 : Int), .int .u64 (word (T 2) 2 : Int), .int .u64 (word (T 2) 3 : Int), .int .u64 (word (T 3) 0 : Int), .int .u64 (word (T 3) 1 : Int), .int .u64 (word (T 3) 2 : Int), .int .u64 (word (T 3) 3 : Int)] 25)).heap.size = W.heap.size + 1 := by simp
  generalize hw1 : W.alloc (.cells #[.int .u64 (word (T 0) 0 : Int), .int .u64 (word (T 0) 1 : Int), .int .u64 (word (T 0) 2 : Int), .int .u64 (word (T 0) 3 : Int), .int .u64 (word (T 1) 0 : Int), .int .u64 (word (T 1) 1 : Int), .int .u64 (word (T 1) 2 : Int), .int .u64 (word (T 1) 3 : Int), .int .u64 (word (T 2) 0 : Int), .int .u64 (word (T 2) 1 : Int), .int .u64 (word (T 2) 2 : Int), .int .u64 (word (T 2) 3 : Int), .int .u64 (word (T 3) 0 : Int), .int .u64 (word (T 3) 1 : Int), .int .u64 (word (T 3) 2 : Int), .int .u64 (word (T 3) 3 : Int)] 25) = w1 at T4 b1 hsz1 ⊢
  clear hw1
  have TK := IsTab.new w1 K
  have T5 : IsT4 (w1.alloc (.cells #[.int .u64 (word K 0 : Int), .int .u64 (word K 1 : Int), .int .u64 (word K 2 : Int), .int .u64 (word K 3 : Int)] 24)) W.heap.size T := (Below.heap_alloc _ _ _ T4.lt).trans T4
  have B2 := Rf.below_far b1 (nb w1 (.cells #[.int .u64 (word K 0 : Int), .int .u64 (word K 1 : Int), .int .u64 (word K 2 : Int), .int .u64 (word K 3 : Int)] 24))
  rw [hsz1] at TK
  clear T4 b1
  generalize w1.alloc (.cells #[.int .u64 (word K 0 : Int), .int .u64 (word K 1 : Int), .int .u64 (word K 2 : Int), .int .u64 (word K 3 : Int)] 24) = v1 at TK T5 B2 ⊢
  have B1A : Aside (Below W.heap.size W v1) := B2
  clear B2 hsz1
  generalize W.heap.size + 1 = bk at TK ⊢
  generalize hbf : W.heap.size = bf at T5 ⊢
  have hbfA : Aside (W.heap.size = bf) := hbf
  clear hbf
  have t4A : Aside (∀ u, Below v1.heap.size v1 u → IsT4 u bf T) := fun u k => (k.block _ T5.lt).trans T5
  have tK : Aside (∀ u, Below v1.heap.size v1 u → IsTab u bk K) := fun u k => kept TK k
  clear T5 TK
  have Kk := known_any v1
  go_upto_region 3 with (first
    | (go_at_call 8; refine Kk.mono ?_; clear Kk; rintro e v2 ⟨rfl, b2⟩))
  have Kn : Calls Tryz.prog 9 #[.int .i64 8, .int .i64 330] v2 _ := s_new 8 330 v2 (by omega) (by omega) (by omega) (by omega)
  go_upto_region 9 with (first
    | (go_at_call 9; refine Kn.mono ?_; clear Kn; rintro e v3 ⟨S, F0, rfl, s3, b3, f3⟩))
  have s4 := s3.new (.cells #[.int .u32 0, .int .u32 0, .int .u32 0, .int .u32 0] 33)
  have h4 : H4 (v3.alloc (.cells #[.int .u32 0, .int .u32 0, .int .u32 0, .int .u32 0] 33)) v3.heap.size (fun _ => 0) := heap_alloc_new _ _
  have B3 := Rf.below_far b2 b3
  have B4 := Rf.below_far B3 (nb v3 (.cells #[.int .u32 0, .int .u32 0, .int .u32 0, .int .u32 0] 33))
  have f4 : ∀ k, F0 k → v1.heap.size ≤ k := fun k hk => Nat.le_trans b2.size (f3 k hk)
  have xA : ∀ b, b = v3.heap.size → ¬ F0 b ∧ b < (v3.alloc (.cells #[.int .u32 0, .int .u32 0, .int .u32 0, .int .u32 0] 33)).heap.size ∧ v1.heap.size ≤ b := fun b e => ⟨fun q => by have := s3.lt b q; omega, by rw [e, World.size_alloc]; omega, by rw [e]; exact B3.size⟩
  generalize v3.alloc (.cells #[.int .u32 0, .int .u32 0, .int .u32 0, .int .u32 0] 33) = v4 at s4 h4 B4 xA ⊢
  obtain ⟨bh, hbh⟩ : ∃ bh, v3.heap.size = bh := ⟨_, rfl⟩
  rw [hbh] at h4 xA ⊢
  clear hbh s3 B3 b2 b3 f3
  have Kr : Calls Tryz.prog 10 #[.int .i64 1] v4 _ := Rfx.start (X := fun b => b = bh) s4 B4 f4 xA 1 (by omega)
  clear s4 B4 f4 xA
  go_wp2_with (first
    | (go_at_call 10; refine Kr.mono ?_; clear Kr; rintro e v5 ⟨R, rfl, x5, y5⟩))
  have h5 : H4 v5 bh (fun _ => 0) := (y5 bh rfl).trans h4
  clear y5 h4
  have cp0 : Aside (Cp (Mdl.empty 8 330) T z (fun _ => 0) (fun _ => none) 0 0) := ⟨rfl, rfl, Nat.le_refl _, fun i hi => absurd hi (Nat.not_lt_zero _), Nat.le_refl _, fun k => ⟨Int.le_refl _, Int.le_refl _⟩, fun x => ⟨fun h => (by cases h), fun h => (by obtain ⟨i, hi, _⟩ := h; cases hi)⟩⟩
  go_loopg [12, 13, 15, 16, 17] 4 (fun g s12 s13 s15 _s16 _s17 wr => ∃ (j : Nat) (hv : Nat → Nat) (M : Mdl) (P : Int → Option Int) (m : Nat) (adk : Option Addr) (ck : Nat) (adt : Option Addr) (ct : Nat), j + g = 4 ∧ s12 = .slice adk (kl z j).length ck ∧ s13 = .slice adt (kl z j).length ct ∧ s15 = .int .i64 (j : Int) ∧ Aside (Cp M T z hv P m j) ∧ Aside (OwnR 32 wr v1.heap.size adk (kl z j).length ck (fun t => .int .u32 (hv ((kl z j).getD t 0) : Nat))) ∧ Aside (Rf.Own wr v1.heap.size adt ((kl z j).map T) ct) ∧ Aside (H4 wr bh (fun i => if i < j then (hv i : Int) else 0)) ∧ Aside (Rfx v1 wr S R m 1 M P (fun _ => []) (fun b => b = bh ∨ At adk b ∨ At adt b)))
  case atStart =>
    refine ⟨0, fun _ => 0, Mdl.empty 8 330, fun _ => none, 0, none, 0, none, 0, by omega, rfl, rfl, rfl, cp0, OwnR.nil _ _ _ _, ?_, h5, x5.less fun b hb => ?_⟩
    · exact World.ownsRow_nil _ _ _ _
    · rcases hb with e | ⟨a, ha, _⟩ | ⟨a, ha, _⟩
      · exact e
      · cases ha
      · cases ha
  case round =>
    obtain ⟨j, hv, M, P, m, adk, ck, adt, ct, hj, rfl, rfl, rfl, hC, hK, hT, hH, hX⟩ := hrel
    have hJ : Aside (j + gk = 4) := hj
    have hjn : j ≤ 4 := by omega
    clear hj cp0 x5 h5
    by_cases hlt : j < 4
    · have hlt' : (j : Int) < 4 := by omega
      have hjw : IntKind.i64.wrap ((j : Int) + 1) = (j : Int) + 1 := by rw [IntKind.wrap_i64]; omega
      have xr := hX.out
      have KM := xr.make (F := T j) hC.out.n (by have := hC.out.up; have := hC.out.room; omega)
      obtain ⟨c0, c1, c2, c3⟩ := (t4A.out wr xr.base).cells hlt
      unfold tab at KM
      clear xr
      go_upto_region 16 with (first
        | (go_at_call 11; refine KM.mono ?_; clear KM; rintro e w6 ⟨x, M6, rfl, m6, up6, x6, y6⟩))
      have h6 : H4 w6 bh (fun i => if i < j then (hv i : Int) else 0) := (y6 bh (.inl rfl)).trans hH.out
      have d6 := h6.cell hlt
      have e6 := h6.free j
      have h7 := h6.set hlt (x : Int)
      have k6 := hK.out.kept fun b hb => y6 b (.inr (.inl hb))
      have l6 := hT.out.keep fun b hb => y6 b (.inr (.inr hb))
      have q7 : Went (fun b => b = bh) w6 (w6.setCell ⟨bh, j, none⟩ (.int .u32 (x : Int))) := Went.set (S := fun b => b = bh) rfl _ _
      have x7 := x6.turn (X' := fun b => b = bh ∨ At adk b ∨ At adt b) q7 (fun b e => .inl e) (fun b e => .inl e)
      clear y6
      have up7 : M6.up ≤ M.up + 63 := up6
      have mA : Aside (MadeIs M 0 (T j) x M6 ∧ M6.up ≤ M.up + 63) := ⟨m6, up6⟩
      have oM : Aside M.Ok := hX.out.ok
      clear m6 up6 up7 x6
      have h8 : H4 (w6.setCell ⟨bh, j, none⟩ (.int .u32 (x : Int))) bh (fun i => if i < j + 1 then (put1 hv j x i : Int) else 0) := box_next h7
      have ka : ¬ At adk bh := k6.apart (show w6.heap[bh]? = some (.cells _ 33 (0, 0)) from h6) (by decide)
      have la : ¬ At adt bh := tabs_apart l6 (show w6.heap[bh]? = some (.cells _ 33 (0, 0)) from h6) (by decide)
      have k7 := k6.kept (w' := w6.setCell ⟨bh, j, none⟩ (.int .u32 (x : Int))) fun b hb => q7.block b (k6.block b hb).2 fun e => ka (e ▸ hb)
      have l7 := l6.keep (w' := w6.setCell ⟨bh, j, none⟩ (.int .u32 (x : Int))) fun b hb => q7.block b (l6.lt b hb).2 fun e => la (e ▸ hb)
      clear ka la
      clear h6 h7 k6 l6 q7
      go_upto_region 17 with fail
      cases hb : rbit z j with
      | false =>
        have hb' : (bits BinOp.and IntKind.u8 (z / 2 ^ j) 1 == 1) = false := hb
        have k8A := toA (keep_no (x := x) k7 hb)
        have l8A := toA (kept_no l7 hb)
        have c8A := toA (hC.out.no oM.out mA.out.1 mA.out.2 hb)
        have x8A := toA x7
        have h8A := toA h8
        have hbA := toA hb
        clear hb
        clear k7 l7 x7 h8
        generalize w6.setCell ⟨bh, j, none⟩ (.int .u32 (x : Int)) = w7 at k8A l8A x8A h8A ⊢
        go_wp2_with fail
        go_roundg (gk - 1)
        case measure => have := hJ.out; omega
        case rel =>
          have hj := hJ.out
          rw [← kl_no hbA.out]
          exact ⟨j + 1, put1 hv j x, M6, P, m, adk, ck, adt, ct, by omega, rfl, rfl, by go_num, c8A, k8A, l8A, h8A, x8A⟩
      | true =>
        have hb' : (bits BinOp.and IntKind.u8 (z / 2 ^ j) 1 == 1) = true := hb
        have c8A := toA (hC.out.yes oM.out mA.out.1 mA.out.2 hb)
        have cntA := toA (hC.out.cnt (x : Int))
        have fewA := toA hC.out.few
        have hbA := toA hb
        have x8A := toA x7
        have h8A := toA h8
        have k8A := toA k7
        have l8A := toA l7
        clear hb k7 l7 x7 h8 mA oM
        generalize w6.setCell ⟨bh, j, none⟩ (.int .u32 (x : Int)) = w7 at k8A l8A x8A h8A ⊢
        go_upto_region 18 with fail
        have bfl : bf < v1.heap.size := (t4A.out v1 (Below.refl _ _)).lt
        have bxA := toA (x8A.out.base)
        obtain ⟨c0, c1, c2, c3⟩ := (t4A.out w7 x8A.out.base).cells hlt
        have hkl := kl_len z j
        refine grow_region (Bk := v1.heap.size) (adk := adk) (adt := adt) (nk := (kl z j).length) (ck := ck) (ct := ct) (ts := (kl z j).map T) (i := j) (bq := bf) (x := x) (F := T j) (show 70 ≤ 202 by omega) rfl rfl (by rw [List.length_map]; rfl) rfl rfl hlt k8A.out l8A.out x8A.out.base.size (by omega) (by rw [List.length_map]; omega) (rows_apart k8A.out l8A.out) (fun k hk => ?_) (Nat.lt_of_lt_of_le bfl x8A.out.base.size) (fun e => ?_) ?_
        · have : k = 0 ∨ k = 1 ∨ k = 2 ∨ k = 3 := by omega
          rcases this with rfl | rfl | rfl | rfl
          · exact c0
          · exact c1
          · exact c2
          · exact c3
        · rcases e with e | e
          · have := (k8A.out.block bf e).1; omega
          · have := (l8A.out.lt bf e).1; omega
        intro b2 b8 g c g' c' w8 o3 h3 o9 h9 q8
        simp only [Rf.vfin, Act.put, List.setIfInBounds_toArray, List.set_cons_succ, List.set_cons_zero, List.length_map]
        have ka : ¬ At adk bh := k8A.out.apart (show w7.heap[bh]? = some (.cells _ 33 (0, 0)) from h8A.out) (by decide)
        have la : ¬ At adt bh := tabs_apart l8A.out (show w7.heap[bh]? = some (.cells _ 33 (0, 0)) from h8A.out) (by decide)
        have h9A := toA (show H4 w8 bh (fun i => if i < j + 1 then (put1 hv j x i : Int) else 0) from (q8.block bh (Array.getElem?_eq_some_iff.1 h8A.out).1 (fun e => e.elim ka la)).trans h8A.out)
        have x9 := x8A.out.turn (X' := fun b => b = bh ∨ At (some ⟨g, 0, none⟩) b ∨ At (some ⟨g', 0, none⟩) b) q8 (fun b e => .inr e) (fun b e => by
          rcases e with e | e | e
          · exact .inl (.inl e)
          · obtain ⟨_, q, rfl⟩ := e
            cases q
            rcases h3 with h3 | h3
            · exact .inl (.inr (.inl h3))
            · exact .inr ⟨h3, (o3.block g ⟨_, rfl, rfl⟩).2⟩
          · obtain ⟨_, q, rfl⟩ := e
            cases q
            rcases h9 with h9 | h9
            · exact .inl (.inr (.inr h9))
            · exact .inr ⟨h9, (o9.lt g' ⟨_, rfl, rfl⟩).2⟩)
        have KP := x9.protect (x : Int) _ rfl cntA.out.1 (by have := cntA.out.2; have := fewA.out; omega)
        have o3A := toA (keep_yes o3 hbA.out)
        have o9A := toA (kept_yes o9 hbA.out)
        have hl1 : (kl z j).length + 1 = (kl z (j + 1)).length := by rw [kl_yes hbA.out, List.length_append, List.length_singleton]
        have hl1A := toA hl1
        clear hl1 ka la x9 o3 h3 o9 h9 q8 x8A h8A k8A l8A c0 c1 c2 c3 bxA hkl bfl cntA fewA hb'
        go_wp2_with (first
          | (go_at_call 12; refine KP.mono ?_; clear KP; rintro e w9 ⟨rfl, x9, y9⟩; have x9A := toA x9; have y9A := toA y9; clear x9 y9))
        go_roundg (gk - 1)
        case measure => have := hJ.out; omega
        case rel =>
          have hj := hJ.out
          have y9 := y9A.out
          rw [hl1A.out]
          exact ⟨j + 1, put1 hv j x, M6, _, m + 1, some ⟨g, 0, none⟩, c, some ⟨g', 0, none⟩, c', by omega, rfl, rfl, by go_num, c8A, o3A.out.kept (fun b hb => y9 b (.inr (.inl hb))), o9A.out.keep (fun b hb => y9 b (.inr (.inr hb))), (y9 bh (.inl rfl)).trans h9A.out, x9A⟩
    · obtain rfl : j = 4 := by omega
      have hl : (kl z 4).length = ((kl z 4).map T).length := (List.length_map _).symm
      have rtA := toA hC.out.rts
      have upA := toA hC.out.up
      have nA := toA hC.out.n
      have rmA := toA hC.out.room
      have fewA := toA hC.out.few
      have oA := toA hX.out.ok
      have kH := HsAt.own hK.out
      have kT := hT.out
      have apA := toA (rows_apart hK.out hT.out)
      rw [hl] at kH ⊢
      clear hl hK hT hC hJ hjn hlt
      obtain ⟨ts, hts⟩ : ∃ ts, (kl z 4).map T = ts := ⟨_, rfl⟩
      obtain ⟨H, hHH⟩ : ∃ H : Nat → Nat, (fun t => hv ((kl z 4).getD t 0)) = H := ⟨_, rfl⟩
      rw [hts] at kH kT rtA ⊢
      rw [hHH] at kH rtA
      clear hts hHH
      have allA : Aside (∀ u, Stay (fun b => b = bh ∨ At adk b ∨ At adt b) wr u → HsAt u adk ts.length H ∧ Rf.Own u v1.heap.size adt ts ct ∧ H4 u bh (fun i => if i < 4 then (hv i : Int) else 0)) := fun u k => ⟨kH.stay fun b hb => k b (.inr (.inl hb)), kT.keep fun b hb => k b (.inr (.inr hb)), (k bh (.inl rfl)).trans hH.out⟩
      clear kH kT hH
      have few : ts.length ≤ 4 := rtA.out.few
      have KL := hX.out.len'
      go_upto_region 21 with (first
        | (go_at_call 13; refine KL.mono ?_; clear KL; rintro e w1 ⟨rfl, b1⟩))
      obtain ⟨x1, y1⟩ := hX.out.below b1
      have KR := x1.reach (cap := ck) (allA.out w1 y1).1 (fun i hi => (rtA.out.roots.here i hi).1) (by omega)
      have y1A := toA y1
      clear hX b1 x1 y1
      go_upto_region 22 with (first
        | (go_at_call 14; refine KR.mono ?_; clear KR; rintro e w2 ⟨adr, cr, xs, rfl, rc, up, o2, x2, y2⟩))
      obtain ⟨X2, hX2⟩ : ∃ X2 : Nat → Prop, (fun b => (b = bh ∨ At adk b ∨ At adt b) ∨ At adr b) = X2 := ⟨_, rfl⟩
      have kt2 : Aside (∀ b, At adt b → X2 b) := fun b hb => by rw [← hX2]; exact .inl (.inr (.inr hb))
      have kk2 : Aside (∀ b, At adk b → X2 b) := fun b hb => by rw [← hX2]; exact .inl (.inr (.inl hb))
      have rcA := toA (And.intro rc up)
      have alA : Aside (∀ u, Stay X2 w2 u → HsAt u adr xs.length (fun i => xs.getD i 0) ∧ HsAt u adk ts.length H ∧ Rf.Own u v1.heap.size adt ts ct ∧ H4 u bh (fun i => if i < 4 then (hv i : Int) else 0)) := fun u k => by
        rw [← hX2] at k
        exact ⟨(HsAt.own o2).stay fun b hb => k b (.inr hb), allA.out u ((y1A.out.trans y2).trans fun b hb => k b (.inl hb))⟩
      rw [hX2] at x2
      have esA := toA (rtA.out.roots.size oA.out rc up)
      clear hX2 allA y1A y2 o2 rc up
      have xlen : xs.length ≤ 400 := by
        have h1 := nodup_lenN xs M.hs rcA.out.1.once rcA.out.1.inn
        have h2 := oA.out.len
        have h3 := rmA.out
        omega
      have mlen : M.hs.length ≤ 400 := by
        have h2 := oA.out.len
        have h3 := rmA.out
        omega
      have KO := x2.order
      have x2A := toA x2
      clear x2
      go_upto_region 23 with (first
        | (go_at_call 16; refine KO.mono ?_; clear KO; rintro e w3 ⟨P3, l3, rfl, o3, b3⟩; have KA := Od.all_any o3 oA.out.le8)
        | (go_at_call 17; refine KA.mono ?_; clear KA; rintro e w4 ⟨rfl, r4, b4⟩; have b5 := Rf.below_far b3 b4; have KS := size_here (c := ct) oA.out (alA.out w4 (x2A.out.below b5).2).2.2.1.tabs r4 (by omega); rw [← esA.out] at KS)
        | (go_at_call 15; refine KS.mono ?_; clear KS; rintro e w5 ⟨rfl, b6⟩))
      obtain ⟨x5, y5⟩ := x2A.out.below (Rf.below_far b5 b6)
      have x5A := toA x5
      have y5A := toA y5
      clear x5 y5 b3 b4 b5 b6 o3 r4 esA x2A
      have hw : IntKind.i64.wrap ((M.hs.length : Int) - (xs.length : Int)) = (M.hs.length : Int) - (xs.length : Int) := by rw [IntKind.wrap_i64]; omega
      have hwA := toA hw
      clear hw
      go_upto_if 94 with fail
      go_cut [10, 21] from 28 (fun s10 s21 w => s10 = .int .i64 0 ∧ s21 = .int .i64 ((M.hs.length : Int) - (xs.length : Int)) ∧ Aside (Rfx v1 w S R m 1 (only M xs) P (fun _ => []) X2) ∧ Aside (Stay X2 w2 w))
      case first =>
        have KC := x5A.out.collect (cap := ck) (alA.out w5 y5A.out).2.1 (fun i hi => (rtA.out.roots.here i hi).1) (by omega)
        have KW := x5A.out.sweep (by have := fewA.out; show m + 0 ≤ _; omega) rtA.out.node
        clear hwA xlen mlen
        cases byR with
        | true =>
          go_wp2_with (first
            | (go_at_call 18; refine KW.mono ?_; clear KW; rintro e w6 ⟨ys, k, H', rfl, q1, q2, rc', up', x6, y6⟩; obtain rfl : ys = xs := rtA.out.swept oA.out rcA.out.1 rcA.out.2 rc' up' q1 q2; have x6A := toA x6; have y6A := toA (y5A.out.trans y6); clear q1 q2 rc' up' x6 y6))
          go_meet
          case rel => exact ⟨rfl, rfl, x6A, y6A⟩
        | false =>
          go_wp2_with (first
            | (go_at_call 19; refine KC.mono ?_; clear KC; rintro e w6 ⟨ys, rfl, rc', up', x6, y6⟩; obtain rfl : ys = xs := Rch.same' oA.out rcA.out.1 rcA.out.2 rc' up'; have x6A := toA x6; have y6A := toA (y5A.out.trans y6); clear rc' up' x6 y6))
          go_meet
          case rel => exact ⟨rfl, rfl, x6A, y6A⟩
      case rest =>
        obtain ⟨rfl, rfl, x6A, y6A⟩ := hcut
        have hw := hwA.out
        have KA := x6A.out.all_only
        go_upto_region 32 with (first
          | (go_at_call 21; refine KA.mono ?_; clear KA; rintro e w7 ⟨ada, ca, rfl, hs7, b7⟩; have KH := handles_true (c := ca) (d := cr) hs7 (alA.out w7 (y6A.out.trans (x6A.out.below b7).2)).1 (by omega); clear hs7)
          | (go_at_call 20; refine KH.mono ?_; clear KH; rintro e w8 ⟨rfl, b8⟩; have x8 := (x6A.out.below (Rf.below_far b7 b8)); have KN := x8.1.once)
          | (go_at_call 22; refine KN.mono ?_; clear KN; rintro e w9 ⟨rfl, b9⟩; have x9 := x8.1.below b9; have x9A := toA x9.1; have y9A := toA ((y6A.out.trans x8.2).trans x9.2); clear x8 x9 b7 b8 b9))
        clear x6A y6A hw hwA xlen mlen
        go_loopg [22] 4 (fun g s22 wq => ∃ j : Nat, j + g = 4 ∧ s22 = .int .i64 (j : Int) ∧ Aside (Rfx v1 wq S R m 1 (only M xs) P (fun _ => []) X2) ∧ Aside (Stay X2 w2 wq))
        case atStart => exact ⟨0, by omega, rfl, x9A, y9A⟩
        case round =>
          obtain ⟨j, hj, rfl, hX, hY⟩ := hrel
          have hJ : Aside (j + gk = 4) := hj
          have hjn : j ≤ 4 := by omega
          clear hj x9A y9A
          by_cases hlt : j < 4
          · have hlt' : (j : Int) < 4 := by omega
            have hjw : IntKind.i64.wrap ((j : Int) + 1) = (j : Int) + 1 := by rw [IntKind.wrap_i64]; omega
            have sA : Aside (∀ u, Stay X2 w2 u → Below v1.heap.size v1 u → u.cell? ⟨bh, j, none⟩ = some (.int .u32 (hv j : Int)) ∧ u.cell? ⟨bf, j * 4, none⟩ = some (.int .u64 (word (T j) 0 : Int)) ∧ u.cell? ⟨bf, j * 4 + 1, none⟩ = some (.int .u64 (word (T j) 1 : Int)) ∧ u.cell? ⟨bf, j * 4 + 2, none⟩ = some (.int .u64 (word (T j) 2 : Int)) ∧ u.cell? ⟨bf, j * 4 + 3, none⟩ = some (.int .u64 (word (T j) 3 : Int))) := fun u k1 k2 => by
              have d := (alA.out u k1).2.2.2.cell hlt
              rw [if_pos hlt] at d
              exact ⟨d, (t4A.out u k2).cells hlt⟩
            obtain ⟨b, hb⟩ : ∃ b, rbit z j = b := ⟨_, rfl⟩
            have rB : ∀ w, (binOp .eql 5 (.int .u8 (bits .and .u8 (z / 2 ^ j) 1)) (.int .u8 1)).run Tryz.prog w = .ok (.bool b) w := fun w => by rw [← hb]; exact r_eql _ w
            have ndA : Aside (b = true → (only M xs).isNode (hv j) ∧ Eqt ((only M xs).tbl (hv j)) (T j)) := fun e => by
              obtain ⟨t, ht, e1, e2⟩ := rtA.out.bit j hlt (hb.trans e)
              have nd := (rtA.out.roots.kept oA.out rcA.out.1 rcA.out.2).here t ht
              rwa [e1, e2] at nd
            clear hb
            go_upto_region 34 with fail
            refine wp_region_vals (fun u => Rfx v1 u S R m 1 (only M xs) P (fun _ => []) X2 ∧ Stay X2 w2 u) [(132, .int .u8 z), (133, .int .i64 (j : Int)), (134, .int .u64 (j : Int)), (135, .int .u8 (z / 2 ^ j)), (136, .int .u8 (bits .and .u8 (z / 2 ^ j) 1)), (137, .bool b), (138, .bool b), (139, gval b true (.pointer (some ⟨S, 0, none⟩))), (140, gval b true (.int .i64 (j : Int))), (141, gval b true (.pointer (some ⟨bh, j, none⟩))), (142, gval b true (.int .u32 (hv j : Int))), (143, gval b true (.int .i64 (j : Int))), (144, gval b true (.pointer (some ⟨bf, j * 4, none⟩))), (145, gval b true (tab (T j))), (146, gval b true (.bool true)), (147, gval b true (.bool false)), (148, .bool false)] [132, 133, 134, 135, 136, 137, 138, 139, 140, 141, 142, 143, 144, 145, 146, 147, 148] 202 (by kernel_rfl) (by kernel_rfl) rfl rfl (by decide) rfl (by decide) ?_ ?_ ?_
            · have x := hX.out.below (w' := wr.drew) ⟨rfl, rfl, rfl, Nat.le_refl _, fun _ _ => rfl⟩
              exact ⟨x.1, hY.out.trans x.2⟩
            · intro i kk hkk
              match i, hkk with
              | 0, hk => obtain rfl := Option.some.inj hk; exact vok_plain _ rfl rfl rfl (does_val rfl fun ac u hG hL => x_move rfl ((hG.other 1 (by decide)).trans rfl))
              | 1, hk => obtain rfl := Option.some.inj hk; exact vok_plain _ rfl rfl rfl (does_val rfl fun ac u hG hL => x_move rfl ((hG.other 22 (by decide)).trans rfl))
              | 2, hk => obtain rfl := Option.some.inj hk; exact vok_plain _ rfl rfl rfl (does_val rfl fun ac u hG hL => x_convert rfl (hL ⟨1, .data⟩ (by simp) rfl _ rfl) (r_conv hlt u))
              | 3, hk => obtain rfl := Option.some.inj hk; exact vok_plain _ rfl rfl rfl (does_val rfl fun ac u hG hL => x_bin rfl (hL ⟨0, .data⟩ (by simp) rfl _ rfl) (hL ⟨2, .data⟩ (by simp) rfl _ rfl) (g_bin _ _ _ _ _ _ _ _) (r_shr z hlt u))
              | 4, hk => obtain rfl := Option.some.inj hk; exact vok_plain _ rfl rfl rfl (does_val rfl fun ac u hG hL => x_bin rfl (hL ⟨3, .data⟩ (by simp) rfl _ rfl) rfl (g_bin _ _ _ _ _ _ _ _) (r_and _ u))
              | 5, hk => obtain rfl := Option.some.inj hk; exact vok_plain _ rfl rfl rfl (does_val rfl fun ac u hG hL => x_bin rfl (hL ⟨4, .data⟩ (by simp) rfl _ rfl) rfl (g_bin _ _ _ _ _ _ _ _) (rB u))
              | 6, hk => obtain rfl := Option.some.inj hk; exact vok_plain _ rfl rfl rfl (does_val rfl fun ac u hG hL => x_move rfl (hL ⟨5, .data⟩ (by simp) rfl _ rfl))
              | 7, hk => obtain rfl := Option.some.inj hk; exact vok_maybe _ rfl rfl 6 true 138 b rfl ⟨⟨6, .guard⟩, by simp, rfl, rfl⟩ rfl (fun e => gval_neg e) (fun e => does_if e (does_val rfl fun ac u hG hL => x_move rfl ((hG.other 9 (by decide)).trans rfl)))
              | 8, hk => obtain rfl := Option.some.inj hk; exact vok_maybe _ rfl rfl 6 true 138 b rfl ⟨⟨6, .guard⟩, by simp, rfl, rfl⟩ rfl (fun e => gval_neg e) (fun e => does_if e (does_val rfl fun ac u hG hL => x_move rfl ((hG.other 22 (by decide)).trans rfl)))
              | 9, hk => obtain rfl := Option.some.inj hk; exact vok_maybe _ rfl rfl 6 true 138 b rfl ⟨⟨6, .guard⟩, by simp, rfl, rfl⟩ rfl (fun e => gval_neg e) (fun e => does_if e (does_val rfl fun ac u hG hL => x_index rfl ((hG.other 11 (by decide)).trans rfl) ((hL ⟨8, .data⟩ (by simp) rfl _ rfl).trans (gval_pos e)) (r_idxH bh hlt u)))
              | 10, hk => obtain rfl := Option.some.inj hk; exact vok_maybe _ rfl rfl 6 true 138 b rfl ⟨⟨6, .guard⟩, by simp, rfl, rfl⟩ rfl (fun e => gval_neg e) (fun e => does_if e (does_val rfl fun ac u hG hL => x_load rfl ((hL ⟨9, .data⟩ (by simp) rfl _ rfl).trans (gval_pos e)) (r_loadH (sA.out u hG.here.2 hG.here.1.base).1)))
              | 11, hk => obtain rfl := Option.some.inj hk; exact vok_maybe _ rfl rfl 6 true 138 b rfl ⟨⟨6, .guard⟩, by simp, rfl, rfl⟩ rfl (fun e => gval_neg e) (fun e => does_if e (does_val rfl fun ac u hG hL => x_move rfl ((hG.other 22 (by decide)).trans rfl)))
              | 12, hk => obtain rfl := Option.some.inj hk; exact vok_maybe _ rfl rfl 6 true 138 b rfl ⟨⟨6, .guard⟩, by simp, rfl, rfl⟩ rfl (fun e => gval_neg e) (fun e => does_if e (does_val rfl fun ac u hG hL => x_index rfl ((hG.other 4 (by decide)).trans rfl) ((hL ⟨11, .data⟩ (by simp) rfl _ rfl).trans (gval_pos e)) (r_idxF bf hlt u)))
              | 13, hk => obtain rfl := Option.some.inj hk; exact vok_maybe _ rfl rfl 6 true 138 b rfl ⟨⟨6, .guard⟩, by simp, rfl, rfl⟩ rfl (fun e => gval_neg e) (fun e => does_if e (does_val rfl fun ac u hG hL => x_load rfl ((hL ⟨12, .data⟩ (by simp) rfl _ rfl).trans (gval_pos e)) (r_loadF (sA.out u hG.here.2 hG.here.1.base).2)))
              | 14, hk => obtain rfl := Option.some.inj hk; exact vok_maybe _ rfl rfl 6 true 138 b rfl ⟨⟨6, .guard⟩, by simp, rfl, rfl⟩ rfl (fun e => gval_neg e) (fun e => does_if e (does_call #[.pointer (some ⟨S, 0, none⟩), .int .u32 (hv j : Int), tab (T j)] rfl (fun ac u hG hL => x_call rfl (by have e0 : ac.eval (.tmp 139) = .pointer (some ⟨S, 0, none⟩) := ((hL ⟨7, .data⟩ (by simp) rfl _ rfl).trans (gval_pos e)); have e1 : ac.eval (.tmp 142) = .int .u32 (hv j : Int) := ((hL ⟨10, .data⟩ (by simp) rfl _ rfl).trans (gval_pos e)); have e2 : ac.eval (.tmp 145) = tab (T j) := ((hL ⟨13, .data⟩ (by simp) rfl _ rfl).trans (gval_pos e)); simp only [List.map_toArray, List.map_cons, List.map_nil, e0, e1, e2]) (fun w => callIs _ w)) (fun u hu => (hu.1.isf (ndA.out e).1 (ndA.out e).2).mono fun e w' q => ⟨q.1, (hu.1.below q.2).1, hu.2.trans (hu.1.below q.2).2⟩)))
              | 15, hk => obtain rfl := Option.some.inj hk; exact vok_maybe _ rfl rfl 6 true 138 b rfl ⟨⟨6, .guard⟩, by simp, rfl, rfl⟩ rfl (fun e => gval_neg e) (fun e => does_if e (does_val rfl fun ac u hG hL => x_un rfl ((hL ⟨14, .data⟩ (by simp) rfl _ rfl).trans (gval_pos e)) (r_not true u)))
              | 16, hk => obtain rfl := Option.some.inj hk; exact vok_plain _ rfl rfl rfl (does_val rfl fun ac u hG hL => x_pick (b := b) rfl (hL ⟨6, .data⟩ (by simp) rfl _ rfl) (by cases b with | true => exact (hL ⟨15, .data⟩ (by simp) rfl _ rfl) | false => rfl))
              | i + 17, hk => simp at hk
            · intro w10 s10
              simp only [Rf.vfin, Act.put, List.setIfInBounds_toArray, List.set_cons_succ, List.set_cons_zero]
              have s10A := toA s10
              clear s10 rB
              go_wp2_with fail
              go_roundg (gk - 1)
              case measure => have := hJ.out; omega
              case rel =>
                have hj := hJ.out
                exact ⟨j + 1, by omega, by go_num, s10A.out.1, s10A.out.2⟩
          · obtain rfl : j = 4 := by omega
            have xr := hX.out
            have yr := hY.out
            have KM := xr.make (F := K) nA.out (by have h1 : (only M xs).up ≤ M.up := only_up rcA.out.1; have := upA.out; have h2 := rmA.out; show (only M xs).up + 78 ≤ M.room; omega)
            obtain ⟨c0, c1, c2, c3⟩ := (tK.out wr xr.base).copy
            unfold tab at KM
            clear xr hX hY hJ hjn hlt
            go_upto_region 37 with (first
              | (go_at_call 11; refine KM.mono ?_; clear KM; rintro e w11 ⟨x, M2, rfl, m2, up2, x11, y11⟩))
            clear c0 c1 c2 c3
            have fullA := toA (rtA.out.roots.full oA.out rcA.out.1 rcA.out.2 m2)
            have roA := toA ((rtA.out.roots.kept oA.out rcA.out.1 rcA.out.2).grew ((rcA.out.1.shut rcA.out.2).ok oA.out) m2.grew)
            have o2A : Aside M2.Ok := x11.ok
            have n2A : Aside (M2.n = 8) := m2.grew.n.trans nA.out
            have lenA := toA (fullA.out.len o2A.out n2A.out)
            have s11 : Stay X2 w2 w11 := yr.trans y11
            obtain ⟨us, hus⟩ : ∃ us, ts ++ [K] = us := ⟨_, rfl⟩
            have usA : Aside (ts ++ [K] = us) := hus
            have usl : us.length = ts.length + 1 := by rw [← hus, List.length_append]; rfl
            rw [hus] at fullA lenA
            rw [usl] at lenA
            clear hus yr y11
            have KI := x11.drew.isf m2.node m2.tbl
            unfold tab at KI
            have cA : Aside (∀ u, Rfx v1 u S R m 1 M2 P (fun _ => []) X2 → u.cell? ⟨bk, 0, none⟩ = some (.int .u64 (word K 0 : Int)) ∧ u.cell? ⟨bk, 0 + 1, none⟩ = some (.int .u64 (word K 1 : Int)) ∧ u.cell? ⟨bk, 0 + 2, none⟩ = some (.int .u64 (word K 2 : Int)) ∧ u.cell? ⟨bk, 0 + 3, none⟩ = some (.int .u64 (word K 3 : Int))) := fun u k => (tK.out u k.base).copy
            have x11d := x11.drew
            have s11d : Stay X2 w2 w11.drew := s11
            clear m2 up2 x11 s11
            go_cut [176] from 28 (fun s w => s = .bool false ∧ Aside (Fin v1 S R m M2 P X2 adk adt ts H w))
            case first =>
              obtain ⟨c0, c1, c2, c3⟩ := cA.out _ x11d
              go_region_held3 (fun u => u.cell? ⟨bk, 0, none⟩ = some (.int .u64 (word K 0 : Int)) ∧ u.cell? ⟨bk, 0 + 1, none⟩ = some (.int .u64 (word K 1 : Int)) ∧ u.cell? ⟨bk, 0 + 2, none⟩ = some (.int .u64 (word K 2 : Int)) ∧ u.cell? ⟨bk, 0 + 3, none⟩ = some (.int .u64 (word K 3 : Int))) (first | exact cA.out _ (by assumption) | exact cA.out _ (Rfx.below (by assumption) (nb _ _)).1) (first
                | (go_at_call 23; refine KI.mono ?_; clear KI; rintro e wI ⟨rfl, bI⟩; have xI := (x11d.below bI).1; have sI := s11d.trans (x11d.below bI).2)
                | (go_at_call 13; refine xI.len'.mono ?_; rintro e wL ⟨rfl, bL⟩; have xL := (xI.below bL).1; have sL := sI.trans (xI.below bL).2)
                | (go_at_call 13; refine (xI.below (nb wI _)).1.len'.mono ?_; rintro e wL ⟨rfl, bL⟩; have bN := Rf.below_far (nb wI _) bL; have xL := (xI.below bN).1; have sL := sI.trans (xI.below bN).2; have isT := kept (IsTab.new wI K) bL)
                | (refine step_app_k (alA.out _ (sL.trans (xL.below (nb wL _)).2)).2.2.1 K _ (IsTab.new _ K) (by omega) (xL.below (nb wL _)).1.base.size (by rfl) (.tmp 167) (.tmp 169) rfl rfl (by simp [Act.eval]) (by simp [Act.eval]) ?_; intro g cap2 wA oA2 tA2 qA; have fA := Fin.start (xL.below (nb wL _)).1 qA kk2.out kt2.out apA.out (alA.out _ (sL.trans (xL.below (nb wL _)).2)).2.1 tA2; have xA := fA.1; rw [usA.out] at oA2; have tN := oA2.tabs; clear oA2 tA2 qA)
                | (refine step_app_k (alA.out _ sL).2.2.1 K _ isT (by omega) xL.base.size (by rfl) (.tmp 167) (.tmp 169) rfl rfl (by simp [Act.eval]) (by simp [Act.eval]) ?_; intro g cap2 wA oA2 tA2 qA; have fA := Fin.start xL qA kk2.out kt2.out apA.out (alA.out _ sL).2.1 tA2; have xA := fA.1; rw [usA.out] at oA2; have tN := oA2.tabs; clear oA2 tA2 qA)
                | (go_at_call 16; refine xA.order.mono ?_; rintro e w3 ⟨P3, l3, rfl, o3, b3⟩; have KA := Od.all_any o3 o2A.out.le8; have fO := fA.below b3; have xO := fO.1)
                | (go_at_call 17; refine KA.mono ?_; clear KA; rintro e w4 ⟨rfl, r4, b4⟩; have fB := fO.below b4; have xB := fB.1; have KS := size_here (ts := us) (c := cap2) o2A.out (tN.kept (Rf.below_far b3 b4)) r4 (by omega); rw [usl, ← lenA.out] at KS)
                | (go_at_call 15; refine KS.mono ?_; clear KS; rintro e w5 ⟨rfl, b5⟩; have fS := fB.below b5; have xS := fS.1))
              all_goals (go_wp2_with fail; go_meet)
              all_goals exact ⟨by simp, fS⟩
            case rest =>
              obtain ⟨rfl, fA⟩ := hcut
              clear KI x11d s11d lenA n2A o2A cA
              go_upto_region 40 with fail
              go_loopg [25, 26, 27] ts.length (fun g s25 _s26 _s27 wq => ∃ (t : Nat) (Mi : Mdl), t + g = ts.length ∧ s25 = .int .i64 (t : Int) ∧ Aside (Full Mi us ∧ Roots Mi H ts) ∧ Aside (Fin v1 S R m Mi P X2 adk adt ts H wq))
              case atStart => exact ⟨0, M2, by omega, rfl, ⟨fullA, roA⟩, fA⟩
              case round =>
                obtain ⟨t, Mi, ht, rfl, hF, hX⟩ := hrel
                have hJ : Aside (t + gk = ts.length) := ht
                have htn : t ≤ ts.length := by omega
                clear ht fA
                by_cases hlt : t < ts.length
                · have hlt' : (t : Int) < (ts.length : Int) := by omega
                  have hjw : IntKind.i64.wrap ((t : Int) + 1) = (t : Int) + 1 := by rw [IntKind.wrap_i64]; omega
                  have n8 : Mi.n = 8 := hF.out.2.n
                  have htu : t < us.length := by omega
                  have KM := hX.out.1.remake n8 (hF.out.1.just hX.out.1.ok n8 htu)
                  have eF : tl ts t = tl us t := by rw [← usA.out, tl_old hlt]
                  obtain ⟨bt, ot, e1, _⟩ := hX.out.2.2.some (by omega)
                  obtain ⟨bq, oq, e2, _⟩ := hX.out.2.1.some (by omega)
                  subst e1 e2
                  obtain ⟨c0, c1, c2, c3⟩ := hX.out.2.2.get hlt
                  have nd := (hF.out.2.here t hlt)
                  rw [eF] at c0 c1 c2 c3 nd
                  unfold tab at KM
                  have ndA := toA nd
                  have gdA : Aside (Mi.n = 8 ∧ t < us.length) := ⟨n8, htu⟩
                  clear nd n8 htu eF
                  go_upto_region 43 with (first
                    | (go_at_call 11; refine KM.mono ?_; clear KM; rintro e w13 ⟨y, M3, rfl, m3, x13, y13⟩))
                  have ey : y = H t := made_same hX.out.1.ok x13.ok m3 ndA.out.1 ndA.out.2
                  subst ey
                  have f13 := hX.out.move kk2.out kt2.out x13 y13
                  have d13 := f13.2.1.get hlt
                  have m3A := toA (And.intro (hF.out.1.again hX.out.1.ok gdA.out.1 gdA.out.2 m3) (hF.out.2.grew hX.out.1.ok m3.grew))
                  have f13A := toA f13
                  clear f13 m3 x13 y13 c0 c1 c2 c3
                  go_wp2_with fail
                  go_roundg (gk - 1)
                  case measure => have := hJ.out; omega
                  case rel =>
                    have hj := hJ.out
                    exact ⟨t + 1, M3, by omega, by go_num, m3A, f13A⟩
                · obtain rfl : t = ts.length := by omega
                  clear hlt
                  go_wp2_with fail
                  go_ret
                  exact ⟨rfl, by first | exact Rf.below_far B1A.out hX.out.1.base | (rw [← hbfA.out]; exact Rf.below_far B1A.out hX.out.1.base)⟩
end Go.Proofs.YtlmbofbdncgaiaaGreat.Mk
