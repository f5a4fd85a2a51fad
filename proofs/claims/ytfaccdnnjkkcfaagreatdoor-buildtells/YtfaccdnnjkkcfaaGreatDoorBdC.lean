/-
  Package build: cubes (product, Cube).
-/
import Derived.Test.YtfaccdnnjkkcfaaGreatDoorBdF
import Derived.Deep.LoopGhost
namespace Go.Proofs.YtfaccdnnjkkcfaaGreatDoor
open Go Go.RowKit
open Rf (fixAt fixF tab word same IsTab Cols)

/-! ## Cubes without a program -/
theorem bit8 (m v : Nat) (hm : m < 256) (hv : v < 8) : bits .and .u8 ((m : Int) / 2 ^ v) 1 = ((if m.testBit v then 1 else 0 : Nat) : Int) := by
  have h := Rf.below (n := v) (fun v => (List.range 256).all fun m => decide (bits .and .u8 ((m : Int) / 2 ^ v) 1 = ((if m.testBit v then 1 else 0 : Nat) : Int))) 8 (by kernel_rfl) hv
  simpa using Rf.below (n := m) (fun m => decide (bits .and .u8 ((m : Int) / 2 ^ v) 1 = ((if m.testBit v then 1 else 0 : Nat) : Int))) 256 h hm
theorem Mdl.Ok.onto {M : Mdl} (o : M.Ok) {i : Nat} (hi : i < M.n) : ∃ j, j < M.n ∧ M.v j = i := by
  by_cases c : ∃ j, j < M.n ∧ M.v j = i
  · exact c
  · exfalso
    have hn : ((List.range M.n).map M.v).Nodup := nodup_map_on M.v _ List.nodup_range fun a ha b hb q => o.vinj a b (List.mem_range.1 ha) (List.mem_range.1 hb) q
    have h2 : (i :: (List.range M.n).map M.v).Nodup := List.nodup_cons.2 ⟨fun h => by
      obtain ⟨j, hj, e⟩ := List.mem_map.1 h
      exact c ⟨j, List.mem_range.1 hj, e⟩, hn⟩
    have := nodup_le _ (List.range M.n) h2 fun z hz => by
      rcases List.mem_cons.1 hz with rfl | hz
      · exact List.mem_range.2 hi
      · obtain ⟨j, hj, rfl⟩ := List.mem_map.1 hz
        exact List.mem_range.2 (o.vlt j (List.mem_range.1 hj))
    simp at this
    omega
/-- A cube. -/
def cubeF (m q : Nat) : Nat → Bool := fun x => (List.range 8).all fun v => !m.testBit v || (x.testBit v == q.testBit v)
/-- Its part from a level on. -/
def cubeL (M : Mdl) (m q k : Nat) : Nat → Bool := fun x => decide (∀ j, j < M.n → k ≤ j → m.testBit (M.v j) = true → x.testBit (M.v j) = q.testBit (M.v j))
section
variable {M : Mdl} {m q k x : Nat}
theorem cubeL_iff : cubeL M m q k x = true ↔ ∀ j, j < M.n → k ≤ j → m.testBit (M.v j) = true → x.testBit (M.v j) = q.testBit (M.v j) := decide_eq_true_iff
theorem cubeF_iff : cubeF m q x = true ↔ ∀ v, v < 8 → m.testBit v = true → x.testBit v = q.testBit v := by
  unfold cubeF
  rw [List.all_eq_true]
  constructor
  · intro h v hv hm
    have := h v (List.mem_range.2 hv)
    rw [hm] at this
    simpa using this
  · intro h v hv
    have := h v (List.mem_range.1 hv)
    cases hm : m.testBit v with
    | false => rfl
    | true => simpa using this hm
theorem cubeL_dep (M : Mdl) (m q k : Nat) : Dep M k (cubeL M m q k) := fun x y _ _ e => by
  rw [Bool.eq_iff_iff, cubeL_iff, cubeL_iff]
  exact ⟨fun h j h1 h2 h3 => by rw [← e j h2 h1]; exact h j h1 h2 h3, fun h j h1 h2 h3 => by rw [e j h2 h1]; exact h j h1 h2 h3⟩
theorem cubeL_end (M : Mdl) (m q : Nat) : Eqt (fun _ => true) (cubeL M m q M.n) := fun x _ => (cubeL_iff.2 fun j h1 h2 => by omega).symm
theorem cubeL_self (M : Mdl) (m q k : Nat) : cubeL M m q k q = true := cubeL_iff.2 fun _ _ _ _ => rfl
theorem cubeL_skip (hb : m.testBit (M.v k) = false) : cubeL M m q (k + 1) = cubeL M m q k := by
  funext x
  rw [Bool.eq_iff_iff, cubeL_iff, cubeL_iff]
  refine ⟨fun h j h1 h2 h3 => ?_, fun h j h1 h2 h3 => h j h1 (by omega) h3⟩
  by_cases c : j = k
  · rw [c, hb] at h3; cases h3
  · exact h j h1 (by omega) h3
theorem cubeL_half (o : M.Ok) (hk : k < M.n) (hb : m.testBit (M.v k) = true) (b : Bool) : Eqt (fixF (cubeL M m q k) (M.v k) b) (if b = q.testBit (M.v k) then cubeL M m q (k + 1) else fun _ => false) := fun x hx => by
  obtain ⟨h1, h2⟩ := fixAt_bits hx (v8 o hk) b
  show cubeL M m q k (fixAt (M.v k) b x) = _
  have other : ∀ j, j < M.n → j ≠ k → (fixAt (M.v k) b x).testBit (M.v j) = x.testBit (M.v j) := fun j hj hjk => by
    rw [h2]
    exact Mdl.setA_other _ _ fun e => hjk (o.vinj j k hj hk e)
  have here : (fixAt (M.v k) b x).testBit (M.v k) = b := by rw [h2]; exact Mdl.setA_same _ _ _
  by_cases c : b = q.testBit (M.v k)
  · rw [if_pos c, Bool.eq_iff_iff, cubeL_iff, cubeL_iff]
    refine ⟨fun h j g1 g2 g3 => by rw [← other j g1 (by omega)]; exact h j g1 (by omega) g3, fun h j g1 g2 g3 => ?_⟩
    by_cases e : j = k
    · rw [e, here, c]
    · rw [other j g1 e]; exact h j g1 (by omega) g3
  · rw [if_neg c]
    cases r : cubeL M m q k (fixAt (M.v k) b x) with
    | false => rfl
    | true =>
      have := cubeL_iff.1 r k hk (Nat.le_refl _) hb
      rw [here] at this
      exact absurd this c
theorem cubeL_all (o : M.Ok) (hm : m < 2 ^ M.n) : cubeL M m q 0 = cubeF m q := by
  funext x
  rw [Bool.eq_iff_iff, cubeL_iff, cubeF_iff]
  refine ⟨fun h v h1 h2 => ?_, fun h j h1 _ h3 => h _ (v8 o h1) h3⟩
  have hv : v < M.n := by
    by_cases c : v < M.n
    · exact c
    · have : m < 2 ^ v := Nat.lt_of_lt_of_le hm (Nat.pow_le_pow_right (by omega) (by omega))
      rw [Nat.testBit_lt_two_pow this] at h2
      cases h2
  obtain ⟨j, hj, rfl⟩ := o.onto hv
  exact h j hj (Nat.zero_le _) h2
end
/-- What is left when a cube's lower part is laid. -/
structure CubeIs (M : Mdl) (m q k x : Nat) (M' : Mdl) : Prop where
  got : Got M k (cubeL M m q k) x M'
  len : M'.hs.length ≤ M.hs.length + (M.n - k)
section
variable {M M' M2 : Mdl} {m q j x y : Nat}
theorem CubeIs.start (o : M.Ok) (m q : Nat) : CubeIs M m q M.n 1 M := ⟨Got.here o (.inl (by omega)) (by rw [Mdl.lev_const (by omega)]; exact Nat.le_refl _) ((tbl_one M).trans (cubeL_end M m q)), by omega⟩
theorem CubeIs.skip (h : CubeIs M m q (j + 1) x M') (hb : m.testBit (M.v j) = false) : CubeIs M m q j x M' := by
  refine ⟨?_, by have := h.len; omega⟩
  rw [← cubeL_skip hb]
  exact h.got.raise (by omega)
theorem CubeIs.ne (h : CubeIs M m q j x M') (hq : q < 256) : x ≠ 0 := fun e => by
  have := h.got.tbl q hq
  rw [cubeL_self, e] at this
  have z := tbl_zero M' q hq
  rw [this] at z
  cases z
/-- The children of the next node: (low, high). -/
theorem CubeIs.fits (o : M.Ok) (o' : M'.Ok) (hj : j < M.n) (h : CubeIs M m q (j + 1) x M') (hq : q < 256) (hb : m.testBit (M.v j) = true) :
    (q.testBit (M.v j) = true → M'.Fits (j, 0, x) ∧ ∀ {y : Nat} {M2 : Mdl}, M2.Ok → ((y ∈ M'.hs ∧ M'.nd y = (j, 0, x) ∧ M2 = M') ∨ M'.Adds y (j, 0, x) M2) → CubeIs M m q j y M2) ∧
    (q.testBit (M.v j) = false → M'.Fits (j, x, 0) ∧ ∀ {y : Nat} {M2 : Mdl}, M2.Ok → ((y ∈ M'.hs ∧ M'.nd y = (j, x, 0) ∧ M2 = M') ∨ M'.Adds y (j, x, 0) M2) → CubeIs M m q j y M2) := by
  have d0 := (cubeL_dep M m q (j + 1)).mono (Nat.zero_le _)
  have d := cubeL_dep M m q j
  have ne := h.ne hq
  have len : ∀ {y : Nat} {M2 : Mdl} {e : Nd}, ((y ∈ M'.hs ∧ M'.nd y = e ∧ M2 = M') ∨ M'.Adds y e M2) → M2.hs.length ≤ M.hs.length + (M.n - j) := fun c => by
    have := h.len
    rcases c with ⟨_, _, rfl⟩ | ad
    · omega
    · rw [ad.len]; omega
  have half : ∀ b, Eqt (fixF (cubeL M m q j) (M.v j) b) (if b = q.testBit (M.v j) then cubeL M m q (j + 1) else fun _ => false) := fun b => cubeL_half o hj hb b
  constructor
  · intro hb1
    have h0 := half false
    have h1 := half true
    rw [hb1] at h0 h1
    have g1 : Got M (j + 1) (fixF (cubeL M m q j) (M.v j) false) 0 M := Got.here o (.inl (by omega)) (by rw [Mdl.lev_const (by omega)]; omega) ((tbl_zero M).trans h0.symm)
    have g2 : Got M (j + 1) (fixF (cubeL M m q j) (M.v j) true) x M' := h.got.like o d0 h1.symm
    exact ⟨Got.fits hj g1 g2 (Ne.symm ne), fun o2 c => ⟨Got.join o o o' hj d g1 g2 (Ne.symm ne) o2 c, len c⟩⟩
  · intro hb1
    have h0 := half false
    have h1 := half true
    rw [hb1] at h0 h1
    have g1 : Got M (j + 1) (fixF (cubeL M m q j) (M.v j) false) x M' := h.got.like o d0 h0.symm
    have g2 : Got M' (j + 1) (fixF (cubeL M m q j) (M.v j) true) 0 M' := Got.here o' (.inl (by omega)) (by rw [Mdl.lev_const (by omega), h.got.grew.n]; omega) ((tbl_zero M').trans h1.symm)
    exact ⟨Got.fits hj g1 g2 ne, fun o2 c => ⟨Got.join o o' o' hj d g1 g2 ne o2 c, len c⟩⟩
end

/-! ## The walk -/
/-- What a cube leaves where there is room. -/
def Cube1 (S : Nat) (F0 : Nat → Prop) (w : World) (M : Mdl) (m q : Nat) (e : Ending) (w' : World) : Prop :=
  ∃ (x : Nat) (M' : Mdl) (F' : Nat → Prop), e = .returned (.tuple #[.int .u32 (x : Int), .int .i64 0]) ∧ CubeIs M m q 0 x M' ∧ St w' S F' M' ∧ Wf F0 F' w w'
structure ProdI (w wr : World) (S b g : Nat) (F0 : Nat → Prop) (M : Mdl) (m q k x : Nat) (M' : Mdl) (F' : Nat → Prop) : Prop where
  cube : CubeIs M m q k x M'
  st : St wr S F' M'
  wf : Wf F0 F' w wr
  wk : IsBk wr b S g M.n
  row : wr.rowIs g 3 M.n (fun i => .int .i64 (M.v i : Int))
set_option maxRecDepth 100000 in
set_option maxHeartbeats 4000000 in
theorem product_any {w : World} {S : Nat} {F0 : Nat → Prop} {M : Mdl} {g m q : Nat} (h : St w S F0 M) (row : w.rowIs g 3 M.n (fun i => .int .i64 (M.v i : Int))) (hm : m < 256) (hq : q < 256) (room : M.hs.length + M.n ≤ M.room) :
    Calls Tryz.prog 53 #[wkv S g M.n, .int .u8 (m : Int), .int .u8 (q : Int)] w (Cube1 S F0 w M m q) := by
  have o := h.ok
  have n8 := o.le8
  have n1 := o.pos
  unfold wkv
  have B0 := nb w (.cells #[.pointer (some ⟨S, 0, none⟩), .slice (some ⟨g, 0, none⟩) M.n M.n] 94)
  have TW : IsBk _ w.heap.size S g M.n := Is2.new 94 w (.pointer (some ⟨S, 0, none⟩)) (.slice (some ⟨g, 0, none⟩) M.n M.n)
  go_enter Tryz.func53, Tryz.ntmps53
  go_upto_region 1 with fail
  generalize w.alloc (.cells #[.pointer (some ⟨S, 0, none⟩), .slice (some ⟨g, 0, none⟩) M.n M.n] 94) = w4 at B0 TW ⊢
  have I0 : Aside (ProdI w w4 S w.heap.size g F0 M m q M.n 1 M F0) := ⟨CubeIs.start o m q, h.below B0, Wf.of_below B0 F0, TW, row.of_block (B0.block g row.lt)⟩
  have hs0 : Aside (w.heap.size ≤ w.heap.size) := Nat.le_refl _
  have d1 := TW.c1
  have hbE : ∃ b, b = w.heap.size := ⟨_, rfl⟩
  obtain ⟨b, hb⟩ := hbE
  have hbA : Aside (b = w.heap.size) := hb
  rw [← hb] at I0 d1 ⊢
  clear hb TW B0 row h hs0
  have hw0 : IntKind.i64.wrap ((M.n : Int) - 1) = (M.n : Int) - 1 := by rw [IntKind.wrap_i64]; omega
  go_upto_region 3 with fail
  clear d1
  go_loopg [8, 9, 10, 11, 12] M.n (fun gg s8 s9 s10 _ _ wr => ∃ (x : Nat) (M' : Mdl) (F' : Nat → Prop), gg ≤ M.n ∧ s8 = .int .u32 (x : Int) ∧ s9 = .int .i64 0 ∧ s10 = .int .i64 ((gg : Int) - 1) ∧ ProdI w wr S b g F0 M m q gg x M' F')
  case atStart => exact ⟨1, M, F0, Nat.le_refl _, rfl, rfl, rfl, I0.out⟩
  case round =>
    obtain ⟨x, M', F', hgn, rfl, rfl, rfl, I⟩ := hrel
    cases gk with
    | zero =>
      have fin : Aside (Cube1 S F0 w M m q (.returned (.tuple #[.int .u32 (x : Int), .int .i64 0])) wr) := ⟨x, M', F', rfl, I.cube, I.st, I.wf⟩
      go_wp2_with fail
      go_ret2
      exact fin.out
    | succ j =>
      have ej : ((j + 1 : Nat) : Int) - 1 = (j : Int) := by omega
      rw [ej]
      have hj : j < M.n := by omega
      have hv := v8 o hj
      have d0 := I.wk.c0
      have d1 := I.wk.c1
      have cv := I.row.cell hj
      have bm := bit8 m (M.v j) hm hv
      have bq := bit8 q (M.v j) hq hv
      have hwj : IntKind.i64.wrap ((j : Int) - 1) = (j : Int) - 1 := by rw [IntKind.wrap_i64]; omega
      have jn : (j : Int) < (M.n : Int) := by omega
      have mv : min (M.v j) 8 = M.v j := by omega
      cases hbm : m.testBit (M.v j) with
      | false =>
        rw [hbm] at bm
        simp only [Bool.false_eq_true, if_false, Int.ofNat_zero] at bm
        have I' : Aside (ProdI w wr S b g F0 M m q j x M' F') := ⟨I.cube.skip hbm, I.st, I.wf, I.wk, I.row⟩
        clear hbm bq I
        go_wp2_with fail
        go_roundg j
        case measure => omega
        case rel => exact ⟨x, M', F', by omega, rfl, rfl, rfl, I'.out⟩
      | true =>
        rw [hbm] at bm
        simp only [if_true] at bm
        have o' := I.st.ok
        have ff := I.cube.fits o o' hj hq hbm
        have lenL := I.cube.len
        have rm' := I.cube.got.grew.room
        have rL : M'.hs.length < M'.room := by omega
        have wfA : Aside (Wf F0 F' w wr) := I.wf
        have wkA : Aside (IsBk wr b S g M.n) := I.wk
        have rowA : Aside (wr.rowIs g 3 M.n (fun i => .int .i64 (M.v i : Int))) := I.row
        have st := I.st
        clear I
        cases hbq : q.testBit (M.v j) with
        | true =>
          rw [hbq] at bq
          simp only [if_true] at bq
          obtain ⟨fit, fin⟩ := ff.1 hbq
          have finA : Aside (∀ {y : Nat} {M2 : Mdl}, M2.Ok → ((y ∈ M'.hs ∧ M'.nd y = (j, 0, x) ∧ M2 = M') ∨ M'.Adds y (j, 0, x) M2) → CubeIs M m q j y M2) := fin
          clear fin ff hbm hbq
          go_upto_region 9 with fail
          have N5 := nb wr (.cells #[.int .u32 0, .int .u32 (x : Int)] 130)
          have CH := Is2.new 130 wr (.int .u32 0) (.int .u32 (x : Int))
          generalize wr.alloc (.cells #[.int .u32 0, .int .u32 (x : Int)] 130) = w5 at N5 CH ⊢
          generalize wr.heap.size = ch at CH ⊢
          have s5 := st.below N5
          have wk5 := wkA.out.below N5
          have row5 := rowA.out.of_block (N5.block g rowA.out.lt)
          have f5 : Aside (Wf F0 F' w w5) := wfA.out.trans (Wf.of_below N5 F')
          have e0 := CH.c0
          have e1 := CH.c1
          clear d0 d1 cv
          have d0 := wk5.c0
          clear bm bq N5 st wkA rowA wfA
          by_cases hth : ∃ y ∈ M'.hs, M'.nd y = (j, 0, x)
          · obtain ⟨y, ym, ye⟩ := hth
            have Km := s_mk_there s5 j 0 x fit y ym ye
            have cb : Aside (CubeIs M m q j y M') := finA.out s5.ok (.inl ⟨ym, ye, rfl⟩)
            clear ye
            go_wp2_with (first
              | (go_at_call 74; refine Km.mono ?_; clear Km; rintro e w6 ⟨rfl, F6, s6, b6⟩))
            go_roundg j
            case measure => omega
            case rel => exact ⟨y, M', F6, by omega, rfl, rfl, rfl, ⟨cb.out, s6, f5.out.trans b6, wk5.wf s5 b6 (by decide), b6.row s5 row5 (by decide)⟩⟩
          · have Km := s_mk_new s5 j 0 x fit (fun y ym ye => hth ⟨y, ym, ye⟩) rL
            clear hth
            go_wp2_with (first
              | (go_at_call 74; refine Km.mono ?_; clear Km; rintro e w6 ⟨y, rfl, F6, M6, ad6, s6, b6, y6⟩; have adA : Aside (M'.Adds y (j, 0, x) M6) := ad6; clear ad6 y6))
            go_roundg j
            case measure => omega
            case rel => exact ⟨y, M6, F6, by omega, rfl, rfl, rfl, ⟨finA.out s6.ok (.inr adA.out), s6, f5.out.trans b6, wk5.wf s5 b6 (by decide), b6.row s5 row5 (by decide)⟩⟩
        | false =>
          rw [hbq] at bq
          simp only [Bool.false_eq_true, if_false, Int.ofNat_zero] at bq
          obtain ⟨fit, fin⟩ := ff.2 hbq
          have finA : Aside (∀ {y : Nat} {M2 : Mdl}, M2.Ok → ((y ∈ M'.hs ∧ M'.nd y = (j, x, 0) ∧ M2 = M') ∨ M'.Adds y (j, x, 0) M2) → CubeIs M m q j y M2) := fin
          clear fin ff hbm hbq
          go_upto_region 9 with fail
          have N5 := nb wr (.cells #[.int .u32 (x : Int), .int .u32 0] 130)
          have CH := Is2.new 130 wr (.int .u32 (x : Int)) (.int .u32 0)
          generalize wr.alloc (.cells #[.int .u32 (x : Int), .int .u32 0] 130) = w5 at N5 CH ⊢
          generalize wr.heap.size = ch at CH ⊢
          have s5 := st.below N5
          have wk5 := wkA.out.below N5
          have row5 := rowA.out.of_block (N5.block g rowA.out.lt)
          have f5 : Aside (Wf F0 F' w w5) := wfA.out.trans (Wf.of_below N5 F')
          have e0 := CH.c0
          have e1 := CH.c1
          clear d0 d1 cv
          have d0 := wk5.c0
          clear bm bq N5 st wkA rowA wfA
          by_cases hth : ∃ y ∈ M'.hs, M'.nd y = (j, x, 0)
          · obtain ⟨y, ym, ye⟩ := hth
            have Km := s_mk_there s5 j x 0 fit y ym ye
            have cb : Aside (CubeIs M m q j y M') := finA.out s5.ok (.inl ⟨ym, ye, rfl⟩)
            clear ye
            go_wp2_with (first
              | (go_at_call 74; refine Km.mono ?_; clear Km; rintro e w6 ⟨rfl, F6, s6, b6⟩))
            go_roundg j
            case measure => omega
            case rel => exact ⟨y, M', F6, by omega, rfl, rfl, rfl, ⟨cb.out, s6, f5.out.trans b6, wk5.wf s5 b6 (by decide), b6.row s5 row5 (by decide)⟩⟩
          · have Km := s_mk_new s5 j x 0 fit (fun y ym ye => hth ⟨y, ym, ye⟩) rL
            clear hth
            go_wp2_with (first
              | (go_at_call 74; refine Km.mono ?_; clear Km; rintro e w6 ⟨y, rfl, F6, M6, ad6, s6, b6, y6⟩; have adA : Aside (M'.Adds y (j, x, 0) M6) := ad6; clear ad6 y6))
            go_roundg j
            case measure => omega
            case rel => exact ⟨y, M6, F6, by omega, rfl, rfl, rfl, ⟨finA.out s6.ok (.inr adA.out), s6, f5.out.trans b6, wk5.wf s5 b6 (by decide), b6.row s5 row5 (by decide)⟩⟩
section
variable {w : World} {S : Nat} {F0 : Nat → Prop} {M : Mdl}
theorem cube_bad (h : St w S F0 M) (m q : Nat) (big : 2 ^ M.n ≤ m) :
    Calls Tryz.prog 20 #[.pointer (some ⟨S, 0, none⟩), .int .u8 (m : Int), .int .u8 (q : Int)] w fun e w' => e = .returned (.tuple #[.int .u32 0, .int .i64 40]) ∧ w' = w := by
  have K := beyond_any h m
  rw [decide_eq_true big] at K
  go_enter Tryz.func20, Tryz.ntmps20
  go_wp2_with (first
    | (go_at_call 42; refine K.mono ?_; clear K; rintro e w1 ⟨rfl, e1⟩; subst w1))
  go_ret2
  exact ⟨rfl, rfl⟩
theorem cube_op (h : St w S F0 M) {m q : Nat} (hm : m < 256) (hq : q < 256) (small : m < 2 ^ M.n) (room : M.hs.length + M.n ≤ M.room) :
    Calls Tryz.prog 20 #[.pointer (some ⟨S, 0, none⟩), .int .u8 (m : Int), .int .u8 (q : Int)] w (Cube1 S F0 w M m q) := by
  have K := beyond_any h m
  rw [decide_eq_false (by omega)] at K
  have K2 := start_any h
  have KP : Aside (∀ u g, Below w.heap.size w u → u.rowIs g 3 M.n (fun i => .int .i64 (M.v i : Int)) → Calls Tryz.prog 53 #[wkv S g M.n, .int .u8 (m : Int), .int .u8 (q : Int)] u (Cube1 S F0 u M m q)) := fun u g k r => product_any (h.below k) r hm hq room
  clear small room
  go_enter Tryz.func20, Tryz.ntmps20
  go_wp2_with (first
    | (go_at_call 42; refine K.mono ?_; clear K; rintro e w1 ⟨rfl, e1⟩; subst w1)
    | (go_at_call 44; refine K2.mono ?_; clear K2; rintro e w5 ⟨g, rfl, r5, b5, g5⟩; have K3 := KP.out w5 g b5 r5)
    | (go_at_call 53; refine K3.mono ?_; clear K3; rintro e w6 ⟨x, M6, F6, rfl, c6, s6, f6⟩))
  go_ret2
  exact ⟨x, M6, F6, rfl, c6, s6, (Wf.of_below b5 F0).trans f6⟩
end
end Go.Proofs.YtfaccdnnjkkcfaaGreatDoor
