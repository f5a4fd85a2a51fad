/-
  CountLevels, walked.
-/
import Derived.Test.YtdjbkpmokamkiaaGreatCtK
namespace Go.Proofs.YtdjbkpmokamkiaaGreat
open Go Go.RowKit
open Rf (tab word IsTab countUpto supUpto fixF fixAt)

/-! ## Without a program -/
theorem free_fix {F : Nat → Bool} {u v : Nat} (hu : u < 8) (hv : v < 8) (b : Bool) (h : hangs F v = false) : hangs (fixF F u b) v = false := by
  have e : Eqt (fixF F v false) (fixF F v true) := Classical.byContradiction fun c => by rw [hangs_iff.2 c] at h; cases h
  cases q : hangs (fixF F u b) v with
  | false => rfl
  | true =>
    refine absurd (fun x hx => ?_) (hangs_iff.1 q)
    show F (fixAt u b (fixAt v false x)) = F (fixAt u b (fixAt v true x))
    by_cases c : u = v
    · subst c
      rw [fixAt_over hx hu, fixAt_over hx hu]
    · rw [fixAt_swap hx hv hu (fun q => c q.symm), fixAt_swap hx hv hu (fun q => c q.symm)]
      exact e _ (fixAt_bits hx hu b).1
theorem free_desc {v : Nat → Nat} {u : Nat} (hu : u < 8) : ∀ {j k : Nat} {F G : Nat → Bool}, (∀ i, i < j → v (k + i) < 8) → Desc v j k F G → hangs F u = false → hangs G u = false
  | 0, _, _, _, _, h, q => by rw [← hangs_congr h hu]; exact q
  | j + 1, k, _, _, hv, h, q => by
    have h0 : v k < 8 := hv 0 (by omega)
    have h1 : ∀ i, i < j → v (k + 1 + i) < 8 := fun i hi => by have := hv (i + 1) (by omega); rwa [show k + 1 + i = k + (i + 1) by omega]
    exact h.elim (fun h => free_desc hu h1 h (free_fix h0 hu false q)) fun h => free_desc hu h1 h (free_fix h0 hu true q)
theorem hangs_part {M : Mdl} (o : M.Ok) {F G : Nat → Bool} (d : Dep M 0 F) {u : Nat} (hu : u < 8) (p : Prt M F G) (h : hangs G u = true) : hangs F u = true := by
  cases q : hangs F u with
  | true => rfl
  | false =>
    obtain ⟨j, hj, ds, _⟩ := (subs_desc o M.n 0 F G (by omega) d).1 p
    rw [free_desc hu (fun i hi => v8 o (by omega)) ds q] at h
    cases h
theorem level_of {M : Mdl} (o : M.Ok) {i : Nat} (hi : i < M.n) (d : Nat) : ∀ {h : Nat}, M.isNode h → M.n - M.lev h ≤ d → hangs (M.tbl h) (M.v i) = true → ∃ k ∈ M.hs, (M.nd k).1 = i := by
  have cst : ∀ {h : Nat}, h < 2 → hangs (M.tbl h) (M.v i) = false := fun {h} h2 => by
    have : (supUpto (M.tbl h) 8).testBit (M.v i) = false := by rw [sup_cst (tbl_cst h2), Nat.zero_testBit]
    rw [sup_bit, decide_eq_true (v8 o hi)] at this
    simpa using this
  induction d with
  | zero =>
    intro h hh hd q
    rcases hh with e | e
    · rw [cst e] at q; cases q
    · have := o.lv h e; rw [Mdl.lev_in o e] at hd; omega
  | succ d ih =>
    intro h hh hd q
    rcases hh with e | hm
    · rw [cst e] at q; cases q
    · have lv := o.lv h hm
      have l1 := o.lo h hm
      have l2 := o.hi h hm
      rw [Mdl.lev_in o hm] at hd
      rw [hangs_join o hm (v8 o hi), Bool.or_eq_true, Bool.or_eq_true] at q
      rcases q with (q | q) | q
      · exact ih l1.1 (by omega) q
      · exact ih l2.1 (by omega) q
      · exact ⟨h, hm, (o.vinj i _ hi lv (of_decide_eq_true q)).symm⟩
theorem lv_some {M : Mdl} {F G : Nat → Bool} {a b : Nat} (t : TwoIs M F G a b) (o : M.Ok) {i : Nat} (hi : i < M.n) : decide (0 < lvN M M.hs i) = (hangs F (M.v i) || hangs G (M.v i)) := by
  have hv := v8 o hi
  rw [Bool.eq_iff_iff, decide_eq_true_eq, Bool.or_eq_true]
  constructor
  · intro h
    obtain ⟨k, hk⟩ := List.exists_mem_of_length_pos h
    obtain ⟨hk, e⟩ := List.mem_filter.1 hk
    have e := of_decide_eq_true e
    have own := hangs_own o hk
    rw [e] at own
    exact ((t.has (M.tbl k)).1 ⟨k, hk, Eqt.refl _⟩).imp (fun p => hangs_part o t.dF hv p own) fun p => hangs_part o t.dG hv p own
  · intro h
    have : ∃ k ∈ M.hs, (M.nd k).1 = i := by
      rcases h with h | h
      · rw [← hangs_congr t.tx hv] at h
        exact level_of o hi _ t.nx (Nat.le_refl _) h
      · rw [← hangs_congr t.ty hv] at h
        exact level_of o hi _ t.ny (Nat.le_refl _) h
    obtain ⟨k, hk, e⟩ := this
    exact List.length_pos_of_mem (List.mem_filter.2 ⟨hk, decide_eq_true e⟩)
def sumF (f : Nat → Nat) : Nat → Nat
  | 0 => 0
  | k + 1 => sumF f k + f k
theorem sumF_add (f g : Nat → Nat) : ∀ n, sumF (fun i => f i + g i) n = sumF f n + sumF g n
  | 0 => rfl
  | n + 1 => by rw [sumF, sumF, sumF, sumF_add f g n]; omega
theorem sumF_one (l : Nat) : ∀ n, sumF (fun i => if l = i then 1 else 0) n = if l < n then 1 else 0
  | 0 => rfl
  | n + 1 => by
    rw [sumF, sumF_one l n]
    by_cases c : l < n
    · rw [if_pos c, if_neg (by omega), if_pos (by omega)]
    · rw [if_neg c]
      by_cases e : l = n
      · rw [if_pos e, if_pos (by omega)]
      · rw [if_neg e, if_neg (by omega)]
theorem sumF_congr {f g : Nat → Nat} : ∀ n, (∀ i, i < n → f i = g i) → sumF f n = sumF g n
  | 0, _ => rfl
  | n + 1, h => by rw [sumF, sumF, sumF_congr n fun i hi => h i (by omega), h n (by omega)]
theorem sumF_zero : ∀ n, sumF (fun _ => 0) n = 0
  | 0 => rfl
  | n + 1 => by rw [sumF, sumF_zero n]
theorem lv_sum (M : Mdl) (n : Nat) : ∀ ks : List Nat, (∀ k ∈ ks, (M.nd k).1 < n) → sumF (lvN M ks) n = ks.length
  | [], _ => by
    have e : sumF (lvN M []) n = sumF (fun _ => 0) n := sumF_congr n fun _ _ => rfl
    rw [e, sumF_zero]
    rfl
  | k :: ks, h => by
    have e : sumF (lvN M (k :: ks)) n = sumF (fun i => lvN M ks i + if (M.nd k).1 = i then 1 else 0) n := sumF_congr n fun i _ => by
      unfold lvN
      rw [List.filter_cons]
      by_cases c : (M.nd k).1 = i
      · rw [if_pos (by simpa using c), if_pos c]; simp
      · rw [if_neg (by simpa using c), if_neg c]; simp
    rw [e, sumF_add, lv_sum M n ks fun x hx => h x (by simp [hx]), sumF_one, if_pos (h k (by simp))]
    simp
theorem sumF_le (f : Nat → Nat) (b : Nat) (h : ∀ i, f i ≤ b) : ∀ n, sumF f n ≤ n * b
  | 0 => by simp [sumF]
  | n + 1 => by have := sumF_le f b h n; have := h n; rw [sumF, Nat.succ_mul]; omega

set_option maxRecDepth 100000 in
set_option maxHeartbeats 4000000 in
theorem levels_walk (F G : Nat → Bool) (W : World) :
    Calls Tryz.prog 7 #[tab F, tab G] W fun e w' => e = .returned (.bool true) ∧ Below W.heap.size W w' := by
  have oe := Mdl.empty_ok (n := 8) (room := 300) (by omega) (by omega)
  have depF : Aside (Dep (Mdl.empty 8 300) 0 F) := Dep.all oe rfl F
  have room0 : (Mdl.empty 8 300).up + (2 ^ ((Mdl.empty 8 300).n - 2) - 1) + 19 ≤ (Mdl.empty 8 300).room := by decide
  have room : Aside ((Mdl.empty 8 300).up + (2 ^ ((Mdl.empty 8 300).n - 2) - 1) + 19 ≤ (Mdl.empty 8 300).room) := room0
  clear room0 oe
  conv in #[tab F, tab G] => unfold tab
  go_enter Tryz.func7, Tryz.ntmps7
  go_upto_region 1 with fail
  obtain ⟨TF, TG, B3⟩ := boxes2 W F G
  generalize (W.alloc (.cells #[.int .u64 (word F 0 : Int), .int .u64 (word F 1 : Int), .int .u64 (word F 2 : Int), .int .u64 (word F 3 : Int)] 24)).alloc (.cells #[.int .u64 (word G 0 : Int), .int .u64 (word G 1 : Int), .int .u64 (word G 2 : Int), .int .u64 (word G 3 : Int)] 24) = v3 at TF TG B3 ⊢
  have B3A : Aside (Below W.heap.size W v3) := B3
  clear B3
  generalize W.heap.size + 1 = bg at TG ⊢
  generalize W.heap.size = bf at TF ⊢
  have Kk := nknown_any v3
  go_upto_region 3 with (first
    | (go_at_call 9; refine Kk.mono ?_; clear Kk; rintro e v4 ⟨rfl, b4⟩))
  have TF4 := kept TF b4
  have TG4 := kept TG b4
  have B4A : Aside (Below W.heap.size W v4) := Rf.below_far B3A.out b4
  have Kn : Calls Tryz.prog 10 #[.int .i64 8, .int .i64 300] v4 _ := s_new 8 300 v4 (by omega) (by omega) (by omega) (by omega)
  clear TF TG B3A b4
  go_upto_region 6 with (first
    | (go_at_call 10; refine Kn.mono ?_; clear Kn; rintro e w5 ⟨S, F5, rfl, s5, b5, f5⟩))
  have TF5 := kept TF4 b5
  have TG5 := kept TG4 b5
  have B5A : Aside (Below W.heap.size W w5) := Rf.below_far B4A.out b5
  have f5A : Aside (∀ k, F5 k → W.heap.size ≤ k) := fun k hk => Nat.le_trans B4A.out.size (f5 k hk)
  have K1 := make_any s5 depF.out room.out
  clear TF4 TG4 b5 f5 B4A room depF
  unfold tab at K1
  obtain ⟨y0, y1, y2, y3⟩ := TF5.copy
  go_upto_region 7 with (first
    | (go_at_call 12; refine K1.mono ?_; clear K1; rintro e w6 ⟨a, M1, rfl, ⟨F6, s6, g6⟩, m1⟩))
  have TG6 : IsTab w6 bg G := (g6.block bg TG5.lt (s5.row TG5 (by decide))).trans TG5
  have u1 : M1.up ≤ 63 := m1.up
  have n1 : M1.n = 8 := m1.grew.n
  have r1 : M1.room = 300 := m1.grew.room
  have K2 := make_any s6 (Dep.all s6.ok n1 G) (by rw [n1, r1]; omega)
  have B6A : Aside (Below W.heap.size W w6) := Wf.far B5A.out g6 B5A.out.size f5A.out
  have f6A : Aside (∀ k, F6 k → W.heap.size ≤ k) := g6.after B5A.out.size f5A.out
  have m1A : Aside (MadeIs (Mdl.empty 8 300) 0 F a M1) := m1
  clear y0 y1 y2 y3 TF5 TG5 g6 s5 B5A f5A u1 n1 r1 m1
  unfold tab at K2
  obtain ⟨y0, y1, y2, y3⟩ := TG6.copy
  go_upto_region 8 with (first
    | (go_at_call 12; refine K2.mono ?_; clear K2; rintro e w7 ⟨b, M, rfl, ⟨F7, s7, g7⟩, m2⟩))
  clear y0 y1 y2 y3 TG6
  have o7 := s7.ok
  have n8 : M.n = 8 := m2.grew.n.trans m1A.out.grew.n
  have hv : ∀ i, i < 8 → M.v i = i := fun i hi => by
    have : M.v = (Mdl.empty 8 300).v := m2.grew.v.trans m1A.out.grew.v
    rw [this]
    show Od.idn 8 i = i
    unfold Od.idn
    rw [if_pos hi]
  have t := TwoIs.made s6.ok rfl m1A.out m2 (Dep.all o7 n8 F) (Dep.all o7 n8 G)
  have B7A : Aside (Below W.heap.size W w7) := Wf.far B6A.out g7 B6A.out.size f6A.out
  have rm := s7.room
  have ll := o7.len
  have ab := Mdl.isNode_lt o7 t.nx
  have bb := Mdl.isNode_lt o7 t.ny
  have C1 : Aside (∀ u, St u S F7 M → Calls Tryz.prog 19 #[.pointer (some ⟨S, 0, none⟩), .slice (some ⟨u.heap.size, 0, none⟩) 3 3] (u.alloc (.cells #[.int .u32 (a : Int), .int .u32 (b : Int), .int .u32 (a : Int)] 32)) fun e w' => ∃ g, e = .returned (.tuple #[.slice (some ⟨g, 0, none⟩) 8 8, .int .i64 0]) ∧ Aside (w'.rowIs g 3 8 (fun i => .int .i64 (lvN M M.hs i : Int))) ∧ Below u.heap.size u w') := fun u su => by
    have hN : ∀ i, i < 3 → M.isNode ((fun i => if i = 0 then a else if i = 1 then b else a) i) := fun i _ => by
      show M.isNode (if i = 0 then a else if i = 1 then b else a)
      split
      · exact t.nx
      · split
        · exact t.ny
        · exact t.nx
    have B := nb u (.cells #[.int .u32 (a : Int), .int .u32 (b : Int), .int .u32 (a : Int)] 32)
    refine (levels_op (cap := 3) (su.below B) (hs3 u a b a) (fun i hi => Nat.lt_trans (Mdl.isNode_lt o7 (hN i hi)) (by decide)) (by omega)).mono ?_
    rintro e w' ⟨⟨_, g, ks, nd, r, rfl, row, _⟩ | ⟨⟨i, hi, bad⟩, _⟩, B'⟩
    · rw [n8] at row ⊢
      refine ⟨g, rfl, row.congr fun i _ => ?_, Rf.below_far B B'⟩
      rw [t.lev o7 r nd ⟨0, by omega, rfl⟩ ⟨1, by omega, rfl⟩]
    · exact absurd (hN i hi) bad
  have C2 : Aside (∀ u, St u S F7 M → Calls Tryz.prog 18 #[.pointer (some ⟨S, 0, none⟩), .slice (some ⟨u.heap.size, 0, none⟩) 2 2] (u.alloc (.cells #[.int .u32 (b : Int), .int .u32 (a : Int)] 32)) fun e w' => e = .returned (.tuple #[.int .i64 (M.hs.length : Int), .int .i64 0]) ∧ Below u.heap.size u w') := fun u su => by
    have hN : ∀ i, i < 2 → M.isNode ((fun i => if i = 0 then b else a) i) := fun i _ => by
      show M.isNode (if i = 0 then b else a)
      split
      · exact t.ny
      · exact t.nx
    have B := nb u (.cells #[.int .u32 (b : Int), .int .u32 (a : Int)] 32)
    refine (size_op (cap := 2) (su.below B) (hs2 u b a) (fun i hi => Nat.lt_trans (Mdl.isNode_lt o7 (hN i hi)) (by decide)) (by omega)).mono ?_
    rintro e w' ⟨⟨_, ks, nd, r, rfl⟩ | ⟨⟨i, hi, bad⟩, _⟩, B'⟩
    · rw [t.len o7 r nd ⟨1, by omega, rfl⟩ ⟨0, by omega, rfl⟩]
      exact ⟨rfl, Rf.below_far B B'⟩
    · exact absurd (hN i hi) bad
  have C3 : Aside (∀ u, St u S F7 M → Calls Tryz.prog 14 #[.pointer (some ⟨S, 0, none⟩), .int .u32 (a : Int)] u fun e w' => e = .returned (.tuple #[.int .u8 (supUpto F 8 : Int), .int .i64 0]) ∧ Below u.heap.size u w') := fun u su => by
    have := support_op su t.nx
    unfold tSup at this
    rwa [sup_congr t.tx] at this
  have C4 : Aside (∀ u, St u S F7 M → Calls Tryz.prog 14 #[.pointer (some ⟨S, 0, none⟩), .int .u32 (b : Int)] u fun e w' => e = .returned (.tuple #[.int .u8 (supUpto G 8 : Int), .int .i64 0]) ∧ Below u.heap.size u w') := fun u su => by
    have := support_op su t.ny
    unfold tSup at this
    rwa [sup_congr t.ty] at this
  have C5 : Aside (∀ u, St u S F7 M → Calls Tryz.prog 32 #[.pointer (some ⟨S, 0, none⟩)] u fun e w' => e = .returned (.int .i64 (M.hs.length : Int)) ∧ w' = u) := fun u su => s_len su
  have sA : Aside (∀ u, Below w7.heap.size w7 u → St u S F7 M) := fun u k => s7.below k
  have tot : Aside (sumF (lvN M M.hs) 8 = M.hs.length) := lv_sum M 8 M.hs fun k hk => by rw [← n8]; exact o7.lv k hk
  have some' : Aside (∀ i, i < 8 → decide (0 < lvN M M.hs i) = (hangs F i || hangs G i)) := fun i hi => by
    have := lv_some t o7 (i := i) (by omega)
    rwa [hv i hi] at this
  have lvle : Aside (∀ i, lvN M M.hs i ≤ 300) := fun i => by
    have q1 := lvN_le M M.hs i
    have q2 : M.room = 300 := m2.grew.room.trans m1A.out.grew.room
    show lvN M M.hs i ≤ 300
    omega
  have K3 := C1.out w7 s7
  clear t hv n8 rm ll ab bb g7 s6 m1A m2 B6A f6A o7 s7
  generalize M.hs.length = L at C2 C5 tot
  generalize lvN M M.hs = lv at K3 tot some' lvle C1
  clear C1
  go_upto_region 9 with (first
    | (go_at_call 19; refine K3.mono ?_; clear K3; rintro e w8 ⟨g, rfl, row8, b8⟩))
  have K4 := C2.out w8 (sA.out w8 b8)
  go_upto_region 10 with (first
    | (go_at_call 18; refine K4.mono ?_; clear K4; rintro e w9 ⟨rfl, b9⟩))
  have b9' := Rf.below_far b8 b9
  have r9 : Aside (w9.rowIs g 3 8 (fun i => .int .i64 (lv i : Int))) := row8.out.of_block (b9.block g row8.out.lt)
  have K5 := C3.out w9 (sA.out w9 b9')
  clear b8 b9 row8 C2 C3
  have s1 := Rf.sup_lt F 8 (Nat.le_refl _)
  have s2 := Rf.sup_lt G 8 (Nat.le_refl _)
  have or8 := u8_or_nat (supUpto F 8) (supUpto G 8) s1 s2
  have or9 : supUpto F 8 ||| supUpto G 8 < 2 ^ 8 := Nat.or_lt_two_pow s1 s2
  have rd : Aside (∀ i, i < 8 → (bits .and .u8 (((supUpto F 8 ||| supUpto G 8 : Nat) : Int) / 2 ^ i) 1 == 1) = (hangs F i || hangs G i)) := fun i hi => by
    rw [read8 _ _ or9, Nat.testBit_or, sup_bit, sup_bit, decide_eq_true hi]
    rfl
  generalize supUpto F 8 ||| supUpto G 8 = m at or8 or9 rd
  generalize supUpto F 8 = mF at K5 or8 s1
  generalize supUpto G 8 = mG at C4 or8 s2
  go_wp2_with (first
    | (go_at_call 14; refine K5.mono ?_; clear K5; rintro e w10 ⟨rfl, b10⟩; have b10' := Rf.below_far b9' b10; have K6 := C4.out w10 (sA.out w10 b10'))
    | (go_at_call 14; refine K6.mono ?_; clear K6; rintro e w11 ⟨rfl, b11⟩; have b11' := Rf.below_far b10' b11; have K7 := C5.out w11 (sA.out w11 b11'))
    | (go_at_call 32; refine K7.mono ?_; clear K7; rintro e w11 ⟨rfl, rfl⟩))
  have r11 : Aside (w11.rowIs g 3 8 (fun i => .int .i64 (lv i : Int))) := by
    have q := r9.out.of_block (b10.block g r9.out.lt)
    exact q.of_block (b11.block g q.lt)
  have BW : Aside (Below W.heap.size W w11) := Rf.below_far B7A.out b11'
  clear b9' b10 b11 b10' b11' r9 C4 C5 sA B7A
  go_loopg [19, 20] 8 (fun gg s19 s20 wr => ∃ j : Nat, j + gg = 8 ∧ s19 = .int .i64 (sumF lv j : Int) ∧ s20 = .int .i64 (j : Int) ∧ wr = w11)
  case atStart => exact ⟨0, rfl, rfl, rfl, rfl⟩
  case round =>
    obtain ⟨j, hj, rfl, rfl, rfl⟩ := hrel
    have hJ : Aside (j + gk = 8) := hj
    by_cases hlt : j < 8
    · have hlt' : (j : Int) < 8 := by omega
      have cl := r11.out.cell hlt
      have sm := some'.out j hlt
      have rj := rd.out j hlt
      have sb : sumF lv j ≤ 8 * 300 := Nat.le_trans (sumF_le lv 300 lvle.out j) (Nat.mul_le_mul_right _ (by omega))
      have lb := lvle.out j
      have nx : Aside (sumF lv (j + 1) = sumF lv j + lv j) := rfl
      generalize sumF lv j = sj at sb nx
      generalize lv j = x at cl sm lb nx
      have sm' : decide ((0 : Int) < (x : Int)) = (hangs F j || hangs G j) := by
        rw [← sm]
        by_cases c : 0 < x
        · rw [decide_eq_true c, decide_eq_true (by omega)]
        · rw [decide_eq_false c, decide_eq_false (by omega)]
      have jw : IntKind.u64.wrap (j : Int) = (j : Int) := by rw [IntKind.wrap_u64]; omega
      have m1 : min j 8 = j := by omega
      have sw : IntKind.i64.wrap ((sj : Int) + (x : Int)) = ((sj + x : Nat) : Int) := by rw [IntKind.wrap_i64]; omega
      have hltA : Aside (j < 8) := hlt
      have lb' : x ≤ 300 := lb
      have sb' : sj ≤ 2400 := by omega
      generalize (hangs F j || hangs G j) = r at sm sm' rj
      clear hj sb lb hlt
      cases r with
      | true =>
        go_wp2_with fail
        go_roundg (gk - 1)
        case measure => have := hJ.out; have := hltA.out; omega
        case rel =>
          have := hJ.out
          have := hltA.out
          exact ⟨j + 1, by omega, by rw [nx.out]; go_num, by go_num, rfl⟩
      | false =>
        go_wp2_with fail
        go_roundg (gk - 1)
        case measure => have := hJ.out; have := hltA.out; omega
        case rel =>
          have := hJ.out
          have := hltA.out
          exact ⟨j + 1, by omega, by rw [nx.out]; go_num, by go_num, rfl⟩
    · obtain rfl : j = 8 := by omega
      have tt := tot.out
      rw [tt]
      clear hj hlt rd some' tot lvle tt
      go_wp2_with fail
      go_ret
      exact ⟨rfl, BW.out⟩
end Go.Proofs.YtdjbkpmokamkiaaGreat
