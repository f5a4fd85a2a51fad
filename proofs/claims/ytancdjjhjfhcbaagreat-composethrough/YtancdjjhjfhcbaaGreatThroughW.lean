/-
  ComposeThrough, walked.
-/
import Derived.Test.YtancdjjhjfhcbaaGreatCpN
import Derived.Deep.RegionHeld3
namespace Go.Proofs.YtancdjjhjfhcbaaGreat
open Go Go.RowKit
open Rf (fixAt fixF tab word IsTab)

theorem must_c (z : Nat) (w : World) : Calls Tryz.prog 26 #[.int .u32 (z : Int), .int .i64 0] w fun e w' => e = .returned (.int .u32 (z : Int)) ∧ w' = w := by
  go_enter Tryz.func26, Tryz.ntmps26
  go_wp2_with fail
  go_ret
  exact ⟨rfl, rfl⟩
/-- The first 64 values over and over. -/
def trm (F : Nat → Bool) (x : Nat) : Bool := F (x % 64)
theorem trm_word (F : Nat → Bool) (k : Nat) : word (trm F) k = word F 0 := Rf.word_congr' fun i hi => by
  unfold trm
  congr 1
  omega
theorem trm_low (F : Nat → Bool) : ∀ x y, x < 256 → y < 256 → (∀ j, j < 6 → x.testBit j = y.testBit j) → trm F x = trm F y := fun x y _ _ h => by
  unfold trm
  congr 1
  refine Nat.eq_of_testBit_eq fun j => ?_
  rw [show 64 = 2 ^ 6 from rfl, Nat.testBit_mod_two_pow, Nat.testBit_mod_two_pow]
  by_cases c : j < 6
  · rw [h j c]
  · simp [c]
theorem trimmed_any (F : Nat → Bool) (w : World) : Calls Tryz.prog 25 #[tab F] w fun e w' => e = .returned (tab (trm F)) ∧ Below w.heap.size w w' := by
  have e : tab (trm F) = .agg #[.int .u64 (word F 0 : Int), .int .u64 (word F 0 : Int), .int .u64 (word F 0 : Int), .int .u64 (word F 0 : Int)] := by
    unfold tab
    rw [trm_word, trm_word, trm_word, trm_word]
  conv in #[tab F] => unfold tab
  go_enter Tryz.func25, Tryz.ntmps25
  go_wp2_with fail
  have tt : IsTab ((w.alloc (.cells #[.int .u64 (word F 0 : Int), .int .u64 (word F 1 : Int), .int .u64 (word F 2 : Int), .int .u64 (word F 3 : Int)] 24)).alloc (.cells #[.int .u64 (word F 0 : Int), .int .u64 (word F 0 : Int), .int .u64 (word F 0 : Int), .int .u64 (word F 0 : Int)] 24)) (w.heap.size + 1) (trm F) := by
    have := IsTab.newAt (w := w.alloc (.cells #[.int .u64 (word F 0 : Int), .int .u64 (word F 1 : Int), .int .u64 (word F 2 : Int), .int .u64 (word F 3 : Int)] 24)) (n := w.heap.size + 1) (by simp) (trm F)
    rwa [trm_word, trm_word, trm_word, trm_word] at this
  exact bodyPost_ret (Rf.results_tab rfl rfl tt) rfl ⟨rfl, ((Below.refl _ w).alloc (Nat.le_refl _) _).alloc (by simp) _⟩
/-- One of three functions. -/
theorem run_part3 (T : Nat → Nat → Bool) (k : Nat) (hk : k < 3) (w : World) : (Instr.index 60 (.agg #[.int .u64 (word (T 0) 0 : Int), .int .u64 (word (T 0) 1 : Int), .int .u64 (word (T 0) 2 : Int), .int .u64 (word (T 0) 3 : Int), .int .u64 (word (T 1) 0 : Int), .int .u64 (word (T 1) 1 : Int), .int .u64 (word (T 1) 2 : Int), .int .u64 (word (T 1) 3 : Int), .int .u64 (word (T 2) 0 : Int), .int .u64 (word (T 2) 1 : Int), .int .u64 (word (T 2) 2 : Int), .int .u64 (word (T 2) 3 : Int)]) (.int .i64 (k : Int))).run Tryz.prog w = .ok (.agg #[.int .u64 (word (T k) 0 : Int), .int .u64 (word (T k) 1 : Int), .int .u64 (word (T k) 2 : Int), .int .u64 (word (T k) 3 : Int)]) w := by
  have hu := Tryz.underlying60
  have : k = 0 ∨ k = 1 ∨ k = 2 := by omega
  unfold Instr.index
  rcases this with rfl | rfl | rfl <;> simp [go_sem, run_underlying hu]
theorem three_boxes (W : World) (F G H : Nat → Bool) : IsTab (((W.alloc (.cells #[.int .u64 (word F 0 : Int), .int .u64 (word F 1 : Int), .int .u64 (word F 2 : Int), .int .u64 (word F 3 : Int)] 24)).alloc (.cells #[.int .u64 (word G 0 : Int), .int .u64 (word G 1 : Int), .int .u64 (word G 2 : Int), .int .u64 (word G 3 : Int)] 24)).alloc (.cells #[.int .u64 (word H 0 : Int), .int .u64 (word H 1 : Int), .int .u64 (word H 2 : Int), .int .u64 (word H 3 : Int)] 24)) W.heap.size F ∧ IsTab (((W.alloc (.cells #[.int .u64 (word F 0 : Int), .int .u64 (word F 1 : Int), .int .u64 (word F 2 : Int), .int .u64 (word F 3 : Int)] 24)).alloc (.cells #[.int .u64 (word G 0 : Int), .int .u64 (word G 1 : Int), .int .u64 (word G 2 : Int), .int .u64 (word G 3 : Int)] 24)).alloc (.cells #[.int .u64 (word H 0 : Int), .int .u64 (word H 1 : Int), .int .u64 (word H 2 : Int), .int .u64 (word H 3 : Int)] 24)) (W.heap.size + 1) G ∧ IsTab (((W.alloc (.cells #[.int .u64 (word F 0 : Int), .int .u64 (word F 1 : Int), .int .u64 (word F 2 : Int), .int .u64 (word F 3 : Int)] 24)).alloc (.cells #[.int .u64 (word G 0 : Int), .int .u64 (word G 1 : Int), .int .u64 (word G 2 : Int), .int .u64 (word G 3 : Int)] 24)).alloc (.cells #[.int .u64 (word H 0 : Int), .int .u64 (word H 1 : Int), .int .u64 (word H 2 : Int), .int .u64 (word H 3 : Int)] 24)) (W.heap.size + 1 + 1) H ∧ Below W.heap.size W (((W.alloc (.cells #[.int .u64 (word F 0 : Int), .int .u64 (word F 1 : Int), .int .u64 (word F 2 : Int), .int .u64 (word F 3 : Int)] 24)).alloc (.cells #[.int .u64 (word G 0 : Int), .int .u64 (word G 1 : Int), .int .u64 (word G 2 : Int), .int .u64 (word G 3 : Int)] 24)).alloc (.cells #[.int .u64 (word H 0 : Int), .int .u64 (word H 1 : Int), .int .u64 (word H 2 : Int), .int .u64 (word H 3 : Int)] 24)) :=
  ⟨((IsTab.new W F).alloc _).alloc _, (IsTab.newAt (by simp) G).alloc _, IsTab.newAt (by simp) H, (((Below.refl _ W).alloc (Nat.le_refl _) _).alloc (by simp) _).alloc (by simp; omega) _⟩
/-- A block with room for three handles. -/
def Is3 (w : World) (r : Nat) (x y z : Value) : Prop := w.heap[r]? = some (.cells #[x, y, z] 59 (0, 0))
theorem Out.is3 {w w' : World} {r : Nat} {x y z : Value} (o : Out w w') (h : Is3 w r x y z) : Is3 w' r x y z := o r _ _ _ h (by decide)
theorem Is3.cells {w : World} {r : Nat} {x y z : Value} (h : Is3 w r x y z) : w.cell? ⟨r, 0, none⟩ = some x ∧ w.cell? ⟨r, 1, none⟩ = some y ∧ w.cell? ⟨r, 2, none⟩ = some z := by
  unfold Is3 at h
  refine ⟨?_, ?_, ?_⟩ <;> simp [World.cell?, h]
theorem Out.row3 {w w' : World} (o : Out w w') {g n : Nat} {V : Nat → Value} (h : w.rowIs g 59 n V) : w'.rowIs g 59 n V := by
  obtain ⟨c, hc, q⟩ := h
  exact ⟨c, o g _ _ _ hc (by decide), q⟩
theorem row_step (i hn : Nat) (Hn : Nat → Nat) (u : Nat) : (if u = i then Value.int .u32 (hn : Int) else .int .u32 ((if u < i then Hn u else 0 : Nat) : Int)) = .int .u32 ((if u < i + 1 then (if u = i then hn else Hn u) else 0 : Nat) : Int) := by
  by_cases c : u = i
  · rw [if_pos c, if_pos (show u < i + 1 by omega), if_pos c]
  · by_cases d : u < i
    · rw [if_neg c, if_pos d, if_pos (show u < i + 1 by omega), if_neg c]
    · rw [if_neg c, if_neg d, if_neg (show ¬ u < i + 1 by omega)]
theorem is3_row {w : World} {r : Nat} {Hn : Nat → Nat} (h : w.rowIs r 59 3 (fun j => .int .u32 ((if j < 3 then Hn j else 0 : Nat) : Int))) : Is3 w r (.int .u32 (Hn 0 : Int)) (.int .u32 (Hn 1 : Int)) (.int .u32 (Hn 2 : Int)) := by
  obtain ⟨c, hc, hs, hq⟩ := h
  have : c = #[.int .u32 (Hn 0 : Int), .int .u32 (Hn 1 : Int), .int .u32 (Hn 2 : Int)] := by
    refine Array.ext_getElem? fun j => ?_
    by_cases d : j < 3
    · rw [hq j d]
      show some (Value.int .u32 ((if j < 3 then Hn j else 0 : Nat) : Int)) = _
      rw [if_pos d]
      have : j = 0 ∨ j = 1 ∨ j = 2 := by omega
      rcases this with rfl | rfl | rfl <;> rfl
    · rw [Array.getElem?_eq_none (by omega), Array.getElem?_eq_none (by simp; omega)]
  rw [this] at hc
  exact hc
set_option maxRecDepth 100000 in
set_option maxHeartbeats 4000000 in
theorem through_walk (F G H : Nat → Bool) (zv : Int) (W : World) (z0 : 0 ≤ zv) :
    Calls Tryz.prog 7 #[tab F, tab G, tab H, .int .u8 zv] W fun e w' => e = .returned (.bool true) ∧ Below W.heap.size W w' := by
  conv in #[tab F, tab G, tab H, Value.int .u8 zv] => unfold tab
  go_enter Tryz.func7, Tryz.ntmps7
  go_upto_region 1 with fail
  obtain ⟨TF, TG, TH, B3⟩ := three_boxes W F G H
  generalize ((W.alloc (.cells #[.int .u64 (word F 0 : Int), .int .u64 (word F 1 : Int), .int .u64 (word F 2 : Int), .int .u64 (word F 3 : Int)] 24)).alloc (.cells #[.int .u64 (word G 0 : Int), .int .u64 (word G 1 : Int), .int .u64 (word G 2 : Int), .int .u64 (word G 3 : Int)] 24)).alloc (.cells #[.int .u64 (word H 0 : Int), .int .u64 (word H 1 : Int), .int .u64 (word H 2 : Int), .int .u64 (word H 3 : Int)] 24) = v3 at TF TG TH B3 ⊢
  have B3A : Aside (Below W.heap.size W v3) := B3
  clear B3
  generalize W.heap.size + 1 + 1 = bh at TH ⊢
  generalize W.heap.size + 1 = bg at TG ⊢
  generalize W.heap.size = bf at TF ⊢
  have Kk := cknown_any v3
  go_upto_region 3 with (first
    | (go_at_call 8; refine Kk.mono ?_; clear Kk; rintro e v4 ⟨rfl, b4⟩))
  have Kn : Calls Tryz.prog 9 #[.int .i64 6, .int .i64 32768] v4 _ := new_x W v4 6 32768 (by omega) (by omega) (by omega) (by omega) (Rf.below_far B3A.out b4)
  have TF4 := kept TF b4
  have TG4 := kept TG b4
  have TH4 := kept TH b4
  clear TF TG TH B3A b4
  go_upto_region 6 with (first
    | (go_at_call 9; refine Kn.mono ?_; clear Kn; rintro e w5 ⟨S, rfl, f5, x5, b5⟩))
  have q6 := nb w5 (.cells #[.int .u32 0, .int .u32 0, .int .u32 0] 59)
  have TF6 := kept (kept TF4 b5) q6
  have TG6 := kept (kept TG4 b5) q6
  have TH6 := kept (kept TH4 b5) q6
  have x6 := x5.below q6
  have r6 : (w5.alloc (.cells #[.int .u32 0, .int .u32 0, .int .u32 0] 59)).rowIs w5.heap.size 59 3 (fun j => .int .u32 ((if j < 0 then id j else 0 : Nat) : Int)) := ⟨_, Go.Deep.blk_alloc_new _ _, rfl, fun j hj => by
    have : j = 0 ∨ j = 1 ∨ j = 2 := by omega
    rcases this with rfl | rfl | rfl <;> rfl⟩
  have rW : Aside (W.heap.size ≤ w5.heap.size) := x5.base.size
  go_upto_region 7 with fail
  generalize w5.alloc (.cells #[.int .u32 0, .int .u32 0, .int .u32 0] 59) = w6 at q6 TF6 TG6 TH6 x6 r6 ⊢
  generalize w5.heap.size = xb at r6 rW ⊢
  obtain ⟨a0, a1, a2, a3⟩ := TF6.copy
  obtain ⟨d0, d1, d2, d3⟩ := TG6.copy
  obtain ⟨e0, e1, e2, e3⟩ := TH6.copy
  clear TF4 TG4 TH4 b5 f5 x5 q6
  obtain ⟨T, hT⟩ : ∃ T : Nat → Nat → Bool, T 0 = F ∧ T 1 = G ∧ T 2 = H := ⟨fun i => if i = 0 then F else if i = 1 then G else H, rfl, rfl, rfl⟩
  obtain ⟨rfl, rfl, rfl⟩ := hT
  have x6A : Aside (∃ l, Sx W w6 S 6 32768 l (15 * 0) ∧ (0, c0) ∈ l ∧ (1, c1) ∈ l ∧ ∀ j, j < 0 → (id j, trm (T j)) ∈ l) := ⟨_, x6, .head _, .tail _ (.head _), fun j hj => by omega⟩
  have r6A : Aside (w6.rowIs xb 59 3 (fun j => .int .u32 ((if j < 0 then id j else 0 : Nat) : Int))) := r6
  go_upto_region 8 with fail
  clear a0 a1 a2 a3 d0 d1 d2 d3 e0 e1 e2 e3 TF6 TG6 TH6 x6 r6
  go_loopg [31, 12, 13, 14, 15] 3 (fun gn s31 _s1 _s2 _s3 _s4 wr => ∃ (i : Nat) (Hn : Nat → Nat), i + gn = 3 ∧ s31 = .int .i64 (i : Int) ∧ Aside (∃ l, Sx W wr S 6 32768 l (15 * i) ∧ (0, c0) ∈ l ∧ (1, c1) ∈ l ∧ ∀ j, j < i → (Hn j, trm (T j)) ∈ l) ∧ Aside (wr.rowIs xb 59 3 (fun j => .int .u32 ((if j < i then Hn j else 0 : Nat) : Int))))
  case atStart => exact ⟨0, id, by omega, rfl, x6A, r6A⟩
  case round =>
    obtain ⟨i, Hn, hi, rfl, x9, r9⟩ := hrel
    have hI : Aside (i + gk = 3) := hi
    clear hi x6A r6A
    by_cases i3 : i < 3
    · have ii : (i : Int) < 3 := by omega
      have iA : Aside (i < 3) := i3
      have hix := run_part3 T i i3
      have b10 := nb wr (.cells #[.int .u64 (word (T i) 0 : Int), .int .u64 (word (T i) 1 : Int), .int .u64 (word (T i) 2 : Int), .int .u64 (word (T i) 3 : Int)] 24)
      have r10 := r9.out.of_block (b10.block xb r9.out.lt)
      obtain ⟨l, xl, h0, h1, h2⟩ := x9.out
      have x10 := xl.below b10
      have T10 := IsTab.new wr (T i)
      have KT := trimmed_any (T i) (wr.alloc (.cells #[.int .u64 (word (T i) 0 : Int), .int .u64 (word (T i) 1 : Int), .int .u64 (word (T i) 2 : Int), .int .u64 (word (T i) 3 : Int)] 24))
      have hlA : Aside ((0, c0) ∈ l ∧ (1, c1) ∈ l ∧ ∀ j, j < i → (Hn j, trm (T j)) ∈ l) := ⟨h0, h1, h2⟩
      unfold tab at KT
      clear i3 x9 r9 xl h0 h1 h2 b10
      go_upto_region 10 with fail
      generalize wr.alloc (.cells #[.int .u64 (word (T i) 0 : Int), .int .u64 (word (T i) 1 : Int), .int .u64 (word (T i) 2 : Int), .int .u64 (word (T i) 3 : Int)] 24) = w10 at *
      generalize wr.heap.size = tb at T10 ⊢
      obtain ⟨y0, y1, y2, y3⟩ := T10.copy
      clear T10
      go_upto_region 11 with (first
        | (go_at_call 25; refine KT.mono ?_; clear KT; rintro e w11 ⟨rfl, b11⟩; have KM := make_n (x10.below b11) (trm (T i)) (trm_low (T i)) 15 (by decide) (by have := iA.out; omega); have r11 := r10.of_block (b11.block xb r10.lt); unfold tab at KM; clear x10 b11 r10 y0 y1 y2 y3)
        | (go_at_call 12; refine KM.mono ?_; clear KM; rintro e w12 ⟨hn, rfl, x12, u12⟩))
      have r12 := u12.row3 r11
      have d1 := r12.cell iA.out
      have f1 := r12.frozen i
      have r13 : Aside ((w12.setCell ⟨xb, i, none⟩ (.int .u32 (hn : Int))).rowIs xb 59 3 (fun j => .int .u32 ((if j < i + 1 then (if j = i then hn else Hn j) else 0 : Nat) : Int))) := (r12.set i _).congr fun u _ => row_step i hn Hn u
      have x13 : Aside (∃ l', Sx W (w12.setCell ⟨xb, i, none⟩ (.int .u32 (hn : Int))) S 6 32768 l' (15 * (i + 1)) ∧ (0, c0) ∈ l' ∧ (1, c1) ∈ l' ∧ ∀ j, j < i + 1 → ((if j = i then hn else Hn j), trm (T j)) ∈ l') := by
        obtain ⟨cs, hcs, _⟩ := r12
        have q := x12.set hcs (by decide) rW.out i (.int .u32 (hn : Int))
        refine ⟨_, q, .tail _ hlA.out.1, .tail _ hlA.out.2.1, fun j hj => ?_⟩
        by_cases c : j = i
        · subst c
          rw [if_pos rfl]
          exact .head _
        · rw [if_neg c]
          exact .tail _ (hlA.out.2.2 j (by omega))
      clear r11 u12 x12 r12 hlA hix
      go_wp2_with fail
      go_roundg (gk - 1)
      case measure => have := hI.out; have := iA.out; omega
      case rel =>
        have := hI.out
        have := iA.out
        exact ⟨i + 1, fun j => if j = i then hn else Hn j, by omega, rfl, x13, r13⟩
    · have ei : i = 3 := by have := hI.out; omega
      subst ei
      have ii : ¬ ((3 : Nat) : Int) < 3 := by omega
      clear i3
      obtain ⟨k, hk⟩ : ∃ k : Nat, zv % 6 = (k : Int) := ⟨(zv % 6).toNat, by omega⟩
      have hk6 : k < 6 := by omega
      have hz : Int.tmod zv 6 = zv % 6 := Int.tmod_eq_emod_of_nonneg z0
      have hwk : IntKind.i64.wrap (k : Int) = (k : Int) := by rw [IntKind.wrap_i64]; omega
      have hw8 : IntKind.u8.wrap (k : Int) = (k : Int) := by rw [IntKind.wrap_u8]; omega
      obtain ⟨l, xl, h0, h1, h2⟩ := x9.out
      obtain ⟨a, ha⟩ : ∃ a, Hn 0 = a := ⟨_, rfl⟩
      obtain ⟨b, hb⟩ : ∃ b, Hn 1 = b := ⟨_, rfl⟩
      obtain ⟨c, hc⟩ : ∃ c, Hn 2 = c := ⟨_, rfl⟩
      obtain ⟨A, hA⟩ : ∃ A, trm (T 0) = A := ⟨_, rfl⟩
      obtain ⟨B, hB⟩ : ∃ B, trm (T 1) = B := ⟨_, rfl⟩
      obtain ⟨C, hC⟩ : ∃ C, trm (T 2) = C := ⟨_, rfl⟩
      have x15 : Sx W wr S 6 32768 [(a, A), (b, B), (c, C), (0, c0), (1, c1)] 45 := xl.mono fun p hp => by
        have e0 := h2 0 (by omega)
        have e1 := h2 1 (by omega)
        have e2 := h2 2 (by omega)
        rw [ha, hA] at e0
        rw [hb, hB] at e1
        rw [hc, hC] at e2
        rcases hp with _ | ⟨_, _ | ⟨_, _ | ⟨_, _ | ⟨_, _ | ⟨_, hp⟩⟩⟩⟩⟩
        · exact e0
        · exact e1
        · exact e2
        · exact h0
        · exact h1
        · cases hp
      have I15 : Is3 wr xb (.int .u32 (a : Int)) (.int .u32 (b : Int)) (.int .u32 (c : Int)) := by
        have := is3_row r9.out
        rwa [show Hn 0 = a from ha, show Hn 1 = b from hb, show Hn 2 = c from hc] at this
      clear xl h0 h1 h2 ha hb hc hA hB hC x9 r9 hI rW
      go_upto_region 16 with fail
      have D0 := I15.cells
      have I0 : Is3 wr.drew xb (.int .u32 (a : Int)) (.int .u32 (b : Int)) (.int .u32 (c : Int)) := I15
      have x0 := x15.below ((Below.refl _ wr).drew)
      clear x15 I15
      have C0 : Calls Tryz.prog 13 #[.pointer (some ⟨S, 0, none⟩), .int .u32 (a : Int), .int .i64 (k : Int), .int .u32 (c : Int)] wr.drew _ := com_x x0 (v := k) (x := a) (X := A) (y := c) (Y := C) (.head _) (.tail _ (.tail _ (.head _))) hk6 15 (by decide) (by decide)
      go_region_held3 (fun u => u.cell? ⟨xb, 0, none⟩ = some (.int .u32 (a : Int)) ∧ u.cell? ⟨xb, 1, none⟩ = some (.int .u32 (b : Int)) ∧ u.cell? ⟨xb, 2, none⟩ = some (.int .u32 (c : Int))) (first | assumption) (first
        | (go_at_call 26; refine (must_c _ _).mono ?_; rintro e w' ⟨rfl, e9⟩; subst w')
        | (go_at_call 13; refine C0.mono ?_; clear C0; rintro e w1 ⟨p, rfl, x1, u1⟩; have I1 := u1.is3 I0; have D1 := I1.cells; clear u1 x0 I0; have C1 : Calls Tryz.prog 13 #[.pointer (some ⟨S, 0, none⟩), .int .u32 (b : Int), .int .i64 (k : Int), .int .u32 (c : Int)] w1 _ := com_x x1 (v := k) (x := b) (X := B) (y := c) (Y := C) (.tail _ (.tail _ (.head _))) (.tail _ (.tail _ (.tail _ (.head _)))) hk6 15 (by decide) (by decide))
        | (go_at_call 13; refine C1.mono ?_; clear C1; rintro e w2 ⟨q, rfl, x2, u2⟩; have I2 := u2.is3 I1; have D2 := I2.cells; clear u2 x1 I1))
      have I0 : Is3 w2.drew xb (.int .u32 (a : Int)) (.int .u32 (b : Int)) (.int .u32 (c : Int)) := I2
      have x0 := x2.below ((Below.refl _ w2).drew)
      clear x2 I2
      have C0 : Calls Tryz.prog 27 #[.pointer (some ⟨S, 0, none⟩), .int .u32 (a : Int), .int .u32 (b : Int)] w2.drew _ := and_x x0 (x := a) (X := A) (y := b) (Y := B) (.tail _ (.tail _ (.head _))) (.tail _ (.tail _ (.tail _ (.head _)))) 15 (by decide) (by decide)
      go_upto_region 17 with fail
      simp only [List.append]
      go_region_held3 (fun u => u.cell? ⟨xb, 0, none⟩ = some (.int .u32 (a : Int)) ∧ u.cell? ⟨xb, 1, none⟩ = some (.int .u32 (b : Int)) ∧ u.cell? ⟨xb, 2, none⟩ = some (.int .u32 (c : Int))) (first | assumption) (first
        | (go_at_call 26; refine (must_c _ _).mono ?_; rintro e w' ⟨rfl, e9⟩; subst w')
        | (go_at_call 27; refine C0.mono ?_; clear C0; rintro e w1 ⟨ad, rfl, x1, u1⟩; have I1 := u1.is3 I0; have D1 := I1.cells; clear u1 x0 I0; have C1 : Calls Tryz.prog 13 #[.pointer (some ⟨S, 0, none⟩), .int .u32 (ad : Int), .int .i64 (k : Int), .int .u32 (c : Int)] w1 _ := com_x x1 (v := k) (x := ad) (X := (fA A B)) (y := c) (Y := C) (.head _) (.tail _ (.tail _ (.tail _ (.tail _ (.tail _ (.head _)))))) hk6 15 (by decide) (by decide))
        | (go_at_call 13; refine C1.mono ?_; clear C1; rintro e w2 ⟨r1, rfl, x2, u2⟩; have I2 := u2.is3 I1; have D2 := I2.cells; clear u2 x1 I1; have C2 : Calls Tryz.prog 27 #[.pointer (some ⟨S, 0, none⟩), .int .u32 (p : Int), .int .u32 (q : Int)] w2 _ := and_x x2 (x := p) (X := (comF k A C)) (y := q) (Y := (comF k B C)) (.tail _ (.tail _ (.tail _ (.head _)))) (.tail _ (.tail _ (.head _))) 15 (by decide) (by decide))
        | (go_at_call 27; refine C2.mono ?_; clear C2; rintro e w3 ⟨r2, rfl, x3, u3⟩; have I3 := u3.is3 I2; have D3 := I3.cells; clear u3 x2 I2; have hsm : r2 = r1 := x3.same (X := (fA (comF k A C) (comF k B C))) (Y := (comF k (fA A B) C)) (.head _) (.tail _ (.head _)) (Eqt.refl _); subst r2; have C3 : Calls Tryz.prog 28 #[.pointer (some ⟨S, 0, none⟩), .int .u32 (a : Int), .int .u32 (b : Int)] w3 _ := or_x x3 (x := a) (X := A) (y := b) (Y := B) (.tail _ (.tail _ (.tail _ (.tail _ (.tail _ (.head _)))))) (.tail _ (.tail _ (.tail _ (.tail _ (.tail _ (.tail _ (.head _))))))) 15 (by decide) (by decide))
        | (go_at_call 28; refine C3.mono ?_; clear C3; rintro e w4 ⟨od, rfl, x4, u4⟩; have I4 := u4.is3 I3; have D4 := I4.cells; clear u4 x3 I3; have C4 : Calls Tryz.prog 13 #[.pointer (some ⟨S, 0, none⟩), .int .u32 (od : Int), .int .i64 (k : Int), .int .u32 (c : Int)] w4 _ := com_x x4 (v := k) (x := od) (X := (fO A B)) (y := c) (Y := C) (.head _) (.tail _ (.tail _ (.tail _ (.tail _ (.tail _ (.tail _ (.tail _ (.tail _ (.head _))))))))) hk6 15 (by decide) (by decide))
        | (go_at_call 13; refine C4.mono ?_; clear C4; rintro e w5 ⟨s1, rfl, x5, u5⟩; have I5 := u5.is3 I4; have D5 := I5.cells; clear u5 x4 I4; have C5 : Calls Tryz.prog 28 #[.pointer (some ⟨S, 0, none⟩), .int .u32 (p : Int), .int .u32 (q : Int)] w5 _ := or_x x5 (x := p) (X := (comF k A C)) (y := q) (Y := (comF k B C)) (.tail _ (.tail _ (.tail _ (.tail _ (.tail _ (.tail _ (.head _))))))) (.tail _ (.tail _ (.tail _ (.tail _ (.tail _ (.head _)))))) 15 (by decide) (by decide))
        | (go_at_call 28; refine C5.mono ?_; clear C5; rintro e w6 ⟨s2, rfl, x6, u6⟩; have I6 := u6.is3 I5; have D6 := I6.cells; clear u6 x5 I5; have hsm : s2 = s1 := x6.same (X := (fO (comF k A C) (comF k B C))) (Y := (comF k (fO A B) C)) (.head _) (.tail _ (.head _)) (Eqt.refl _); subst s2; have C6 : Calls Tryz.prog 29 #[.pointer (some ⟨S, 0, none⟩), .int .u32 (a : Int)] w6 _ := not_x x6 (x := a) (X := A) (.tail _ (.tail _ (.tail _ (.tail _ (.tail _ (.tail _ (.tail _ (.tail _ (.head _))))))))) 15 (by decide) (by decide))
        | (go_at_call 29; refine C6.mono ?_; clear C6; rintro e w7 ⟨na, rfl, x7, u7⟩; have I7 := u7.is3 I6; have D7 := I7.cells; clear u7 x6 I6; have C7 : Calls Tryz.prog 13 #[.pointer (some ⟨S, 0, none⟩), .int .u32 (na : Int), .int .i64 (k : Int), .int .u32 (c : Int)] w7 _ := com_x x7 (v := k) (x := na) (X := (fN A)) (y := c) (Y := C) (.head _) (.tail _ (.tail _ (.tail _ (.tail _ (.tail _ (.tail _ (.tail _ (.tail _ (.tail _ (.tail _ (.tail _ (.head _)))))))))))) hk6 15 (by decide) (by decide))
        | (go_at_call 13; refine C7.mono ?_; clear C7; rintro e w8 ⟨t1, rfl, x8, u8⟩; have I8 := u8.is3 I7; have D8 := I8.cells; clear u8 x7 I7; have C8 : Calls Tryz.prog 29 #[.pointer (some ⟨S, 0, none⟩), .int .u32 (p : Int)] w8 _ := not_x x8 (x := p) (X := (comF k A C)) (.tail _ (.tail _ (.tail _ (.tail _ (.tail _ (.tail _ (.tail _ (.tail _ (.tail _ (.head _)))))))))) 15 (by decide) (by decide))
        | (go_at_call 29; refine C8.mono ?_; clear C8; rintro e w9 ⟨t2, rfl, x9, u9⟩; have I9 := u9.is3 I8; have D9 := I9.cells; clear u9 x8 I8; have hsm : t2 = t1 := x9.same (X := (fN (comF k A C))) (Y := (comF k (fN A) C)) (.head _) (.tail _ (.head _)) (Eqt.refl _); subst t2))
      go_wp2_with fail
      go_ret
      exact ⟨rfl, x9.base⟩
end Go.Proofs.YtancdjjhjfhcbaaGreat
