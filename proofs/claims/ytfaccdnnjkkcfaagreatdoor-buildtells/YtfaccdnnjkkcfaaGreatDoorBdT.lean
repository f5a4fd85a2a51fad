/-
  Package build: the function of a node as a table (table, Func).
-/
import Derived.Test.YtfaccdnnjkkcfaaGreatDoorBdA
import Derived.Test.YtfaccdnnjkkcfaaGreatDoorBaseF
namespace Go.Proofs.YtfaccdnnjkkcfaaGreatDoor
open Go Go.RowKit
open Rf (fixAt fixF tab word same IsTab Cols)

theorem fieldW0 (b : Nat) (w : World) : (Instr.fieldAt 94 (.pointer (some ⟨b, 0, none⟩)) 0).run Tryz.prog w = .ok (.pointer (some ⟨b, 0, none⟩)) w := by go_simp
theorem fieldW1 (b : Nat) (w : World) : (Instr.fieldAt 94 (.pointer (some ⟨b, 0, none⟩)) 1).run Tryz.prog w = .ok (.pointer (some ⟨b, 1, none⟩)) w := by go_simp
theorem x_field {P : Program} {w : World} {o : Oper} {a : Act} {s : TypeId} {x : Operand} {f : Nat} {vx v : Value} (hop : o.op = .fieldAddr s x f) (hx : a.eval x = vx) (hb : (Instr.fieldAt s vx f).run P w = .ok v w) : (execOp a.eval o).run P w = .ok (.value v) w := by
  simp only [execOp, hop, hx, Sem.run_bind, hb, Result.andThen_ok]; rfl
theorem loadS {w : World} {ad a : Addr} {n c : Nat} (h : w.cell? ad = some (.slice (some a) n c)) : (Instr.loadAt 30 (.pointer (some ad))).run Tryz.prog w = .ok (.slice (some a) n c) w := by
  go_simp
theorem loadP {w : World} {ad a : Addr} (h : w.cell? ad = some (.pointer (some a))) : (Instr.loadAt 26 (.pointer (some ad))).run Tryz.prog w = .ok (.pointer (some a)) w := by
  go_simp
theorem callLevel (vs : Array Value) (w : World) : (callFunc 56 vs).run Tryz.prog w = .ok (.enter 56 vs) w := by
  have h := Tryz.func56
  go_simp
theorem callVar (vs : Array Value) (w : World) : (callFunc 75 vs).run Tryz.prog w = .ok (.enter 75 vs) w := by
  have h := Tryz.func75
  go_simp
theorem tbl_in {M : Mdl} (o : M.Ok) {x : Nat} (xm : x ∈ M.hs) (y : Nat) : M.tbl x y = ((Rf.M (M.v (M.nd x).1) y && M.tbl (M.nd x).2.2 y) || (!Rf.M (M.v (M.nd x).1) y && M.tbl (M.nd x).2.1 y)) := by
  show M.val x y.testBit = _
  rw [Mdl.val_in o xm, Rf.M_bit]
  show (if Rf.M _ y = true then M.tbl _ y else M.tbl _ y) = _
  cases Rf.M (M.v (M.nd x).1) y <;> simp

set_option maxRecDepth 100000 in
set_option maxHeartbeats 4000000 in
theorem table_step {w : World} {S : Nat} {F0 : Nat → Prop} {M : Mdl} {x g : Nat} (h : St w S F0 M) (xn : M.isNode x) (row : w.rowIs g 3 M.n (fun i => .int .i64 (M.v i : Int))) (hC : Cols w)
    (ih : x ∈ M.hs → ∀ {w' : World} {y : Nat}, St w' S F0 M → M.isNode y → M.lev x < M.lev y → w'.rowIs g 3 M.n (fun i => .int .i64 (M.v i : Int)) → Cols w' → Calls Tryz.prog 48 #[wkv S g M.n, .int .u32 (y : Int)] w' fun e w'' => e = .returned (tab (M.tbl y)) ∧ Below w'.heap.size w' w'') :
    Calls Tryz.prog 48 #[wkv S g M.n, .int .u32 (x : Int)] w fun e w' => e = .returned (tab (M.tbl x)) ∧ Below w.heap.size w w' := by
  have o := h.ok
  have B0 := ((Below.refl _ w).alloc (Nat.le_refl _) (.cells #[.pointer (some ⟨S, 0, none⟩), .slice (some ⟨g, 0, none⟩) M.n M.n] 94)).alloc (by simp) (.cells #[.int .u64 0, .int .u64 0, .int .u64 0, .int .u64 0] 24)
  have TW : IsBk _ w.heap.size S g M.n := (Is2.new 94 w (.pointer (some ⟨S, 0, none⟩)) (.slice (some ⟨g, 0, none⟩) M.n M.n)).alloc (.cells #[.int .u64 0, .int .u64 0, .int .u64 0, .int .u64 0] 24)
  have TZ := IsTab.zeroAt (w := w.alloc (.cells #[.pointer (some ⟨S, 0, none⟩), .slice (some ⟨g, 0, none⟩) M.n M.n] 94)) (n := w.heap.size + 1) (by simp)
  unfold wkv
  by_cases h2 : x < 2
  · have eT : Aside (tab (M.tbl x) = tab (fun _ => decide (x = 1))) := Rf.tab_ext fun y _ => Mdl.val_const h2 _
    rw [eT.out]
    have x2 : (x : Int) ≤ 1 := by omega
    have x2' : x ≤ 1 := by omega
    have e1 : ((x : Int) == 1) = decide (x = 1) := by
      have : x = 0 ∨ x = 1 := by omega
      rcases this with rfl | rfl <;> rfl
    clear ih
    go_enter Tryz.func48, Tryz.ntmps48
    go_upto_region 1 with fail
    generalize (w.alloc (.cells #[.pointer (some ⟨S, 0, none⟩), .slice (some ⟨g, 0, none⟩) M.n M.n] 94)).alloc (.cells #[.int .u64 0, .int .u64 0, .int .u64 0, .int .u64 0] 24) = w4 at B0 TW TZ ⊢
    go_wp2_with (first
      | (go_at_call 72; refine (Rf.pconst_any _ _).mono ?_; unfold tab; rintro e w5 ⟨rfl, b5⟩; have T5 := kept TZ b5; have y0 := T5.cell (k := 0) (by decide); have y1 := T5.cell (k := 1) (by decide); have y2 := T5.cell (k := 2) (by decide); have y3 := T5.cell (k := 3) (by decide); have z0 := T5.free 0; have z1 := T5.free 1; have z2 := T5.free 2; have z3 := T5.free 3))
    have B5 := Rf.below_far B0 b5
    exact bodyPost_ret (Rf.results_tab rfl rfl (Rf.laid_tab T5 _)) rfl ⟨rfl, B5.trans ((Rf.laid_turned _ _ _).below B5.size (by omega))⟩
  · have xm : x ∈ M.hs := xn.resolve_left h2
    have hx : x < 4294967296 := by have := (o.range x xm).2; omega
    have eT : Aside (tab (M.tbl x) = tab (fun y => (Rf.M (M.v (M.nd x).1) y && M.tbl (M.nd x).2.2 y) || (!Rf.M (M.v (M.nd x).1) y && M.tbl (M.nd x).2.1 y))) := Rf.tab_ext fun y _ => tbl_in o xm y
    obtain ⟨l, hl⟩ : ∃ l, (M.nd x).1 = l := ⟨_, rfl⟩
    obtain ⟨lo, hlo⟩ : ∃ lo, (M.nd x).2.1 = lo := ⟨_, rfl⟩
    obtain ⟨hi, hhi⟩ : ∃ hi, (M.nd x).2.2 = hi := ⟨_, rfl⟩
    have ln : l < M.n := by rw [← hl]; exact o.lv x xm
    have n8 := o.le8
    have hv : M.v l < 8 := by have := o.vlt l ln; omega
    have KLev : ∀ {w' : World}, St w' S F0 M → Calls Tryz.prog 56 #[.pointer (some ⟨S, 0, none⟩), .int .u32 (x : Int)] w' fun e w'' => e = .returned (.int .i64 (l : Int)) ∧ w'' = w' := fun h' => by rw [← hl, ← Mdl.lev_in o xm, ← Mdl.levI_node xn]; exact s_level h' x hx
    have KLow : ∀ {w' : World}, St w' S F0 M → Calls Tryz.prog 57 #[.pointer (some ⟨S, 0, none⟩), .int .u32 (x : Int)] w' fun e w'' => e = .returned (.int .u32 (lo : Int)) ∧ w'' = w' := fun h' => by rw [← hlo, ← Mdl.lowN_in o xm]; exact s_low h' x hx
    have KHigh : ∀ {w' : World}, St w' S F0 M → Calls Tryz.prog 58 #[.pointer (some ⟨S, 0, none⟩), .int .u32 (x : Int)] w' fun e w'' => e = .returned (.int .u32 (hi : Int)) ∧ w'' = w' := fun h' => by rw [← hhi, ← Mdl.highN_in o xm]; exact s_high h' x hx
    have ihL : ∀ {w' : World}, St w' S F0 M → w'.rowIs g 3 M.n (fun i => .int .i64 (M.v i : Int)) → Cols w' → Calls Tryz.prog 48 #[wkv S g M.n, .int .u32 (lo : Int)] w' fun e w'' => e = .returned (tab (M.tbl lo)) ∧ Below w'.heap.size w' w'' := fun h' r' c' => ih xm h' (by rw [← hlo]; exact (o.lo x xm).1) (by rw [← hlo, Mdl.lev_in o xm]; exact (o.lo x xm).2) r' c'
    have ihH : ∀ {w' : World}, St w' S F0 M → w'.rowIs g 3 M.n (fun i => .int .i64 (M.v i : Int)) → Cols w' → Calls Tryz.prog 48 #[wkv S g M.n, .int .u32 (hi : Int)] w' fun e w'' => e = .returned (tab (M.tbl hi)) ∧ Below w'.heap.size w' w'' := fun h' r' c' => ih xm h' (by rw [← hhi]; exact (o.hi x xm).1) (by rw [← hhi, Mdl.lev_in o xm]; exact (o.hi x xm).2) r' c'
    rw [hl, hlo, hhi] at eT
    obtain ⟨R, hR⟩ : ∃ R, tab (M.tbl x) = R := ⟨_, rfl⟩
    rw [hR] at eT ⊢
    clear ih hl hlo hhi hR
    have x2 : ¬ (x : Int) ≤ 1 := by omega
    have x2' : ¬ x ≤ 1 := by omega
    go_enter Tryz.func48, Tryz.ntmps48
    go_upto_region 3 with fail
    generalize (w.alloc (.cells #[.pointer (some ⟨S, 0, none⟩), .slice (some ⟨g, 0, none⟩) M.n M.n] 94)).alloc (.cells #[.int .u64 0, .int .u64 0, .int .u64 0, .int .u64 0] 24) = w4 at B0 TW TZ ⊢
    have h4 := h.below B0
    have row4 := row.of_block (B0.block g row.lt)
    have C4 := hC.kept B0
    have B0A : Aside (Below w.heap.size w w4) := B0
    obtain ⟨b, hb⟩ : ∃ b, w.heap.size = b := ⟨_, rfl⟩
    have hbA : Aside (w.heap.size = b) := hb
    have flt : ∀ k, F0 k → k < b := fun k hk => hb ▸ h.lt k hk
    have glt : g < b := hb ▸ row.lt
    rw [hb] at TW TZ ⊢
    clear B0 hb h row hC
    have cv : ∀ u, Below w4.heap.size w4 u → u.cell? ⟨g, 0 + l, none⟩ = some (.int .i64 (M.v l : Int)) := fun u hu => by
      rw [Nat.zero_add, hu.cell row4.lt]
      exact row4.cell ln
    refine Rf.wp_region_tabs' [.val 11 (.pointer (some ⟨b, 1, none⟩)), .val 12 (.slice (some ⟨g, 0, none⟩) M.n M.n), .val 13 (.pointer (some ⟨b, 0, none⟩)), .val 14 (.pointer (some ⟨S, 0, none⟩)), .val 15 (.int .u32 (x : Int)), .val 16 (.int .i64 (l : Int)), .val 17 (.pointer (some ⟨g, 0 + l, none⟩)), .val 18 (.int .i64 (M.v l : Int)), .val 19 (tab (Rf.M (M.v l))), .new 5, .put 5 (Rf.M (M.v l))] [11, 12, 13, 14, 15, 16, 17, 18, 19, 5] [5] [5] 34 (by kernel_rfl) (by kernel_rfl) rfl rfl rfl rfl (by decide) (by decide) rfl (by decide) ?_ ?_ ?_
    · intro s hs c hc
      simp only [List.mem_cons, List.not_mem_nil, or_false] at hs
      subst hs
      exact absurd (show undef = Rf.ptr c from hc) (by simp [undef, Rf.ptr])
    · intro i kk hk
      match i, hk with
      | 0, hk => obtain rfl := Option.some.inj hk; exact ⟨_, rfl, rfl, rfl, fun ac u hG hpre K hK => Rf.wp_val rfl (x_field rfl ((hG.other 2 (by decide)).trans rfl) (fieldW1 b u)) (hK u (Below.refl _ _))⟩
      | 1, hk => obtain rfl := Option.some.inj hk; exact ⟨_, rfl, rfl, rfl, fun ac u hG hpre K hK => Rf.wp_val rfl (Rf.x_load rfl (hpre ⟨0, .data⟩ (by simp) rfl _ rfl) (loadS (TW.below hG.below).c1)) (hK u (Below.refl _ _))⟩
      | 2, hk => obtain rfl := Option.some.inj hk; exact ⟨_, rfl, rfl, rfl, fun ac u hG hpre K hK => Rf.wp_val rfl (x_field rfl ((hG.other 2 (by decide)).trans rfl) (fieldW0 b u)) (hK u (Below.refl _ _))⟩
      | 3, hk => obtain rfl := Option.some.inj hk; exact ⟨_, rfl, rfl, rfl, fun ac u hG hpre K hK => Rf.wp_val rfl (Rf.x_load rfl (hpre ⟨2, .data⟩ (by simp) rfl _ rfl) (loadP (TW.below hG.below).c0)) (hK u (Below.refl _ _))⟩
      | 4, hk => obtain rfl := Option.some.inj hk; exact ⟨_, rfl, rfl, rfl, fun a u hG hpre K hK => Rf.wp_move rfl rfl ((hG.other 1 (by decide)).trans rfl) hK⟩
      | 5, hk =>
        obtain rfl := Option.some.inj hk
        refine ⟨_, rfl, rfl, rfl, fun ac u hG hpre K hK => ?_⟩
        have e0 : ac.eval (.tmp 14) = .pointer (some ⟨S, 0, none⟩) := hpre ⟨3, .data⟩ (by simp) rfl _ rfl
        have e1 : ac.eval (.tmp 15) = .int .u32 (x : Int) := hpre ⟨4, .data⟩ (by simp) rfl _ rfl
        exact Rf.wp_call rfl (Rf.run_call rfl #[.pointer (some ⟨S, 0, none⟩), .int .u32 (x : Int)] (fun vs => callLevel vs u) (by simp only [List.map_toArray, List.map_cons, List.map_nil, e0, e1])) ((KLev (h4.below hG.below)).mono fun e w' q => ⟨q.1, by rw [q.2]; exact Below.refl _ _⟩) hK
      | 6, hk => obtain rfl := Option.some.inj hk; exact ⟨_, rfl, rfl, rfl, fun ac u hG hpre K hK => Rf.wp_val rfl (Rf.x_index rfl (hpre ⟨1, .data⟩ (by simp) rfl _ rfl) (hpre ⟨5, .data⟩ (by simp) rfl _ rfl) (idxI g 0 l M.n M.n ln u)) (hK u (Below.refl _ _))⟩
      | 7, hk => obtain rfl := Option.some.inj hk; exact ⟨_, rfl, rfl, rfl, fun ac u hG hpre K hK => Rf.wp_val rfl (Rf.x_load rfl (hpre ⟨6, .data⟩ (by simp) rfl _ rfl) (loadI (cv u hG.below))) (hK u (Below.refl _ _))⟩
      | 8, hk =>
        obtain rfl := Option.some.inj hk
        refine ⟨_, rfl, rfl, rfl, fun ac u hG hpre K hK => ?_⟩
        have e0 : ac.eval (.tmp 18) = .int .i64 (M.v l : Int) := hpre ⟨7, .data⟩ (by simp) rfl _ rfl
        exact Rf.wp_call rfl (Rf.run_call rfl #[.int .i64 (M.v l : Int)] (fun vs => callVar vs u) (by simp only [List.map_toArray, List.map_cons, List.map_nil, e0])) (Rf.pvar_any (M.v l) hv u (C4.kept hG.below)) hK
      | 9, hk => obtain rfl := Option.some.inj hk; exact ⟨_, rfl, rfl, rfl, rfl⟩
      | 10, hk => obtain rfl := Option.some.inj hk; exact ⟨_, rfl, rfl, rfl, 19, rfl, ⟨⟨8, .data⟩, by simp, rfl, rfl⟩, ⟨⟨9, .data⟩, by simp, rfl, rfl⟩⟩
      | i + 11, hk => simp at hk
    · intro bp w6 s6 hnew hne hput
      have TX := hput 5 (Rf.M (M.v l)) (by simp)
      have TZ6 := kept TZ s6
      have TW6 := TW.below s6
      have lt5 := (hnew 5 (by simp)).1
      have ltZ := TZ.lt
      clear hput hnew hne cv
      simp only [Rf.fin, Rf.Kind.dst?, Rf.kval, Act.put, Rf.ptr, List.setIfInBounds_toArray, List.set_cons_succ, List.set_cons_zero]
      generalize bp 5 = pv at TX lt5 ⊢
      have h6 := h4.below s6
      have row6 := row4.of_block (s6.block g row4.lt)
      have C6 := C4.kept s6
      have B6 : Aside (Below w.heap.size w w6) := Rf.below_far B0A.out s6
      have wc0 : ∀ u, Rf.Sit w6 (b + 1) u → u.cell? ⟨b, 0, none⟩ = some (.pointer (some ⟨S, 0, none⟩)) := fun u s => Is2.c0 (show IsBk u b S g M.n from (s.turned.block b TW6.lt (by omega)).trans TW6)
      have wc1 : ∀ u, Rf.Sit w6 (b + 1) u → u.cell? ⟨b, 1, none⟩ = some (.slice (some ⟨g, 0, none⟩) M.n M.n) := fun u s => Is2.c1 (show IsBk u b S g M.n from (s.turned.block b TW6.lt (by omega)).trans TW6)
      have vw0 : ∀ u, Rf.Sit w6 (b + 1) u → u.cell? ⟨pv, 0, none⟩ = some (.int .u64 (word (Rf.M (M.v l)) 0 : Int)) := fun u s => s.cell TX (by omega) (by decide)
      have vw1 : ∀ u, Rf.Sit w6 (b + 1) u → u.cell? ⟨pv, 1, none⟩ = some (.int .u64 (word (Rf.M (M.v l)) 1 : Int)) := fun u s => s.cell TX (by omega) (by decide)
      have vw2 : ∀ u, Rf.Sit w6 (b + 1) u → u.cell? ⟨pv, 2, none⟩ = some (.int .u64 (word (Rf.M (M.v l)) 2 : Int)) := fun u s => s.cell TX (by omega) (by decide)
      have vw3 : ∀ u, Rf.Sit w6 (b + 1) u → u.cell? ⟨pv, 3, none⟩ = some (.int .u64 (word (Rf.M (M.v l)) 3 : Int)) := fun u s => s.cell TX (by omega) (by decide)
      have rr0 : ∀ u, Rf.Sit w6 (b + 1) u → u.cell? ⟨b + 1, 0, none⟩ = some (Rf.valAt u (b + 1) 0) := fun u s => s.place (by decide)
      have rr1 : ∀ u, Rf.Sit w6 (b + 1) u → u.cell? ⟨b + 1, 1, none⟩ = some (Rf.valAt u (b + 1) 1) := fun u s => s.place (by decide)
      have rr2 : ∀ u, Rf.Sit w6 (b + 1) u → u.cell? ⟨b + 1, 2, none⟩ = some (Rf.valAt u (b + 1) 2) := fun u s => s.place (by decide)
      have rr3 : ∀ u, Rf.Sit w6 (b + 1) u → u.cell? ⟨b + 1, 3, none⟩ = some (Rf.valAt u (b + 1) 3) := fun u s => s.place (by decide)
      have rf : ∀ k u, Rf.Sit w6 (b + 1) u → u.frozen? ⟨b + 1, k, none⟩ = false := fun k u s => s.free k
      have hS : ∀ u, Rf.Sit w6 (b + 1) u → St u S F0 M := fun u s => h6.kept fun k hk => s.turned.block k (h6.lt k hk) (by have := flt k hk; omega)
      have hR : ∀ u, Rf.Sit w6 (b + 1) u → u.rowIs g 3 M.n (fun i => .int .i64 (M.v i : Int)) := fun u s => row6.of_block (s.turned.block g row6.lt (by omega))
      have hC : ∀ u, Rf.Sit w6 (b + 1) u → Cols u := fun u s => C6.same s.turned.size (s.turned.block 0 C6.1 (by omega))
      have KT : ∀ {f : Nat} {H : Nat → Bool} {u : World}, (∀ {w' : World}, St w' S F0 M → w'.rowIs g 3 M.n (fun i => .int .i64 (M.v i : Int)) → Cols w' → Calls Tryz.prog 48 #[wkv S g M.n, .int .u32 (f : Int)] w' fun e w'' => e = .returned (tab H) ∧ Below w'.heap.size w' w'') → Rf.Sit w6 (b + 1) u → Calls Tryz.prog 48 #[.agg #[.pointer (some ⟨S, 0, none⟩), .slice (some ⟨g, 0, none⟩) M.n M.n], .int .u32 (f : Int)] u fun e w'' => e = .returned (tab H) ∧ Below u.heap.size u w'' := fun q s => q (hS _ s) (hR _ s) (hC _ s)
      have KTL : ∀ {u : World}, Rf.Sit w6 (b + 1) u → Calls Tryz.prog 48 #[.agg #[.pointer (some ⟨S, 0, none⟩), .slice (some ⟨g, 0, none⟩) M.n M.n], .int .u32 (lo : Int)] u fun e w'' => e = .returned (tab (M.tbl lo)) ∧ Below u.heap.size u w'' := fun s => KT ihL s
      have KTH : ∀ {u : World}, Rf.Sit w6 (b + 1) u → Calls Tryz.prog 48 #[.agg #[.pointer (some ⟨S, 0, none⟩), .slice (some ⟨g, 0, none⟩) M.n M.n], .int .u32 (hi : Int)] u fun e w'' => e = .returned (tab (M.tbl hi)) ∧ Below u.heap.size u w'' := fun s => KT ihH s
      clear KT ihL ihH KLev TW6 TX h6 row6 C6 TW TZ h4 row4 C4 s6 ltZ lt5
      go_upto_region 4 with fail
      go_region_held3 (fun u => Rf.Sit w6 (b + 1) u) (first | assumption | exact Rf.Sit.start TZ6 | exact Rf.Sit.call (by assumption) (by assumption) | exact Rf.Sit.laid (by assumption) _) (first
        | (go_at_call 57; refine (KLow (hS _ (by assumption))).mono ?_; rintro e w9 ⟨rfl, e9⟩; subst w9)
        | (go_at_call 58; refine (KHigh (hS _ (by assumption))).mono ?_; rintro e w9 ⟨rfl, e9⟩; subst w9)
        | (go_at_call_of 48 (Value.int .u32 (lo : Int)); refine (KTL (by assumption)).mono ?_; rintro e w9 ⟨rfl, b9⟩)
        | (go_at_call_of 48 (Value.int .u32 (hi : Int)); refine (KTH (by assumption)).mono ?_; rintro e w9 ⟨rfl, b9⟩)
        | (go_at_call 76; refine (Rf.pite_any (Rf.M (M.v l)) (M.tbl hi) (M.tbl lo) _).mono ?_; unfold tab; rintro e w9 ⟨rfl, b9⟩))
      have S9 : Rf.Sit w6 (b + 1) w9 := Rf.Sit.call b9 (Rf.Sit.call (by assumption) (Rf.Sit.call (by assumption) (Rf.Sit.start TZ6)))
      obtain ⟨F', hF'⟩ := S9.room
      go_wp2_with fail
      have e0 := hbA.out
      exact bodyPost_ret (Rf.results_tab rfl rfl (Rf.laid_tab hF' _)) rfl ⟨by rw [eT.out], B6.out.trans ((S9.laid _).turned.below B6.out.size (by omega))⟩
theorem table_any (d : Nat) : ∀ {w : World} {S : Nat} {F0 : Nat → Prop} {M : Mdl} {x g : Nat}, St w S F0 M → M.isNode x → w.rowIs g 3 M.n (fun i => .int .i64 (M.v i : Int)) → Cols w → M.n - M.lev x ≤ d →
    Calls Tryz.prog 48 #[wkv S g M.n, .int .u32 (x : Int)] w fun e w' => e = .returned (tab (M.tbl x)) ∧ Below w.heap.size w w' := by
  induction d with
  | zero =>
    intro w S F0 M x g h xn row hC hf
    refine table_step h xn row hC fun xm => ?_
    have := h.ok.lv x xm
    rw [Mdl.lev_in h.ok xm] at hf
    omega
  | succ d ih =>
    intro w S F0 M x g h xn row hC hf
    refine table_step h xn row hC fun xm => ?_
    intro w' y h' yn hy r' c'
    exact ih h' yn r' c' (by have := Mdl.lev_le h.ok yn; omega)
section
variable {w : World} {S : Nat} {F0 : Nat → Prop} {M : Mdl}
set_option maxHeartbeats 1000000 in
/-- Func tells a node's function. -/
theorem bfunc_op (h : St w S F0 M) {x : Nat} (xn : M.isNode x) (hC : Cols w) :
    Calls Tryz.prog 14 #[.pointer (some ⟨S, 0, none⟩), .int .u32 (x : Int)] w fun e w' => e = .returned (.tuple #[tab (M.tbl x), .int .i64 0]) ∧ Below w.heap.size w w' := by
  have xb := Mdl.isNode_lt h.ok xn
  have B0 := (Below.refl _ w).alloc (Nat.le_refl _) (.cells #[.int .u64 0, .int .u64 0, .int .u64 0, .int .u64 0] 24)
  have TZ := IsTab.zeroAt (w := w) (n := w.heap.size) rfl
  have K1 : Calls Tryz.prog 47 #[.pointer (some ⟨S, 0, none⟩), .int .u32 (x : Int)] _ _ := s_is (h.below B0) x (by omega)
  rw [Mdl.nodeB_true xn] at K1
  have K2 := start_any (h.below B0)
  have KT : Aside (∀ u g, Below w.heap.size w u → u.rowIs g 3 M.n (fun i => .int .i64 (M.v i : Int)) → Calls Tryz.prog 48 #[wkv S g M.n, .int .u32 (x : Int)] u fun e w' => e = .returned (tab (M.tbl x)) ∧ Below u.heap.size u w') := fun u g k r => table_any (M.n - M.lev x) (h.below k) xn r (hC.kept k) (Nat.le_refl _)
  go_enter Tryz.func14, Tryz.ntmps14
  go_upto_region 1 with fail
  generalize w.alloc (.cells #[.int .u64 0, .int .u64 0, .int .u64 0, .int .u64 0] 24) = w4 at B0 TZ K1 K2 ⊢
  go_wp2_with (first
    | (go_at_call 47; refine K1.mono ?_; clear K1; rintro e w5 ⟨rfl, e5⟩; subst w5)
    | (go_at_call 44; refine K2.mono ?_; clear K2; rintro e w5 ⟨g, rfl, r5, b5, g5⟩; have K3 := KT.out w5 g (Rf.below_far B0 b5) r5)
    | (go_at_call 48; refine K3.mono ?_; clear K3; unfold tab; rintro e w6 ⟨rfl, b6⟩; have T6 := kept TZ (Rf.below_far b5 b6); have y0 := T6.cell (k := 0) (by decide); have y1 := T6.cell (k := 1) (by decide); have y2 := T6.cell (k := 2) (by decide); have y3 := T6.cell (k := 3) (by decide); have z0 := T6.free 0; have z1 := T6.free 1; have z2 := T6.free 2; have z3 := T6.free 3))
  have B6 := Rf.below_far B0 (Rf.below_far b5 b6)
  exact bodyPost_ret (results_tab2 rfl rfl rfl (Rf.laid_tab T6 _)) rfl ⟨rfl, B6.trans ((Rf.laid_turned _ _ _).below B6.size (by omega))⟩
theorem bfunc_bad (h : St w S F0 M) {x : Nat} (hx : x < 4294967296) (xn : ¬ M.isNode x) :
    Calls Tryz.prog 14 #[.pointer (some ⟨S, 0, none⟩), .int .u32 (x : Int)] w fun e w' => e = .returned (.tuple #[tab (fun _ => false), .int .i64 101]) ∧ Below w.heap.size w w' := by
  have B0 := (Below.refl _ w).alloc (Nat.le_refl _) (.cells #[.int .u64 0, .int .u64 0, .int .u64 0, .int .u64 0] 24)
  have TZ := IsTab.zeroAt (w := w) (n := w.heap.size) rfl
  have K1 : Calls Tryz.prog 47 #[.pointer (some ⟨S, 0, none⟩), .int .u32 (x : Int)] _ _ := s_is (h.below B0) x (by omega)
  rw [Mdl.nodeB_false xn] at K1
  go_enter Tryz.func14, Tryz.ntmps14
  go_upto_region 1 with fail
  generalize w.alloc (.cells #[.int .u64 0, .int .u64 0, .int .u64 0, .int .u64 0] 24) = w4 at B0 TZ K1 ⊢
  obtain ⟨z0, z1, z2, z3⟩ := TZ.copy
  have y0 := TZ.free 0
  have y1 := TZ.free 1
  have y2 := TZ.free 2
  have y3 := TZ.free 3
  go_wp2_with (first
    | (go_at_call 47; refine K1.mono ?_; clear K1; rintro e w5 ⟨rfl, e5⟩; subst w5))
  have L := Rf.laid_tab TZ (fun _ => false)
  have T := Rf.laid_turned w4 w.heap.size (fun _ => false)
  unfold Rf.laid at L T
  simp only [Rf.zero_int] at L T
  exact bodyPost_ret (results_tab2 rfl rfl rfl L) rfl ⟨rfl, B0.trans (T.below B0.size (Nat.le_refl _))⟩
end
end Go.Proofs.YtfaccdnnjkkcfaaGreatDoor
