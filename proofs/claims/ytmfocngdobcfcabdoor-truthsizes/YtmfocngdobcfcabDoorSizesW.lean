/-
  The statement TruthSizes, walked.
-/
import Derived.Test.YtmfocngdobcfcabDoorSizesO
import Derived.Test.YtmfocngdobcfcabDoorKnown
namespace Go.Proofs.YtmfocngdobcfcabDoor
open Go Go.RowKit

/-- A slice of bytes among the arguments. -/
def BytesAt (w : World) (ad : Option Addr) (n : Nat) (Z : Nat → Nat) : Prop :=
  n = 0 ∨ ∃ b off, ad = some ⟨b, off, none⟩ ∧ b < w.heap.size ∧ ∀ i, i < n → w.cell? ⟨b, off + i, none⟩ = some (.int .u8 (Z i : Int)) ∧ Z i < 256
theorem BytesAt.kept {w w' : World} {ad : Option Addr} {n : Nat} {Z : Nat → Nat} (h : BytesAt w ad n Z) (k : Below w.heap.size w w') : BytesAt w' ad n Z := by
  rcases h with h | ⟨b, off, e, hb, hc⟩
  · exact .inl h
  · exact .inr ⟨b, off, e, Nat.lt_of_lt_of_le hb k.size, fun i hi => by rw [k.cell hb]; exact hc i hi⟩

theorem wp_alloc {o : Oper} {a : Act} {w w' : World} {K : Act → World → Prop} {Q : Exit → Act → World → Prop} {d : Tmp} {v : Value} (hd : o.dst = some d) (hrun : (execOp a.eval o).run Tryd.prog w = .ok (.value v) w') (h : K (a.put (some d) v) w') : o.wp Tryd.prog a w K Q := by
  unfold Oper.wp
  rw [hrun, Oper.upon_value, hd]
  exact h
theorem x_build {o : Oper} {a : Act} {w w' : World} {t : TypeId} {n : Nat} {ps : Array (Nat × Operand)} {qs : Array (Nat × Value)} {v : Value} (hop : o.op = .buildSlice t n ps) (hp : ps.map (fun x => (x.1, a.eval x.2)) = qs) (hb : (Instr.buildSlice t n qs).run Tryd.prog w = .ok v w') : (execOp a.eval o).run Tryd.prog w = .ok (.value v) w' := by
  subst hp
  simp only [execOp, hop, Sem.run_bind]
  have e : (ps.map fun x => match x with | (i, x) => (i, a.eval x)) = ps.map (fun x => (x.1, a.eval x.2)) := rfl
  rw [e, hb]
  rfl

set_option maxRecDepth 100000 in
set_option maxHeartbeats 6400000 in
theorem sizes_any (F G : Nat → Bool) (ad : Option Addr) (n cap : Nat) (Z : Nat → Nat) (w : World) (hC : Cols w) (hg : Grp w) (hz : BytesAt w ad n Z) :
    Calls Tryd.prog 4 #[tab F, tab G, .slice ad n cap] w fun e w' => e = .returned (.bool true) ∧ Below w.heap.size w w' := by
  conv in #[tab F, tab G, _] => unfold tab
  have TF := ((IsTab.newAt (w := w) (n := w.heap.size) (by simp) F).alloc (.cells #[.int .u64 (word G 0 : Int), .int .u64 (word G 1 : Int), .int .u64 (word G 2 : Int), .int .u64 (word G 3 : Int)] 24))
  have TG := (IsTab.newAt (w := (w.alloc (.cells #[.int .u64 (word F 0 : Int), .int .u64 (word F 1 : Int), .int .u64 (word F 2 : Int), .int .u64 (word F 3 : Int)] 24))) (n := w.heap.size + 1) (by simp) G)
  have B0 := (((Below.refl _ w).alloc (Nat.le_refl _) (.cells #[.int .u64 (word F 0 : Int), .int .u64 (word F 1 : Int), .int .u64 (word F 2 : Int), .int .u64 (word F 3 : Int)] 24)).alloc (by simp) (.cells #[.int .u64 (word G 0 : Int), .int .u64 (word G 1 : Int), .int .u64 (word G 2 : Int), .int .u64 (word G 3 : Int)] 24))
  by_cases h8 : 8 < n
  · have h8' : (8 : Int) < (n : Int) := by omega
    go_enter Tryd.func4, Tryd.ntmps4
    go_wp2_with (first
      | (go_at_call 6; generalize ((w.alloc (.cells #[.int .u64 (word F 0 : Int), .int .u64 (word F 1 : Int), .int .u64 (word F 2 : Int), .int .u64 (word F 3 : Int)] 24)).alloc (.cells #[.int .u64 (word G 0 : Int), .int .u64 (word G 1 : Int), .int .u64 (word G 2 : Int), .int .u64 (word G 3 : Int)] 24)) = w4 at TF TG B0 ⊢; refine (known_any _ (hC.kept B0) (hg.kept B0)).mono ?_; rintro e w5 ⟨rfl, b5⟩; have B5 := below_far B0 b5; have C5 := hC.kept B5; have G5 := hg.kept B5; have TF := TF.kept b5; have TG := TG.kept b5; clear b5 B0))
    go_ret
    exact ⟨rfl, B5⟩
  · have h8' : ¬ (8 : Int) < (n : Int) := by omega
    go_enter Tryd.func4, Tryd.ntmps4
    go_wp2_with (first
      | (go_at_call 6; generalize ((w.alloc (.cells #[.int .u64 (word F 0 : Int), .int .u64 (word F 1 : Int), .int .u64 (word F 2 : Int), .int .u64 (word F 3 : Int)] 24)).alloc (.cells #[.int .u64 (word G 0 : Int), .int .u64 (word G 1 : Int), .int .u64 (word G 2 : Int), .int .u64 (word G 3 : Int)] 24)) = w4 at TF TG B0 ⊢; refine (known_any _ (hC.kept B0) (hg.kept B0)).mono ?_; rintro e w5 ⟨rfl, b5⟩; have B5 := below_far B0 b5; have C5 := hC.kept B5; have G5 := hg.kept B5; have TF := TF.kept b5; have TG := TG.kept b5; clear b5 B0))
    have hw5 : w.heap.size + 1 < w5.heap.size := TG.lt
    go_loopg [7, 8] 8 (fun gg sl si wr => ∃ (v : Nat) (adl : Option Addr) (capl : Nat) (O : List Nat), v + gg = 8 ∧ si = .int .i64 (v : Int) ∧ O.length = v ∧ O.Perm (List.range v) ∧ sl = .slice adl O.length capl ∧ OwnI wr w5.heap.size adl O capl ∧ Below w5.heap.size w5 wr)
    case atStart => exact ⟨0, none, 0, [], by omega, rfl, rfl, List.Perm.refl _, rfl, OwnI.nil _ _, Below.refl _ _⟩
    case round =>
      obtain ⟨v, adl, capl, O, hv0, rfl, hO, hP, rfl, hOw, hB⟩ := hrel
      have hVV : Aside (v + gk = 8) := hv0
      have HO : Aside (O.length = v) := hO
      have hO9 : O.length ≤ 8 := by have := hVV.out; omega
      clear hv0 hO
      by_cases hv8 : v < 8
      · have hv8' : (v : Int) < 8 := by omega
        go_upto_if 28 with fail
        go_cut [9] (fun s wc => ∃ k : Nat, k ≤ v ∧ s = .int .i64 (k : Int) ∧ wc = wr)
        case first =>
          by_cases hvn : v < n
          · have hvn' : (v : Int) < (n : Int) := by omega
            rcases hz.kept (below_far B5 hB) with h0 | ⟨b, off, rfl, hb, hc⟩
            · omega
            · obtain ⟨hcv, hzv⟩ := hc v hvn
              clear hc
              have hm : (Z v : Int) % ((v : Int) + 1) = ((Z v % (v + 1) : Nat) : Int) := by simp
              have hk : Z v % (v + 1) ≤ v := by have := Nat.mod_lt (Z v) (show 0 < v + 1 by omega); omega
              generalize Z v % (v + 1) = k at hm hk
              generalize Z v = z at hm hcv hzv
              have hz0 : (0 : Int) ≤ (z : Int) := by omega
              have hz9 : (z : Int) < 256 := by omega
              go_wp2_with fail
              go_meet
              exact ⟨k, hk, by rw [hm], rfl⟩
          · have hvn' : ¬ (v : Int) < (n : Int) := by omega
            go_wp2_with fail
            go_meet
            exact ⟨0, Nat.zero_le _, rfl, rfl⟩
        case rest =>
          obtain ⟨k, hkv, rfl, rfl⟩ := hcut
          have hbs := hB.size
          go_wp2_with (first
            | (at_builtin; refine append_zero (hOw.new _) _ (Go.Deep.blk_alloc_new _ _) (by omega) (by simp; omega) rfl _ _ rfl rfl rfl ?_; intro g cap1 w7 o7 g7 at7 lt7))
          obtain ⟨cur, hcur, hBg, hc1, hc2, hc3, hc4⟩ := o7.row
          have hlen : (O ++ [0]).length = O.length + 1 := by simp
          have hdl : ((O.drop k).map iv).length = O.length - k := by simp
          have B7 : Below w5.heap.size w5 w7 := (hB.alloc hbs _).grown g7 (by simp; omega) (fun q hq => (hOw.blockGe q hq).1)
          have q1 : IntKind.i64.wrap ((k : Int) + 1) = (k : Int) + 1 := by rw [IntKind.wrap_i64]; omega
          have q2 : ((k : Int) + 1).toNat = k + 1 := by omega
          have q3 : (k : Int) ≤ (O.length : Int) := by have := HO.out; omega
          have q4 : k ≤ O.length := by have := HO.out; omega
          have q5 : ¬ cap1 = k := by rw [hlen] at hc1; omega
          have q6 : (k : Int) ≤ (O.length : Int) + 1 := by omega
          have q7 : (0 : Int) ≤ (k : Int) + 1 := by omega
          rw [hlen] at hc1
          clear hlen
          have HD : Hid (((O.drop k).map iv).length = O.length - k) := hdl
          clear hdl
          have hmin : Hid (((O.drop k).map iv).length = Nat.min (O.length + 1 - k) (O.length - k)) := by
            show ((O.drop k).map iv).length = min (O.length + 1 - k) (O.length - k)
            rw [HD.out]; omega
          go_upto_region 13 with fail
          go_cut [47] (fun s wx => wx.heap[g]? = some (.cells (splice cur (k + 1) ((O.drop k).map iv)).toArray 3 (0, 0)) ∧ Below w5.heap.size w5 wx)
          case first =>
            by_cases hck : cap1 = k + 1
            · subst hck
              go_region_law (refine step_copy_splice rfl (.tmp 43) (.tmp 46) 34 34 rfl 3 Tryd.underlying34 (by kernel_rfl) (some ⟨g, 0, none⟩) (some ⟨g, k, none⟩) 0 0 (O.length + 1 - k) 1 (by simp [Act.eval, Act.put]) (by simp [Act.eval, Act.put]) g (k + 1) cur 3 hcur ((O.drop k).map iv) (by rw [HD.out]; show O.length - k = min (O.length + 1 - k) 0; omega) (fun q => by rw [HD.out] at q; omega) (by rw [HD.out]; omega) (fun v hv => by obtain ⟨x, _, rfl⟩ := List.mem_map.1 hv; rfl) w5.heap.size w5 B7.drew hBg ?_; intro w8 hg8 hb8)
              go_wp2_with fail
              go_meet
              exact ⟨hg8.out, hb8⟩
            · go_region_law (refine step_copy_splice rfl (.tmp 43) (.tmp 46) 34 34 rfl 3 Tryd.underlying34 (by kernel_rfl) (some ⟨g, k + 1, none⟩) (some ⟨g, k, none⟩) (O.length - k) (cap1 - (k + 1)) (O.length + 1 - k) (cap1 - k) (by simp [Act.eval, Act.put]) (by simp [Act.eval, Act.put]) g (k + 1) cur 3 hcur ((O.drop k).map iv) hmin.out (fun _ => ⟨rfl, _, rfl, drop_cells o7⟩) (by rw [HD.out]; omega) (fun v hv => by obtain ⟨x, _, rfl⟩ := List.mem_map.1 hv; rfl) w5.heap.size w5 B7.drew hBg ?_; intro w8 hg8 hb8)
              go_wp2_with fail
              go_meet
              exact ⟨hg8.out, hb8⟩
          case rest =>
            obtain ⟨hx1, hx2⟩ := hcut
            have o8 : OwnI wc w5.heap.size (some ⟨g, 0, none⟩) (shifted O k) cap1 := OwnI.of_row hx1 hBg (by rw [shifted_length O k q4]; omega) hc2 (by rw [length_splice _ _ _ (by rw [HD.out]; omega)]; exact hc3) (splice_take q4 (by simpa using hc4))
            clear hx1
            obtain ⟨x0, hx0⟩ : ∃ x0, ((shifted O k).map iv)[k]? = some (iv x0) := ⟨(shifted O k)[k]'(by rw [shifted_length O k q4]; omega), by rw [List.getElem?_map, List.getElem?_eq_getElem (by rw [shifted_length O k q4]; omega)]; rfl⟩
            have c8 : wc.cell? ⟨g, k, none⟩ = some (iv x0) := (World.ownsRow.cellAt o8 k (by rw [shifted_length O k q4]; omega)).trans hx0
            have f8 := World.ownsRow.frozenAt o8 k
            obtain ⟨o9, g9⟩ := World.ownsRow.stored o8 k (iv v)
            have e9 : ((shifted O k).map iv).set k (iv v) = (insAt O k v).map iv := by rw [← List.map_set, shifted_set O k v q4]
            unfold iv at c8
            go_wp2_with fail
            go_roundg (gk - 1)
            case measure => have := hVV.out; omega
            case rel =>
              have h1 := hVV.out
              have h2 := HO.out
              have hil := insAt_length O k v
              refine ⟨v + 1, some ⟨g, 0, none⟩, cap1, insAt O k v, by omega, rfl, by omega, ?_, by rw [hil], ?_, ?_⟩
              · refine (insAt_perm O k v).trans ((List.Perm.cons v hP).trans ?_)
                rw [List.range_succ]
                exact (List.perm_append_comm (l₁ := List.range v) (l₂ := [v])).symm
              · unfold OwnI
                rw [hil, ← e9, ← shifted_length O k q4]
                exact o9
              · exact hx2.grown g9 hx2.size (fun q hq => by obtain rfl := Option.some.inj hq; exact hBg)
      · obtain rfl : v = 8 := by have := hVV.out; omega
        have hl8 := HO.out
        have hord := ordV_order hP
        obtain ⟨hI, hcp⟩ := ordV_ints hOw hl8
        have hsz := sizes_ok F G hord (Three F G) rfl rfl rfl
        have hz77 : sizeN (One1 G) 1 (ordV O) 8 ≤ 77 := by rw [size_cnt _ _ hord]; exact cnt_77 G hord
        obtain ⟨V, hV⟩ : ∃ V, V = ordV O := ⟨_, rfl⟩
        rw [← hV] at hI hsz hz77
        clear hV hord hOw hP HO hVV
        have Br := below_far B5 hB
        have TFr := TF.kept hB
        have TGr := TG.kept hB
        have Cr := C5.kept hB
        have e8 : O.length = 8 := hl8
        rw [hl8]
        clear hl8 e8
        obtain ⟨na, hna⟩ : ∃ na, na = sizeN (One1 F) 1 V 8 := ⟨_, rfl⟩
        obtain ⟨nb, hnb⟩ : ∃ nb, nb = sizeN (One1 G) 1 V 8 := ⟨_, rfl⟩
        obtain ⟨nc, hnc⟩ : ∃ nc, nc = sizeN (Three F G) 3 V 8 := ⟨_, rfl⟩
        rw [← hna, ← hnb, ← hnc] at hsz
        rw [← hnb] at hz77
        obtain ⟨z1, z2, z3, z4, z5, z6, z7⟩ := hsz
        have HA : Hid (na = sizeN (One1 F) 1 V 8) := hna
        have HBn : Hid (nb = sizeN (One1 G) 1 V 8) := hnb
        have HCn : Hid (nc = sizeN (Three F G) 3 V 8) := hnc
        have HZ1 : Hid (sizeN (One1 fun x => !F x) 1 V 8 = na) := z1
        clear hna hnb hnc z1
        go_upto_region 15 with fail
        refine wp_region_exs (fun u => Below wr.heap.size wr u) (fun u u' => Below u.heap.size u u') [(52, is (tab F)), (53, tabs1 F), (54, is (.slice adl 8 capl)), (55, is (.int .i64 (na : Int))), (56, is (tab G)), (57, tabs1 G), (58, is (.slice adl 8 capl)), (59, is (.int .i64 (nb : Int))), (10, is (.int .i64 (na : Int))), (11, is (.int .i64 (nb : Int)))] [52, 53, 54, 55, 56, 57, 58, 59, 10, 11] 118 (by kernel_rfl) (by kernel_rfl) rfl rfl (by decide) rfl rfl (Below.refl _ _).drew ?_ ?_ ?_
        · intro i kk hk
          match i, hk with
          | 0, hk => obtain rfl := Option.some.inj hk; exact fun v u u' k h => h
          | 1, hk => obtain rfl := Option.some.inj hk; exact fun v u u' k h => tabs1_stay k h
          | 2, hk => obtain rfl := Option.some.inj hk; exact fun v u u' k h => h
          | 3, hk => obtain rfl := Option.some.inj hk; exact fun v u u' k h => h
          | 4, hk => obtain rfl := Option.some.inj hk; exact fun v u u' k h => h
          | 5, hk => obtain rfl := Option.some.inj hk; exact fun v u u' k h => tabs1_stay k h
          | 6, hk => obtain rfl := Option.some.inj hk; exact fun v u u' k h => h
          | 7, hk => obtain rfl := Option.some.inj hk; exact fun v u u' k h => h
          | 8, hk => obtain rfl := Option.some.inj hk; exact fun v u u' k h => h
          | 9, hk => obtain rfl := Option.some.inj hk; exact fun v u u' k h => h
          | i + 10, hk => simp at hk
        · intro i kk hk
          match i, hk with
          | 0, hk => obtain rfl := Option.some.inj hk; exact ⟨_, rfl, rfl, rfl, doesE_val (fun _ => Below.refl _ _) rfl fun ac u hG hL => x_load rfl ((hG.other 3 (by decide)).trans rfl) (run_load24 (TFr.kept hG.here))⟩
          | 1, hk =>
            obtain rfl := Option.some.inj hk
            refine ⟨_, rfl, rfl, rfl, fun ac u hG hL K hK => ?_⟩
            have e0 : ac.eval (.tmp 52) = tab F := hL ⟨0, .data⟩ (by simp) rfl _ rfl
            exact wp_alloc rfl (x_build rfl (by simp only [List.map_toArray, List.map_cons, List.map_nil, e0]) (run_build1 F u)) (hK _ _ (hG.here.alloc hG.here.size _) ((Below.refl _ u).alloc (Nat.le_refl _) _) (tabs1_new u F))
          | 2, hk => obtain rfl := Option.some.inj hk; exact ⟨_, rfl, rfl, rfl, doesE_val (fun _ => Below.refl _ _) rfl fun ac u hG hL => x_move rfl ((hG.other 7 (by decide)).trans rfl)⟩
          | 3, hk =>
            obtain rfl := Option.some.inj hk
            refine ⟨_, rfl, rfl, rfl, fun ac u hG hL K hK => ?_⟩
            obtain ⟨b, e0, ht⟩ : tabs1 F (slot ac 53) u := hL ⟨1, .data⟩ (by simp) rfl _ rfl
            have e0' : ac.eval (.tmp 53) = .slice (some ⟨b, 0, none⟩) 1 1 := e0
            have e1 : ac.eval (.tmp 54) = .slice adl 8 capl := hL ⟨2, .data⟩ (by simp) rfl _ rfl
            have hc := psize_any (some ⟨b, 0, none⟩) adl 1 1 8 capl (One1 F) V u (Cr.kept hG.here) ht (hI.kept hG.here) (by decide) (by decide) hcp
            rw [show min 8 8 = 8 from rfl, ← HA.out] at hc
            exact wp_call rfl (run_call rfl #[.slice (some ⟨b, 0, none⟩) 1 1, .slice adl 8 capl] (fun vs => kall14 vs u) (by simp only [List.map_toArray, List.map_cons, List.map_nil, e0', e1])) hc (fun u' hb => hK _ _ (below_far hG.here hb) hb rfl)
          | 4, hk => obtain rfl := Option.some.inj hk; exact ⟨_, rfl, rfl, rfl, doesE_val (fun _ => Below.refl _ _) rfl fun ac u hG hL => x_load rfl ((hG.other 4 (by decide)).trans rfl) (run_load24 (TGr.kept hG.here))⟩
          | 5, hk =>
            obtain rfl := Option.some.inj hk
            refine ⟨_, rfl, rfl, rfl, fun ac u hG hL K hK => ?_⟩
            have e0 : ac.eval (.tmp 56) = tab G := hL ⟨4, .data⟩ (by simp) rfl _ rfl
            exact wp_alloc rfl (x_build rfl (by simp only [List.map_toArray, List.map_cons, List.map_nil, e0]) (run_build1 G u)) (hK _ _ (hG.here.alloc hG.here.size _) ((Below.refl _ u).alloc (Nat.le_refl _) _) (tabs1_new u G))
          | 6, hk => obtain rfl := Option.some.inj hk; exact ⟨_, rfl, rfl, rfl, doesE_val (fun _ => Below.refl _ _) rfl fun ac u hG hL => x_move rfl ((hG.other 7 (by decide)).trans rfl)⟩
          | 7, hk =>
            obtain rfl := Option.some.inj hk
            refine ⟨_, rfl, rfl, rfl, fun ac u hG hL K hK => ?_⟩
            obtain ⟨b, e0, ht⟩ : tabs1 G (slot ac 57) u := hL ⟨5, .data⟩ (by simp) rfl _ rfl
            have e0' : ac.eval (.tmp 57) = .slice (some ⟨b, 0, none⟩) 1 1 := e0
            have e1 : ac.eval (.tmp 58) = .slice adl 8 capl := hL ⟨6, .data⟩ (by simp) rfl _ rfl
            have hc := psize_any (some ⟨b, 0, none⟩) adl 1 1 8 capl (One1 G) V u (Cr.kept hG.here) ht (hI.kept hG.here) (by decide) (by decide) hcp
            rw [show min 8 8 = 8 from rfl, ← HBn.out] at hc
            exact wp_call rfl (run_call rfl #[.slice (some ⟨b, 0, none⟩) 1 1, .slice adl 8 capl] (fun vs => kall14 vs u) (by simp only [List.map_toArray, List.map_cons, List.map_nil, e0', e1])) hc (fun u' hb => hK _ _ (below_far hG.here hb) hb rfl)
          | 8, hk => obtain rfl := Option.some.inj hk; exact ⟨_, rfl, rfl, rfl, doesE_val (fun _ => Below.refl _ _) rfl fun ac u hG hL => x_assign rfl (hL ⟨3, .data⟩ (by simp) rfl _ rfl)⟩
          | 9, hk => obtain rfl := Option.some.inj hk; exact ⟨_, rfl, rfl, rfl, doesE_val (fun _ => Below.refl _ _) rfl fun ac u hG hL => x_assign rfl (hL ⟨7, .data⟩ (by simp) rfl _ rfl)⟩
          | i + 10, hk => simp at hk
        · intro f wx bx hpost
          have p0 : f 0 = tab F := hpost 0 _ rfl
          have p2 : f 2 = .slice adl 8 capl := hpost 2 _ rfl
          have p3 : f 3 = .int .i64 (na : Int) := hpost 3 _ rfl
          have p4 : f 4 = tab G := hpost 4 _ rfl
          have p6 : f 6 = .slice adl 8 capl := hpost 6 _ rfl
          have p7 : f 7 = .int .i64 (nb : Int) := hpost 7 _ rfl
          have p8 : f 8 = .int .i64 (na : Int) := hpost 8 _ rfl
          have p9 : f 9 = .int .i64 (nb : Int) := hpost 9 _ rfl
          clear hpost
          simp only [efin, Act.put, Nat.reduceAdd, p0, p2, p3, p4, p6, p7, p8, p9, List.setIfInBounds_toArray, List.set_cons_succ, List.set_cons_zero]
          generalize f 1 = f1
          generalize f 5 = f5
          clear p0 p2 p3 p4 p6 p7 p8 p9
          have TFx := TFr.kept bx
          have TGx := TGr.kept bx
          have Bx := below_far Br bx
          have Cx := Cr.kept bx
          have Ix := hI.kept bx
          clear TFr TGr Br Cr hI bx
          obtain ⟨f0, f1', f2, f3⟩ := TFx.copy
          obtain ⟨g0, g1, g2, g3⟩ := TGx.copy
          have hsl := sup_lt F 8 (Nat.le_refl _)
          go_wp2_with (first
            | (go_at_call 14; have ba := (Below.refl _ wx).alloc (Nat.le_refl _) (.cells #[.int .u64 (word F 0 : Int), .int .u64 (word F 1 : Int), .int .u64 (word F 2 : Int), .int .u64 (word F 3 : Int), .int .u64 (word G 0 : Int), .int .u64 (word G 1 : Int), .int .u64 (word G 2 : Int), .int .u64 (word G 3 : Int), .int .u64 (word F 0 : Int), .int .u64 (word F 1 : Int), .int .u64 (word F 2 : Int), .int .u64 (word F 3 : Int)] 24); have hc := psize_any (some ⟨wx.heap.size, 0, none⟩) adl 3 3 8 capl (Three F G) V _ (Cx.kept ba) (tabs_three wx F G) (Ix.kept ba) (by decide) (by decide) hcp; rw [show min 8 8 = 8 from rfl, ← HCn.out] at hc; refine hc.mono ?_; rintro e wy ⟨rfl, b0⟩; have b1 := below_far ba b0; have TFy := TFx.kept b1; have By := below_far Bx b1; have Cy := Cx.kept b1; have Iy := Ix.kept b1; clear ba hc b0 b1 f0 f1' f2 f3 g0 g1 g2 g3; obtain ⟨f0, f1', f2, f3⟩ := TFy.copy)
            | (go_at_call 13; refine (psupport_any F _ Cy).mono ?_; rintro e wz ⟨rfl, bz⟩; have TFz := TFy.kept bz; have Bz := below_far By bz; have Cz := Cy.kept bz; have Iz := Iy.kept bz; clear bz f0 f1' f2 f3; obtain ⟨f0, f1', f2, f3⟩ := TFz.copy))
          obtain ⟨S, hS⟩ : ∃ S, S = supUpto F 8 := ⟨_, rfl⟩
          rw [← hS] at hsl ⊢
          have HS : Hid (S = supUpto F 8) := hS
          clear hS
          go_loopg [13, 15] 8 (fun gg sn si wr => ∃ u : Nat, u + gg = 8 ∧ si = .int .i64 (u : Int) ∧ sn = .int .i64 (hangN F u : Int) ∧ wr = wz)
          case atStart => exact ⟨0, by omega, rfl, rfl, rfl⟩
          case round =>
            obtain ⟨u, hu, rfl, rfl, rfl⟩ := hrel
            have hU : Aside (u + gk = 8) := hu
            clear hu
            by_cases hu8 : u < 8
            · have hu8' : (u : Int) < 8 := by omega
              have hbit := and1_M S u hsl
              have hsu := hangN_succ F u hu8
              rw [← HS.out] at hsu
              have hle := hangN_le F u
              have HSU : Hid (hangN F (u + 1) = hangN F u + if M u S = true then 1 else 0) := hsu
              clear hsu
              generalize hangN F u = m at HSU hle ⊢
              have hmn : min u 8 = u := by omega
              have hw7 : IntKind.u64.wrap (u : Int) = (u : Int) := by rw [IntKind.wrap_u64]; omega
              obtain ⟨t, ht⟩ : ∃ t : Nat, t = if M u S = true then 1 else 0 := ⟨_, rfl⟩
              have ht1 : t ≤ 1 := by rw [ht]; split <;> omega
              have hbt : bits .and .u8 ((S : Int) / 2 ^ u) 1 = (t : Int) := by rw [hbit, ht]; split <;> rfl
              have HSU2 : Hid (hangN F (u + 1) = m + t) := by show _ = _; rw [HSU.out, ht]
              have hi64 : IntKind.i64.wrap (t : Int) = (t : Int) := by rw [IntKind.wrap_i64]; omega
              have hi65 : IntKind.i64.wrap ((m : Int) + (t : Int)) = (m : Int) + (t : Int) := by rw [IntKind.wrap_i64]; omega
              clear hbit HSU ht
              go_wp2_with fail
              go_roundg (gk - 1)
              case measure => have := hU.out; omega
              case rel =>
                have := hU.out
                exact ⟨u + 1, by omega, rfl, by rw [HSU2.out]; rfl, rfl⟩
            · obtain rfl : u = 8 := by have := hU.out; omega
              generalize hangN F 8 = nn at z2 z7 ⊢
              have y2 : (nn : Int) ≤ (na : Int) := by omega
              have y3 : (na : Int) ≤ 77 := by omega
              have y4 : (nc : Int) ≤ (na : Int) + (nb : Int) := by omega
              have y5 : (na : Int) ≤ (nc : Int) := by omega
              have y6 : (nb : Int) ≤ (nc : Int) := by omega
              have y8 : (nb : Int) ≤ 77 := by omega
              have y9 : IntKind.i64.wrap ((na : Int) + (nb : Int)) = (na : Int) + (nb : Int) := by rw [IntKind.wrap_i64]; omega
              rcases Nat.lt_or_ge na nb with hab | hab
              · have hab' : (na : Int) < (nb : Int) := by omega
                rcases Nat.eq_zero_or_pos nn with hn0 | hn0
                · have hna0 := z7 hn0
                  subst hn0 hna0
                  go_wp2_with (first
                    | (go_at_call 10; refine (pnot_any F _).mono ?_; unfold tab; rintro e wb ⟨rfl, bb⟩)
                    | (go_at_call 14; have ba := (Below.refl _ wb).alloc (Nat.le_refl _) (.cells #[.int .u64 (word (fun x => !F x) 0 : Int), .int .u64 (word (fun x => !F x) 1 : Int), .int .u64 (word (fun x => !F x) 2 : Int), .int .u64 (word (fun x => !F x) 3 : Int)] 24); have bc := below_far bb ba; have hc := psize_any (some ⟨wb.heap.size, 0, none⟩) adl 1 1 8 capl (One1 fun x => !F x) V _ (Cz.kept bc) (tabs1_at wb (fun x => !F x)) (Iz.kept bc) (by decide) (by decide) hcp; rw [show min 8 8 = 8 from rfl, HZ1.out] at hc; refine hc.mono ?_; rintro e wd ⟨rfl, bd⟩; have be := below_far bc bd; clear hc))
                  go_ret
                  exact ⟨rfl, below_far Bz be⟩
                · have hn0' : (0 : Int) < (nn : Int) := by omega
                  go_wp2_with (first
                    | (go_at_call 10; refine (pnot_any F _).mono ?_; unfold tab; rintro e wb ⟨rfl, bb⟩)
                    | (go_at_call 14; have ba := (Below.refl _ wb).alloc (Nat.le_refl _) (.cells #[.int .u64 (word (fun x => !F x) 0 : Int), .int .u64 (word (fun x => !F x) 1 : Int), .int .u64 (word (fun x => !F x) 2 : Int), .int .u64 (word (fun x => !F x) 3 : Int)] 24); have bc := below_far bb ba; have hc := psize_any (some ⟨wb.heap.size, 0, none⟩) adl 1 1 8 capl (One1 fun x => !F x) V _ (Cz.kept bc) (tabs1_at wb (fun x => !F x)) (Iz.kept bc) (by decide) (by decide) hcp; rw [show min 8 8 = 8 from rfl, HZ1.out] at hc; refine hc.mono ?_; rintro e wd ⟨rfl, bd⟩; have be := below_far bc bd; clear hc))
                  go_ret
                  exact ⟨rfl, below_far Bz be⟩
              · have hab' : ¬ (na : Int) < (nb : Int) := by omega
                rcases Nat.eq_zero_or_pos nn with hn0 | hn0
                · have hna0 := z7 hn0
                  subst hn0 hna0
                  go_wp2_with (first
                    | (go_at_call 10; refine (pnot_any F _).mono ?_; unfold tab; rintro e wb ⟨rfl, bb⟩)
                    | (go_at_call 14; have ba := (Below.refl _ wb).alloc (Nat.le_refl _) (.cells #[.int .u64 (word (fun x => !F x) 0 : Int), .int .u64 (word (fun x => !F x) 1 : Int), .int .u64 (word (fun x => !F x) 2 : Int), .int .u64 (word (fun x => !F x) 3 : Int)] 24); have bc := below_far bb ba; have hc := psize_any (some ⟨wb.heap.size, 0, none⟩) adl 1 1 8 capl (One1 fun x => !F x) V _ (Cz.kept bc) (tabs1_at wb (fun x => !F x)) (Iz.kept bc) (by decide) (by decide) hcp; rw [show min 8 8 = 8 from rfl, HZ1.out] at hc; refine hc.mono ?_; rintro e wd ⟨rfl, bd⟩; have be := below_far bc bd; clear hc))
                  go_ret
                  exact ⟨rfl, below_far Bz be⟩
                · have hn0' : (0 : Int) < (nn : Int) := by omega
                  go_wp2_with (first
                    | (go_at_call 10; refine (pnot_any F _).mono ?_; unfold tab; rintro e wb ⟨rfl, bb⟩)
                    | (go_at_call 14; have ba := (Below.refl _ wb).alloc (Nat.le_refl _) (.cells #[.int .u64 (word (fun x => !F x) 0 : Int), .int .u64 (word (fun x => !F x) 1 : Int), .int .u64 (word (fun x => !F x) 2 : Int), .int .u64 (word (fun x => !F x) 3 : Int)] 24); have bc := below_far bb ba; have hc := psize_any (some ⟨wb.heap.size, 0, none⟩) adl 1 1 8 capl (One1 fun x => !F x) V _ (Cz.kept bc) (tabs1_at wb (fun x => !F x)) (Iz.kept bc) (by decide) (by decide) hcp; rw [show min 8 8 = 8 from rfl, HZ1.out] at hc; refine hc.mono ?_; rintro e wd ⟨rfl, bd⟩; have be := below_far bc bd; clear hc))
                  go_ret
                  exact ⟨rfl, below_far Bz be⟩
end Go.Proofs.YtmfocngdobcfcabDoor
