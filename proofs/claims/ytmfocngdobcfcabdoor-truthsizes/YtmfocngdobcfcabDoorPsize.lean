/-
  How many nodes: what the program's own call returns.
-/
import Derived.Test.YtmfocngdobcfcabDoorSizp
namespace Go.Proofs.YtmfocngdobcfcabDoor
open Go Go.RowKit
set_option maxRecDepth 100000 in
set_option maxHeartbeats 3200000 in
theorem psize_any (adl adv : Option Addr) (nl capl nv capv : Nat) (T : Nat → Nat → Bool) (V : Nat → Int) (w : World) (hC : Cols w) (hT : TabsAt w adl nl T) (hV : IntsAt w adv nv V) (hnl : nl ≤ 1000) (hnv : nv ≤ 1000) (hcap : nv ≤ capv) :
    Calls Tryd.prog 14 #[.slice adl nl capl, .slice adv nv capv] w fun e w' => e = .returned (.int .i64 (sizeN T nl V (min nv 8) : Int)) ∧ Below w.heap.size w w' := by
  go_enter Tryd.func14, Tryd.ntmps14
  have hmk : (Instr.makeMap 49 none).run Tryd.prog w = .ok (.map (some w.heap.size)) (w.alloc (.map #[] 0)) := rfl
  have M0 := IsMap.fresh w
  have B0 := (Below.refl w.heap.size w).alloc (Nat.le_refl _) (.map #[] 0)
  go_wp2_with fail
  have hT0 := hT.kept B0
  have hV0 := hV.kept B0
  generalize w.alloc (.map #[] 0) = w1 at M0 B0 hT0 hV0 ⊢
  go_loopg [18] nl (fun g si wr => ∃ k : Nat, k + g = nl ∧ si = .int .i64 (k : Int) ∧ IsMap wr w.heap.size (firstL T k) ∧ TabsAt wr adl nl T ∧ IntsAt wr adv nv V ∧ Below w.heap.size w wr)
  case atStart => exact ⟨0, by omega, rfl, M0, hT0, hV0, B0⟩
  case round =>
    clear M0 B0 hT0 hV0
    obtain ⟨k, hk, rfl, hM, hA, hI, hB⟩ := hrel
    have hK : Aside (k + gk = nl) := hk
    clear hk
    by_cases hk9 : k < nl
    · have hA0 := hA
      rcases hA with h0 | ⟨b, off, rfl, hb, hc⟩
      · omega
      · have hk9' : (k : Int) < (nl : Int) := by omega
        have d0 : wr.cell? ⟨b, off + k * 4, none⟩ = some (.int .u64 (word (T k) 0 : Int)) := hc k hk9 0 (by decide)
        have d1 := hc k hk9 1 (by decide)
        have d2 := hc k hk9 2 (by decide)
        have d3 := hc k hk9 3 (by decide)
        have bA := (Below.refl wr.heap.size wr).alloc (Nat.le_refl _) (.cells #[.int .u64 (word (T k) 0 : Int), .int .u64 (word (T k) 1 : Int), .int .u64 (word (T k) 2 : Int), .int .u64 (word (T k) 3 : Int)] 24)
        obtain ⟨w', hrun, hM', hT'⟩ := map_put (hM.kept bA) (code (T k)) (code_lt _) (.agg #[])
        rw [← tab_code] at hrun
        unfold tab at hrun
        go_wp2_with fail
        go_roundg (gk - 1)
        case measure => have := hK.out; omega
        case rel =>
          have := hK.out
          have bW : Below w.heap.size w w' := (hB.trans (bA.mono hB.size)).trans (hT'.below (Nat.le_trans hB.size bA.size) (Nat.le_refl _))
          exact ⟨k + 1, by omega, rfl, hM', hT.kept bW, hV.kept bW, bW⟩
    · obtain rfl : k = nl := by have := hK.out; omega
      clear hK hk9
      have hm8 : min nv 8 ≤ 8 := Nat.min_le_right _ _
      have hmv : min nv 8 ≤ nv := Nat.min_le_left _ _
      have hmi : (if (8 : Int) < (nv : Int) then (8 : Int) else (nv : Int)) = ((min nv 8 : Nat) : Int) := by split <;> omega
      have hM9 : Hid (firstL T k = lvl T k V 0) := rfl
      go_wp2_with fail
      clear hmi
      generalize hmm : min nv 8 = m at hm8 hmv ⊢
      have hmA : Aside (min nv 8 = m) := hmm
      clear hmm
      go_loopg [5, 8, 13, 14, 32] m (fun g s5 s8 s13 s14 s32 wq => ∃ (j ml n : Nat) (ts : List Nat), j + g = m ∧ s32 = .int .i64 (j : Int) ∧ s5 = .map (some ml) ∧ IsMap wq ml ts ∧ ts.Perm (lvl T k V j) ∧ s8 = .int .i64 (n : Int) ∧ n = cntUpto T k V j ∧ w.heap.size ≤ ml ∧ (∀ b, s13 = ptr b → b < wq.heap.size) ∧ (∀ b, s14 = ptr b → b < wq.heap.size) ∧ Below w.heap.size w wq)
      case atStart => exact ⟨0, w.heap.size, 0, _, by omega, rfl, rfl, hM, List.Perm.refl _, rfl, rfl, Nat.le_refl _, fun b h => by simp [undef, ptr] at h, fun b h => by simp [undef, ptr] at h, hB⟩
      case round =>
        clear hM hA hI hB hM9
        obtain ⟨j, ml, n, ts, hj, rfl, rfl, hM, hP, rfl, hn, hml, h13, h14, hB⟩ := hrel
        have hJ : Aside (j + gk = m ∧ ts.Perm (lvl T k V j) ∧ n = cntUpto T k V j) := ⟨hj, hP, hn⟩
        have hn1 : n ≤ 256000 := by rw [hn]; exact (lvl_small T k V j hnl (by omega)).2
        have hts1 : ts.length ≤ 256000 := by rw [hP.length_eq]; exact (lvl_small T k V j hnl (by omega)).1
        clear hj hP hn
        by_cases hj9 : j < m
        · have hj9' : (j : Int) < (m : Int) := by omega
          have hI := hV.kept hB
          rcases hI with h0 | ⟨b, off, rfl, hb, hc⟩
          · omega
          · have d0 := hc j (by omega)
            have hmk : (Instr.makeMap 49 none).run Tryd.prog wr = .ok (.map (some wr.heap.size)) (wr.alloc (.map #[] 0)) := rfl
            have bA := (Below.refl wr.heap.size wr).alloc (Nat.le_refl _) (.map #[] 0)
            have hMA := hM.kept bA
            have hNA := IsMap.fresh wr
            obtain ⟨wi, hri, hIt, hBi, hsz⟩ := Iter.start hMA
            go_wp2_with fail
            have hMB := hNA.kept hBi
            have bI : Below wr.heap.size wr wi := bA.trans (hBi.mono bA.size)
            have hit : (wr.alloc (.map #[] 0)).heap.size = wr.heap.size + 1 := by simp
            rw [hit] at hIt hsz
            have hVv : Hid (∃ v, V j = v) := ⟨_, rfl⟩
            obtain ⟨v, hv⟩ := hVv.out
            rw [hv]
            have hvA : Aside (V j = v) := hv
            clear hv
            have hgs : wr.heap.size + 2 ≤ wi.heap.size := by omega
            have h13i : ∀ b, u13 = ptr b → b < wi.heap.size := fun b h => by have := h13 b h; omega
            have h14i : ∀ b, u14 = ptr b → b < wi.heap.size := fun b h => by have := h14 b h; omega
            have hBw : Below w.heap.size w wi := hB.trans (bI.mono hB.size)
            have hW0 : Aside (w.heap.size ≤ wr.heap.size) := hB.size
            obtain ⟨go, hgo⟩ : ∃ go, go = gk := ⟨_, rfl⟩
            have hGO : Aside (go = gk) := hgo
            clear hgo
            have hmlt : ml < wr.heap.size := hM.lt
            generalize wr.heap.size = nb at *
            clear hM hMA hNA hri hmk bA bI hBi hit hsz h13 h14 hc d0
            go_loopg [8, 13, 14] ts.length (fun g s8 s13 s14 wq => ∃ (vs : List Nat) (n2 : Nat), vs.length + g = ts.length ∧ Iter wq (nb + 1) ml ts vs ∧ vs.Nodup ∧ (∀ x ∈ vs, x ∈ ts) ∧ IsMap wq nb (vs.foldl (ins2 v) []) ∧ s8 = .int .i64 (n2 : Int) ∧ n2 = n + vs.countP (hangs v) ∧ (∀ b, s13 = ptr b → b < wq.heap.size) ∧ (∀ b, s14 = ptr b → b < wq.heap.size) ∧ Below w.heap.size w wq)
            case atStart => exact ⟨[], n, by simp, hIt, by simp, by simp, hMB, rfl, by simp, h13i, h14i, hBw⟩
            case round =>
              clear hIt hMB h13i h14i hBw
              obtain ⟨vs, n2, hg, hIt, hvn, hvt, hMB, rfl, hn2, h13, h14, hB⟩ := hrel
              have hG : Aside (vs.length + gk = ts.length ∧ vs.Nodup ∧ (∀ x ∈ vs, x ∈ ts) ∧ n2 = n + vs.countP (hangs v)) := ⟨hg, hvn, hvt, hn2⟩
              have hvsm : ∀ x ∈ vs, x < top := fun x hx => by
                obtain ⟨es, clock, _, q⟩ := hIt.map
                exact q.small x (hvt x hx)
              have hn2b : n2 ≤ 512000 := by
                have h1 : vs.countP (hangs v) ≤ vs.length := List.countP_le_length
                omega
              have hTn : Aside ts.Nodup := by
                obtain ⟨es, clock, _, q⟩ := hIt.map
                exact q.nodup
              clear hg hvn hvt hn2
              rcases hIt.next hvsm 0 with ⟨hall, hrun⟩ | ⟨t, tv, w2, ht, htv, hrun, hIt2, hTu, hent⟩
              · have hall' : Aside (∀ t ∈ ts, t ∈ vs) := hall
                clear hall hvsm hIt
                go_wp2_with fail
                go_roundg (go - 1)
                case measure =>
                  have := hJ.out.1
                  have := hGO.out
                  omega
                case rel =>
                  obtain ⟨hj1, hP, hn⟩ := hJ.out
                  have hgo := hGO.out
                  obtain ⟨_, hvn, hvt, hn2⟩ := hG.out
                  have hp1 : vs.Perm ts := by
                    rw [List.perm_ext_iff_of_nodup hvn hTn.out]
                    exact fun a => ⟨hvt a, hall'.out a⟩
                  refine ⟨j + 1, nb, n2, vs.foldl (ins2 v) [], by omega, rfl, rfl, hMB, ?_, rfl, ?_, hW0.out, h13, h14, hB⟩
                  · rw [lvl, hvA.out]
                    exact nextL_perm (hp1.trans hP)
                  · rw [hn2, cntUpto, ← hn, hvA.out, (hp1.trans hP).countP_eq]
              · have htl : Aside (t ∈ ts ∧ t ∉ vs ∧ t < top) := ⟨ht, htv, by obtain ⟨es, clock, _, q⟩ := hIt.map; exact q.small t ht⟩
                clear ht htv hvsm
                unfold tabN tab at hrun hent
                have hbl : Below w2.heap.size w2 (w2.alloc (.cells #[.int .u64 (word t.testBit 0 : Int), .int .u64 (word t.testBit 1 : Int), .int .u64 (word t.testBit 2 : Int), .int .u64 (word t.testBit 3 : Int)] 24)) := (Below.refl _ _).alloc (Nat.le_refl _) _
                have hTf := IsTab.new w2 t.testBit
                have hszA : (w2.alloc (.cells #[.int .u64 (word t.testBit 0 : Int), .int .u64 (word t.testBit 1 : Int), .int .u64 (word t.testBit 2 : Int), .int .u64 (word t.testBit 3 : Int)] 24)).heap.size = w2.heap.size + 1 := by simp
                have hlts := hIt.lt
                have hB2 : Below w.heap.size w w2 := hB.trans (hTu.below hB.size (by have := hW0.out; omega))
                have hMB2 : IsMap w2 nb (vs.foldl (ins2 v) []) := hMB.same (hTu.block nb hMB.lt (by omega))
                have h13b : ∀ b, u13 = ptr b → b < w2.heap.size := fun b h => by have := h13 b h; have := hTu.size; omega
                have h14b : ∀ b, u14 = ptr b → b < w2.heap.size := fun b h => by have := h14 b h; have := hTu.size; omega
                go_wp2_with fail
                have hB3 := hB2.trans (hbl.mono hB2.size)
                have hI3 := hIt2.kept hbl
                have hM3 := hMB2.kept hbl
                generalize w2.alloc (.cells #[.int .u64 (word t.testBit 0 : Int), .int .u64 (word t.testBit 1 : Int), .int .u64 (word t.testBit 2 : Int), .int .u64 (word t.testBit 3 : Int)] 24) = w3 at hbl hTf hszA hB3 hI3 hM3 ⊢
                have hC3 := hC.kept hB3
                refine wp_region_tabs' [.val 43 (tab t.testBit), .val 44 (.int .i64 v), .val 45 (tab (fixI t.testBit v false)), .val 46 (tab t.testBit), .val 47 (.int .i64 v), .val 48 (tab (fixI t.testBit v true)), .new 13, .new 14, .put 13 (fixI t.testBit v false), .put 14 (fixI t.testBit v true)] [43, 44, 45, 46, 47, 48, 13, 14] [13, 14] [13, 14] 70 (by kernel_rfl) (by kernel_rfl) rfl rfl rfl rfl (by decide) (by decide) rfl rfl ?_ ?_ ?_
                · intro s hs b hb
                  simp at hs
                  rcases hs with rfl | rfl
                  · have := h13b b hb; omega
                  · have := h14b b hb; omega
                · intro i kk hk
                  match i, hk with
                  | 0, hk => obtain rfl := Option.some.inj hk; exact ⟨_, rfl, rfl, rfl, fun a u hG hpre K hK => wp_load (b := w2.heap.size) rfl rfl ((hG.other 12 (by decide)).trans rfl) (hTf.kept hG.below) hK⟩
                  | 1, hk => obtain rfl := Option.some.inj hk; exact ⟨_, rfl, rfl, rfl, fun a u hG hpre K hK => wp_move rfl rfl ((hG.other 10 (by decide)).trans rfl) hK⟩
                  | 2, hk =>
                    obtain rfl := Option.some.inj hk
                    refine ⟨_, rfl, rfl, rfl, fun a u hG hpre K hK => ?_⟩
                    have e1 : a.eval (.tmp 43) = tab t.testBit := hpre ⟨0, .data⟩ (by simp) rfl _ rfl
                    have e2 : a.eval (.tmp 44) = .int .i64 v := hpre ⟨1, .data⟩ (by simp) rfl _ rfl
                    exact wp_call rfl (run_call rfl #[tab t.testBit, .int .i64 v, .bool false] (fun vs => call26 vs u) (by simp only [List.map_toArray, List.map_cons, List.map_nil, e1, e2]; rfl)) (pfix_int _ v false u (hC3.kept hG.below)) hK
                  | 3, hk => obtain rfl := Option.some.inj hk; exact ⟨_, rfl, rfl, rfl, fun a u hG hpre K hK => wp_load (b := w2.heap.size) rfl rfl ((hG.other 12 (by decide)).trans rfl) (hTf.kept hG.below) hK⟩
                  | 4, hk => obtain rfl := Option.some.inj hk; exact ⟨_, rfl, rfl, rfl, fun a u hG hpre K hK => wp_move rfl rfl ((hG.other 10 (by decide)).trans rfl) hK⟩
                  | 5, hk =>
                    obtain rfl := Option.some.inj hk
                    refine ⟨_, rfl, rfl, rfl, fun a u hG hpre K hK => ?_⟩
                    have e1 : a.eval (.tmp 46) = tab t.testBit := hpre ⟨3, .data⟩ (by simp) rfl _ rfl
                    have e2 : a.eval (.tmp 47) = .int .i64 v := hpre ⟨4, .data⟩ (by simp) rfl _ rfl
                    exact wp_call rfl (run_call rfl #[tab t.testBit, .int .i64 v, .bool true] (fun vs => call26 vs u) (by simp only [List.map_toArray, List.map_cons, List.map_nil, e1, e2]; rfl)) (pfix_int _ v true u (hC3.kept hG.below)) hK
                  | 6, hk => obtain rfl := Option.some.inj hk; exact ⟨_, rfl, rfl, rfl, rfl⟩
                  | 7, hk => obtain rfl := Option.some.inj hk; exact ⟨_, rfl, rfl, rfl, rfl⟩
                  | 8, hk => obtain rfl := Option.some.inj hk; exact ⟨_, rfl, rfl, rfl, 45, rfl, ⟨⟨2, .data⟩, by simp, rfl, rfl⟩, ⟨⟨6, .data⟩, by simp, rfl, rfl⟩⟩
                  | 9, hk => obtain rfl := Option.some.inj hk; exact ⟨_, rfl, rfl, rfl, 48, rfl, ⟨⟨5, .data⟩, by simp, rfl, rfl⟩, ⟨⟨7, .data⟩, by simp, rfl, rfl⟩⟩
                  | i + 10, hk => simp at hk
                · intro bp w4 hb4 hnew hne hput
                  have T13 := hput 13 (fixI t.testBit v false) (by simp)
                  have T14 := hput 14 (fixI t.testBit v true) (by simp)
                  have n13 := hnew 13 (by simp)
                  have n14 := hnew 14 (by simp)
                  simp only [fin, Kind.dst?, kval, Act.put, ptr]
                  generalize bp 13 = p13 at T13 n13 ⊢
                  generalize bp 14 = p14 at T14 n14 ⊢
                  clear hput hnew hne
                  have hlt3 : nb + 1 < w3.heap.size := hI3.lt.1
                  have hI4 := hI3.kept hb4
                  have hM4 := hM3.kept hb4
                  have hB4 := hB3.trans (hb4.mono hB3.size)
                  clear hIt hMB hrun hent hIt2 hTu hB hTf hI3 hM3 hB3 hMB2 hB2 hbl
                  obtain ⟨x0, x1, x2, x3⟩ := T13.copy
                  obtain ⟨y0, y1, y2, y3⟩ := T14.copy
                  have heq : ∀ u, (Op.equalIn 10000 24 (tab (fixI t.testBit v false)) (tab (fixI t.testBit v true))).run Tryd.prog u = .ok (same (fixI t.testBit v false) (fixI t.testBit v true)) u := fun u => equal_tab _ _ u
                  rw [same_hangs] at heq
                  unfold tab at heq
                  obtain ⟨w5, hr5, hM5, hT5⟩ := map_put hM4 (fixC t v false) (fixC_lt _ _ _) (.agg #[])
                  obtain ⟨w6, hr6, hM6, hT6⟩ := map_put hM5 (fixC t v true) (fixC_lt _ _ _) (.agg #[])
                  rw [← tab_fixI] at hr5 hr6
                  unfold tab at hr5 hr6
                  have T14b := hT5.tab T14 (by omega)
                  obtain ⟨z0, z1, z2, z3⟩ := T14b.copy
                  have hbW : Below w.heap.size w w6 := by
                    have h1 := hB4.trans (hT5.below hB4.size hW0.out)
                    exact h1.trans (hT6.below h1.size hW0.out)
                  have hI6 : Iter w6 (nb + 1) ml ts (vs ++ [t]) := by
                    have q := hI4.lt
                    have e5 := hI4.same (hT5.block ml q.2.1 (by omega)) (hT5.block (nb + 1) q.1 (by omega))
                    have q5 := e5.lt
                    exact e5.same (hT6.block ml q5.2.1 (by omega)) (hT6.block (nb + 1) q5.1 (by omega))
                  have hfold : Aside ((vs ++ [t]).foldl (ins2 v) [] = ins (ins (vs.foldl (ins2 v) []) (fixC t v false)) (fixC t v true)) := by simp only [Aside]; rw [List.foldl_append]; rfl
                  have h13c : ∀ b, ptr p13 = ptr b → b < w6.heap.size := fun b h => by have := ptr_inj h; have := hT5.size; have := hT6.size; omega
                  have h14c : ∀ b, ptr p14 = ptr b → b < w6.heap.size := fun b h => by have := ptr_inj h; have := hT5.size; have := hT6.size; omega
                  have hvs2 : Aside ((vs ++ [t]).Nodup ∧ ∀ x ∈ vs ++ [t], x ∈ ts) := by
                    obtain ⟨h1, h2, h3, h4⟩ := hG.out
                    obtain ⟨g1, g2, g3⟩ := htl.out
                    refine ⟨?_, fun x hx => ?_⟩
                    · rw [List.nodup_append]
                      exact ⟨h2, by simp, fun a ha b hb => by simp at hb; subst hb; exact fun e => g2 (e ▸ ha)⟩
                    · rcases List.mem_append.1 hx with hx | hx
                      · exact h3 x hx
                      · simp at hx; exact hx ▸ g1
                  have hlen : Aside (vs.length + 1 ≤ ts.length ∧ vs.length + gk = ts.length) := by
                    have h1 := List.Nodup.length_le_of_subset hvs2.out.1 (fun x hx => hvs2.out.2 x hx)
                    simp at h1
                    exact ⟨h1, hG.out.1⟩
                  cases hh : hangs v t with
                  | true =>
                    have hh' : Aside (hangs v t = true) := hh
                    simp only [hh, Bool.not_true] at heq
                    clear hh
                    go_wp2_with fail
                    go_roundg (gk - 1)
                    case measure =>
                      have := hlen.out
                      omega
                    case rel =>
                      obtain ⟨h1, h2, h3, h4⟩ := hG.out
                      have := hlen.out
                      refine ⟨vs ++ [t], n2 + 1, by simp; omega, hI6, hvs2.out.1, hvs2.out.2, by rw [hfold.out]; exact hM6, by simp, ?_, h13c, h14c, hbW⟩
                      rw [List.countP_append, h4]
                      simp [hh'.out]
                      omega
                  | false =>
                    have hh' : Aside (hangs v t = false) := hh
                    simp only [hh, Bool.not_false] at heq
                    clear hh
                    go_wp2_with fail
                    go_roundg (gk - 1)
                    case measure =>
                      have := hlen.out
                      omega
                    case rel =>
                      obtain ⟨h1, h2, h3, h4⟩ := hG.out
                      have := hlen.out
                      refine ⟨vs ++ [t], n2, by simp; omega, hI6, hvs2.out.1, hvs2.out.2, by rw [hfold.out]; exact hM6, rfl, ?_, h13c, h14c, hbW⟩
                      rw [List.countP_append, h4]
                      simp [hh'.out]
        · obtain rfl : j = m := by have := hJ.out; omega
          have hnle := (lvl_small T k V j hnl hm8).1
          go_wp2_with (first
            | (go_at_call_of 19 (Value.bool false); refine (pconst_any false _).mono ?_; rintro e w5 ⟨rfl, b5⟩; obtain ⟨w6, hr6, hM6, hT6⟩ := map_del (hM.kept b5) c0 (code_lt _); rw [show tabN c0 = tab (fun _ => false) from (tab_code _).symm] at hr6)
            | (go_at_call_of 19 (Value.bool true); go_loud (refine (pconst_any true _).mono ?_; rintro e w7 ⟨rfl, b7⟩; obtain ⟨w8, hr8, hM8, hT8⟩ := map_del (hM6.kept b7) c1 (code_lt _); rw [show tabN c1 = tab (fun _ => true) from (tab_code _).symm] at hr8; have hl8 := fun ty => map_len hM8 ty; obtain ⟨L, hL⟩ := (⟨_, rfl⟩ : ∃ L, ((ts.filter (fun u => decide (u ≠ c0))).filter (fun u => decide (u ≠ c1))).length = L); rw [hL] at hl8; have hLA : Aside (((ts.filter (fun u => decide (u ≠ c0))).filter (fun u => decide (u ≠ c1))).length = L) := hL; have hLb : L ≤ 256000 := Nat.le_trans (Nat.le_of_eq hL.symm) (Nat.le_trans (Nat.le_trans (List.length_filter_le _ _) (List.length_filter_le _ _)) hts1); clear hL hM8)))
          go_ret
          obtain ⟨_, hP, hn⟩ := hJ.out
          have hB5 : Below w.heap.size w w5 := hB.trans (b5.mono hB.size)
          have hB6 := hB5.trans (hT6.below hB5.size hml)
          have hB7 : Below w.heap.size w w7 := hB6.trans (b7.mono hB6.size)
          refine ⟨?_, hB7.trans (hT8.below hB7.size hml)⟩
          have key : sizeN T k V j = n + L := by
            rw [sizeN, ← hn, ← hLA.out, List.filter_filter]
            congr 1
            refine Eq.trans ?_ ((hP.filter _).length_eq).symm
            congr 1
            apply List.filter_congr
            intro x _
            exact Bool.and_comm _ _
          rw [hmA.out, key, Int.natCast_add]
          rfl
end Go.Proofs.YtmfocngdobcfcabDoor
