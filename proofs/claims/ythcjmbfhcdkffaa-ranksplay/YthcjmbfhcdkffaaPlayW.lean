/-
  The walk of RanksPlay: for every row of steps it tells true, and old memory is as it was.
-/
import Derived.Test.YthcjmbfhcdkffaaPlayB
import Derived.Deep.CutBlock
import Derived.Deep.Light
namespace Go.Proofs.Ythcjmbfhcdkffaa
open Go Go.RowKit

/-- A slice of steps: empty, or told cell by cell. -/
def StepsAt (w : World) (ad : Option Addr) (n : Nat) (T : Nat → Int × Int × Int) : Prop :=
  n = 0 ∨ ∃ b off, ad = some ⟨b, off, none⟩ ∧ b < w.heap.size ∧ ∀ i, i < n → w.cell? ⟨b, off + i * 3, none⟩ = some (.int .i64 (T i).1) ∧ w.cell? ⟨b, off + i * 3 + 1, none⟩ = some (.int .i64 (T i).2.1) ∧ w.cell? ⟨b, off + i * 3 + 2, none⟩ = some (.int .i64 (T i).2.2)
theorem StepsAt.get {W w : World} {ad : Option Addr} {n : Nat} {T : Nat → Int × Int × Int} (h : StepsAt W ad n T) (hb : Below W.heap.size W w) {i : Nat} (hi : i < n) :
    ∃ b off, ad = some ⟨b, off, none⟩ ∧ w.cell? ⟨b, off + i * 3, none⟩ = some (.int .i64 (T i).1) ∧ w.cell? ⟨b, off + i * 3 + 1, none⟩ = some (.int .i64 (T i).2.1) ∧ w.cell? ⟨b, off + i * 3 + 2, none⟩ = some (.int .i64 (T i).2.2) := by
  rcases h with h | ⟨b, off, e, hlt, hc⟩
  · omega
  · obtain ⟨c0, c1, c2⟩ := hc i hi
    exact ⟨b, off, e, by rw [hb.cell (p := ⟨b, off + i * 3, none⟩) hlt]; exact c0, by rw [hb.cell (p := ⟨b, off + i * 3 + 1, none⟩) hlt]; exact c1, by rw [hb.cell (p := ⟨b, off + i * 3 + 2, none⟩) hlt]; exact c2⟩

/-- Where a way goes on, under a name of its own. -/
def KeepM (J K : Act → World → Prop) : Prop := ∀ a w, Met J a w → K a w
def KeepH (J : Nat → Act → World → Prop) (g : Nat) (K : Act → World → Prop) : Prop := ∀ a w, Handed J g a w → K a w
theorem KeepM.mk {J K : Act → World → Prop} (h : ∀ a w, Met J a w → K a w) : KeepM J K := h
theorem KeepH.mk {J : Nat → Act → World → Prop} {g : Nat} {K : Act → World → Prop} (h : ∀ a w, Handed J g a w → K a w) : KeepH J g K := h
theorem KeepM.out {J K : Act → World → Prop} (h : KeepM J K) : ∀ a w, Met J a w → K a w := h
theorem KeepH.out {J : Nat → Act → World → Prop} {g : Nat} {K : Act → World → Prop} (h : KeepH J g K) : ∀ a w, Handed J g a w → K a w := h

/-- Where the number stands among the first k. -/
def AtIs (I : Nat → Int × Int) (id : Int) (k : Nat) (v : Value) : Prop := (v = .int .i64 (-1) ∧ ∀ i, i < k → (I i).1 ≠ id) ∨ ∃ a : Nat, a < k ∧ v = .int .i64 (a : Int) ∧ (I a).1 = id

set_option maxHeartbeats 40000000 in
set_option maxRecDepth 100000 in
theorem play_walk (ad0 : Option Addr) (len cap0 : Nat) (T : Nat → Int × Int × Int) (W : World) (hz : StepsAt W ad0 len T) (hlen : len ≤ 100) :
    Calls Try.prog 3 #[.slice ad0 len cap0] W fun e w' => e = .returned (.bool true) ∧ Below W.heap.size W w' := by
  have hd : decide (100 < (len : Int)) = false := by simp; omega
  have H0 := known_any W
  go_enter Try.func3, Try.ntmps3
  go_wp2_with (first
    | (go_at_call 7; refine H0.mono ?_; clear H0; rintro e w1 ⟨rfl, b1⟩; have H1 := new_any w1)
    | (go_at_call 8; refine H1.mono ?_; clear H1; rintro e w2 ⟨rfl, S2, q2, l2, b2⟩))
  have B2 := below_far b1 b2
  have l2' : ∀ k, S2 k → W.heap.size ≤ k := fun k hk => Nat.le_trans b1.size (l2 k hk)
  clear b1 b2 l2
  generalize w1.heap.size = Q at q2
  go_loopg [4, 5] len (fun g sm si wr => ∃ (j n cap : Nat) (ad : Option Addr) (I : Nat → Int × Int) (S : Nat → Prop) (K : Int → Option Int), j + g = len ∧ n ≤ j ∧ si = .int .i64 (j : Int) ∧ sm = .slice ad n cap ∧ Both W wr Q ad n cap I S K)
  case atStart => exact ⟨0, 0, 0, none, fun _ => (0, 0), S2, _, by omega, Nat.le_refl _, rfl, rfl, ⟨q2, OwnP.nil _ _, (fun a ha => by cases ha), (fun a ha => by cases ha), (fun i j hi => by omega), (fun id key => by simp), l2', B2⟩⟩
  case round =>
    clear q2 l2' B2
    obtain ⟨j, n, cap, ad, I, S, K, hj, hnj, rfl, rfl, hbo⟩ := hrel
    have hJ : Aside (j + gk = len) := hj
    by_cases hjn : j < len
    · have hjn' : (j : Int) < (len : Int) := by omega
      obtain ⟨bb, off, rfl, c0, c1, c2⟩ := hz.get hbo.below hjn
      obtain ⟨⟨what, id, key⟩, hT⟩ : ∃ t, T j = t := ⟨_, rfl⟩
      rw [hT] at c0 c1 c2
      simp only at c0 c1 c2
      obtain ⟨gj, hgj⟩ : ∃ gj, gj = gk := ⟨_, rfl⟩
      have hGJ : Aside (gj = gk) := hgj
      have hJ' : Aside (j + gj = len) := by rw [hgj]; exact hJ
      clear hT hj hgj
      go_wp2
      -- the step's own copy
      have hs1 : (wr.alloc (.cells #[.int .i64 what, .int .i64 id, .int .i64 key] 28)).heap[wr.heap.size]? = some (.cells #[.int .i64 what, .int .i64 id, .int .i64 key] 28 (0, 0)) := (MapKept.heap_alloc wr _).1
      have hfar1 := hbo.has.far
      have hL1 : W.heap.size ≤ wr.heap.size := hbo.below.size
      have hadS : Blk ad fun b => b ≠ wr.heap.size := fun a ha => by have := hbo.own.lt a ha; simp only at this ⊢; omega
      have hbo1 := hbo.kept (w' := wr.alloc (.cells #[.int .i64 what, .int .i64 id, .int .i64 key] 28)) ((Below.refl _ _).alloc (Nat.le_refl _) _)
      clear hbo c0 c1 c2 hz
      generalize wr.alloc (.cells #[.int .i64 what, .int .i64 id, .int .i64 key] 28) = w3 at hs1 hbo1 ⊢
      generalize wr.heap.size = Sb at hs1 hfar1 hL1 hadS ⊢
      clear wr
      go_loopg [7, 8] n (fun g sa sk wr => ∃ (k : Nat), k + g = n ∧ sk = .int .i64 (k : Int) ∧ AtIs I id k sa ∧ wr.Alike w3 ∧ wr.tape = w3.tape)
      case atStart => exact ⟨0, by omega, rfl, .inl ⟨rfl, fun i hi => by omega⟩, ⟨rfl, rfl, rfl⟩, rfl⟩
      case round =>
        obtain ⟨k, hkg, rfl, hat, hal, htp⟩ := hrel
        have hKG : Aside (k + gk = n) := hkg
        have hT : Aside (wr.tape = w3.tape) := htp
        clear htp
        by_cases hkn : k < n
        · have keep := KeepH.mk (g := gk) (by assumption)
          go_light
          have kept := keep.out
          clear keep
          have hkn' : (k : Int) < (n : Int) := by omega
          obtain ⟨g, rfl, hp⟩ := hbo1.own.form (by omega)
          have hp' : PairsAt wr g n cap I := hp.of_block (by rw [hal.1])
          have c0 := hp'.cell0 hkn
          have hs' : wr.heap[Sb]? = some (.cells #[.int .i64 what, .int .i64 id, .int .i64 key] 28 (0, 0)) := by rw [hal.1]; exact hs1
          have c1 : wr.cell? ⟨Sb, 1, none⟩ = some (.int .i64 id) := by simp [World.cell?, hs']
          have hn100 : k ≤ 100 := by have := hJ'.out; omega
          clear hkg
          by_cases e : (I k).1 = id
          · have hres : AtIs I id (k + 1) (.int .i64 (k : Int)) := .inr ⟨k, by omega, rfl, e⟩
            rw [e] at c0
            clear e
            go_wp2
            go_quiet (fail)
            go_wp2
            go_roundg (gk - 1)
            case measure => have := hKG.out; omega
            case rel =>
              have hkg := hKG.out
              exact ⟨k + 1, by omega, by go_num, hres, hal, hT.out⟩
          · have hres : ∀ v, AtIs I id k v → AtIs I id (k + 1) v := by
              rintro v (⟨h1, h2⟩ | ⟨a, ha, h1, h2⟩)
              · exact .inl ⟨h1, fun i hi => by
                  by_cases c : i = k
                  · rw [c]; exact e
                  · exact h2 i (by omega)⟩
              · exact .inr ⟨a, by omega, h1, h2⟩
            have hres' := hres _ hat
            have hde : decide ((I k).1 = id) = false := by simpa using e
            clear hres hat
            go_wp2
            go_quiet (fail)
            go_wp2
            go_roundg (gk - 1)
            case measure => have := hKG.out; omega
            case rel =>
              have hkg := hKG.out
              exact ⟨k + 1, by omega, by go_num, hres', hal, hT.out⟩
        · obtain rfl : k = n := by omega
          have kk := alike_below hal hT.out
          have hbo := hbo1.kept kk
          have hs : wr.heap[Sb]? = some (.cells #[.int .i64 what, .int .i64 id, .int .i64 key] 28 (0, 0)) := by rw [hal.1]; exact hs1
          clear kk hal hT hbo1 hs1 hkg hKG hkn
          have c0 : wr.cell? ⟨Sb, 0, none⟩ = some (.int .i64 what) := by simp [World.cell?, hs]
          have c1 : wr.cell? ⟨Sb, 1, none⟩ = some (.int .i64 id) := by simp [World.cell?, hs]
          have c2 : wr.cell? ⟨Sb, 2, none⟩ = some (.int .i64 key) := by simp [World.cell?, hs]
          have hSlt : Sb < wr.heap.size := (Array.getElem?_eq_some_iff.1 hs).1
          go_upto_block 4 with fail
          go_cut [4, 9, 10, 11] from 50 to 147 (fun sm _ _ _ w => ∃ (n' cap' : Nat) (ad' : Option Addr) (I' : Nat → Int × Int) (S' : Nat → Prop) (K' : Int → Option Int), sm = .slice ad' n' cap' ∧ n' ≤ j + 1 ∧ Both W w Q ad' n' cap' I' S' K' ∧ w.heap[Sb]? = some (.cells #[.int .i64 what, .int .i64 id, .int .i64 key] 28 (0, 0)) ∧ ¬ S' Sb)
          case first =>
            have keep := KeepM.mk (by assumption)
            go_light
            have kept := keep.out
            clear keep
            by_cases h2 : what ≤ 2
            · have hd2 : decide (what ≤ 2) = true := by simpa using h2
              rcases hat with ⟨rfl, hno⟩ | ⟨a, ha, rfl, hid⟩
              · have hK := hbo.tells.none_of hno
                have H3 := push_yes hbo.has (by have := hJ'.out; omega) hK key
                have hap : ∀ w5 S5, Has w5 Q S5 (at1 K id (some key)) (k + 1) → Went S S5 wr w5 → _ := fun w5 S5 q5 g5 => hbo.push_runs (by have := hJ'.out; omega) hno q5 g5
                clear hno hK
                go_wp2_with (first
                  | (go_at_call 9; refine H3.mono ?_; clear H3; rintro e w5 ⟨rfl, S5, q5, g5⟩; obtain ⟨g, cap', w6, hr6, hb6, hk6⟩ := hap w5 S5 q5 g5; clear hap; have hs5 := (g5.keeps hSlt hfar1).1; have e1 : w5.cell? ⟨Sb, 1, none⟩ = some (.int .i64 id) := (by simp [World.cell?, hs5, hs]); have e2 : w5.cell? ⟨Sb, 2, none⟩ = some (.int .i64 key) := (by simp [World.cell?, hs5, hs]); have hSb5 : Sb < w5.heap.size := Nat.lt_of_lt_of_le hSlt g5.moved.size)
                  | (at_builtin; refine list_append rfl _ _ rfl _ _ _ rfl rfl hr6 ?_))
                go_meet
                case rel =>
                  obtain ⟨k1, k2⟩ := hk6 Sb hSlt hfar1 hadS
                  exact ⟨k + 1, cap', _, _, S5, _, rfl, by omega, hb6, k1.trans hs, k2⟩
              · have hK : K id = some (I a).2 := (hbo.tells _ _).2 ⟨a, ha, Prod.ext hid rfl⟩
                have H3 := push_no hbo.has hK key
                have hda : decide ((a : Int) < 0) = false := by simp
                clear hK hid
                go_wp2_with (first
                  | (go_at_call 9; refine H3.mono ?_; clear H3; rintro e w5 ⟨rfl, rfl⟩))
                go_meet
                case rel => exact ⟨k, cap, ad, I, S, K, rfl, by omega, hbo, hs, hfar1⟩
            · have hd2 : decide (what ≤ 2) = false := by simpa using h2
              by_cases h3 : what = 3
              · subst h3
                have H3 := best_any hbo.own (by have := hJ'.out; omega)
                clear hat
                by_cases hk0 : k = 0
                · have hK0 : Aside (k = 0) := hk0
                  clear hk0
                  have H4 : ∀ w' : World, w'.Alike wr → w'.tape = wr.tape → Calls Try.prog 11 #[.pointer (some ⟨Q, 0, none⟩)] w' fun e w'' => e = .returned (.tuple #[itemV (0, 0), .bool false]) ∧ Below w'.heap.size w' w'' := fun w' h1 h2 => pop_none (K := K) (S := S) (by have := hbo.has.below (alike_below h1 h2); rw [hK0.out] at this; exact this)
                  go_upto_region 29 with (first
                    | (go_at_call 10; refine H3.mono ?_; clear H3; rintro e w4 ⟨v, rfl, hv, al4, tp4⟩; have H4' := H4 w4 al4 tp4; clear H4; have k4 := alike_below al4 tp4; have hv' : v = .int .i64 (-1) := (by rcases hv with ⟨_, h⟩ | ⟨h, _⟩; exact h; have := hK0.out; omega); subst hv'; clear al4 tp4 hv)
                    | (go_at_call 11; refine H4'.mono ?_; clear H4'; rintro e w5 ⟨rfl, b5⟩))
                  have kk := below_far k4 b5
                  go_quiet (fail)
                  go_wp2
                  go_meet
                  case rel =>
                    have kf : Below wr.heap.size wr (World.drewN (w5.alloc (.cells #[.int .i64 0, .int .i64 0] 30)) nq) := drawn (kk.alloc kk.size _) _
                    exact ⟨k, cap, ad, I, S, K, rfl, by omega, hbo.kept kf, (kf.block _ hSlt).trans hs, hfar1⟩
                · have H4 : ∀ w' : World, w'.Alike wr → w'.tape = wr.tape → _ := fun w' h1 h2 => (hbo.has.below (alike_below h1 h2)).popped (by omega) (by have := hJ'.out; omega)
                  go_upto_region 29 with (first
                    | (go_at_call 10; refine H3.mono ?_; clear H3; rintro e w4 ⟨v, rfl, hv, al4, tp4⟩; have H4' := H4 w4 al4 tp4; clear H4; have k4 := alike_below al4 tp4; have hv' : ∃ b : Nat, b < k ∧ v = .int .i64 (b : Int) ∧ ∀ i, i < k → bet (I i) (I b) = false := (by rcases hv with ⟨h, _⟩ | ⟨_, h⟩; exact absurd h hk0; exact h); obtain ⟨b, hbk, rfl, hbest⟩ := hv'; clear al4 tp4 hv)
                    | (go_at_call 11; refine H4'.mono ?_; clear H4'; rintro e w5 ⟨x, rfl, hx, q5, m5⟩; obtain rfl := best_is hbo.tells hbk hbest hx; clear hx hbest))
                  have hbo4 := hbo.kept k4
                  obtain ⟨g, rfl, hp4⟩ := hbo4.own.form (by omega)
                  have hp5 : PairsAt w5 g k cap I := hp4.of_block (m5.block g hp4.lt (hbo4.apart _ rfl))
                  have c3 := hp5.cell0 hbk
                  have c4 := hp5.cell1 hbk
                  have hg5 := hp5.lt
                  have hbk' : (b : Int) < (k : Int) := by omega
                  have hb0 : decide ((0 : Int) ≤ (b : Int)) = true := by simp
                  go_quiet (fail)
                  go_upto_region 32 with fail
                  have kb : Below w5.heap.size w5 (World.drewN (w5.alloc (.cells #[.int .i64 (I b).1, .int .i64 (I b).2] 30)) nq) := drawn ((Below.refl _ _).alloc (Nat.le_refl _) _) _
                  generalize World.drewN (w5.alloc (.cells #[.int .i64 (I b).1, .int .i64 (I b).2] 30)) nq = u at kb ⊢
                  obtain ⟨g', hg', hpu, hcap, ad1, cap1, w6, ad2, cap2, w7, r1, r2, hb7, hk7⟩ := hbo4.del_runs' (u := u.drew) (by have := hJ'.out; omega) hbk q5 m5 kb.drew
                  cases hg'
                  have hac : b ≤ cap := by omega
                  have ha1 : b + 1 ≤ k := hbk
                  have ha1' : (b : Int) + 1 ≤ (k : Int) := by omega
                  have ha0' : (0 : Int) ≤ (b : Int) + 1 := by omega
                  have han : ((b : Int) + 1).toNat = b + 1 := by omega
                  have hwa : IntKind.i64.wrap ((b : Int) + 1) = (b : Int) + 1 := by rw [IntKind.wrap_i64]; omega
                  obtain ⟨A, hA⟩ : ∃ A, (if cap = b + 1 then some (⟨g, 0, none⟩ : Addr) else some ⟨g, (b + 1) * 2, none⟩) = some A := by
                    by_cases hcc : cap = b + 1
                    · exact ⟨_, if_pos hcc⟩
                    · exact ⟨_, if_neg hcc⟩
                  rw [hA] at r2
                  have hS4 : w4.heap[Sb]? = wr.heap[Sb]? := k4.block _ hSlt
                  have hSlt4 : Sb < w4.heap.size := Nat.lt_of_lt_of_le hSlt k4.size
                  go_region_law (first | (refine step_append rfl (.const (.slice none 0 0)) (.tmp 120) rfl _ _ _ (by simp [Act.eval]) (by simp [Act.eval, Act.put]) r1 ?_) | (refine step_append rfl (.tmp 121) (.tmp 125) rfl _ _ _ (by simp [Act.eval]) (by simp [Act.eval]) r2 ?_))
                  all_goals
                    go_wp2
                    go_meet
                    case rel => exact ⟨k - 1, cap2, ad2, _, S, _, rfl, by omega, hb7, (hk7 Sb hSlt4 hfar1).trans (hS4.trans hs), hfar1⟩
              · have hd3 : decide (what = 3) = false := by simpa using h3
                by_cases h4 : what = 4
                · subst h4
                  rcases hat with ⟨rfl, hno⟩ | ⟨a, ha, rfl, hid⟩
                  · have hK := hbo.tells.none_of hno
                    have H3 := change_no hbo.has hK key
                    clear hno hK
                    go_wp2_with (first
                      | (go_at_call 12; refine H3.mono ?_; clear H3; rintro e w5 ⟨rfl, b5⟩))
                    go_meet
                    case rel => exact ⟨k, cap, ad, I, S, K, rfl, by omega, hbo.kept b5, (b5.block _ hSlt).trans hs, hfar1⟩
                  · have hK : K id = some (I a).2 := (hbo.tells _ _).2 ⟨a, ha, Prod.ext hid rfl⟩
                    have H3 := change_yes hbo.has (by have := hJ'.out; omega) hK key
                    have hak' : (a : Int) < (k : Int) := by omega
                    have hda : decide ((0 : Int) ≤ (a : Int)) = true := by simp
                    obtain ⟨g, rfl, _⟩ := hbo.own.form (by omega)
                    have hgS : Sb ≠ g := fun e => hadS _ rfl e.symm
                    have hrk : ∀ w5, Has w5 Q S (at1 K id (some key)) k → Moved S wr w5 → _ := fun w5 q5 m5 => hbo.rekey (key := key) ha (by rw [hid]; exact q5) m5
                    clear hK hid
                    go_wp2_with (first
                      | (go_at_call 12; refine H3.mono ?_; clear H3; rintro e w5 ⟨rfl, q5, m5⟩; obtain ⟨hp5, hb5, hk5⟩ := hrk w5 q5 m5; clear hrk; have hs5 := (m5.block _ hSlt hfar1); have e1 : w5.cell? ⟨Sb, 1, none⟩ = some (.int .i64 id) := (by simp [World.cell?, hs5, hs]); have e2 : w5.cell? ⟨Sb, 2, none⟩ = some (.int .i64 key) := (by simp [World.cell?, hs5, hs]); have d5 := hp5.cell1 ha; have f5 := hp5.frozen (a * 2 + 1))
                      )
                    go_meet
                    case rel => exact ⟨k, cap, _, _, S, _, rfl, by omega, hb5, (hk5 Sb hSlt hfar1 hgS).trans hs, hfar1⟩
                · have hd4 : decide (what = 4) = false := by simpa using h4
                  rcases hat with ⟨rfl, hno⟩ | ⟨a, ha, rfl, hid⟩
                  · have hK := hbo.tells.none_of hno
                    have H3 := drop_no hbo.has hK
                    clear hno hK
                    go_wp2_with (first
                      | (go_at_call 13; refine H3.mono ?_; clear H3; rintro e w5 ⟨rfl, b5⟩))
                    go_meet
                    case rel => exact ⟨k, cap, ad, I, S, K, rfl, by omega, hbo.kept b5, (b5.block _ hSlt).trans hs, hfar1⟩
                  · have hK : K id = some (I a).2 := (hbo.tells _ _).2 ⟨a, ha, Prod.ext hid rfl⟩
                    have H3 := hbo.has.shorter (by have := hJ'.out; omega) hK
                    have hak' : (a : Int) < (k : Int) := by omega
                    have hda : decide ((0 : Int) ≤ (a : Int)) = true := by simp
                    have hrk : ∀ w5, Has w5 Q S (at1 K id none) (k - 1) → Moved S wr w5 → _ := fun w5 q5 m5 => hbo.del_runs' (u := w5.drew) (by have := hJ'.out; omega) ha (by rw [hid]; exact q5) m5 (Below.refl _ _).drew
                    clear hK hid
                    go_wp2_with (first
                      | (go_at_call 13; refine H3.mono ?_; clear H3; rintro e w5 ⟨rfl, q5, m5⟩; obtain ⟨g, rfl, hpu, hcap, ad1, cap1, w6, ad2, cap2, w7, r1, r2, hb7, hk7⟩ := hrk w5 q5 m5; clear hrk; have hac : a ≤ cap := (by omega)))
                    have ha1 : a + 1 ≤ k := ha
                    have ha1' : (a : Int) + 1 ≤ (k : Int) := by omega
                    have ha0' : (0 : Int) ≤ (a : Int) + 1 := by omega
                    have han : ((a : Int) + 1).toNat = a + 1 := by omega
                    have hwa : IntKind.i64.wrap ((a : Int) + 1) = (a : Int) + 1 := by rw [IntKind.wrap_i64]; omega
                    obtain ⟨A, hA⟩ : ∃ A, (if cap = a + 1 then some (⟨g, 0, none⟩ : Addr) else some ⟨g, (a + 1) * 2, none⟩) = some A := by
                      by_cases hcc : cap = a + 1
                      · exact ⟨_, if_pos hcc⟩
                      · exact ⟨_, if_neg hcc⟩
                    rw [hA] at r2
                    go_region_law (first | (refine step_append rfl (.const (.slice none 0 0)) (.tmp 61) rfl _ _ _ (by simp [Act.eval]) (by simp [Act.eval, Act.put]) r1 ?_) | (refine step_append rfl (.tmp 62) (.tmp 66) rfl _ _ _ (by simp [Act.eval]) (by simp [Act.eval]) r2 ?_))
                    all_goals
                      go_wp2
                      go_meet
                      case rel => exact ⟨k - 1, cap2, ad2, _, S, _, rfl, by omega, hb7, (hk7 Sb hSlt hfar1).trans hs, hfar1⟩
          case rest =>
            clear hbo hs c0 c1 c2 hat hadS hSlt
            obtain ⟨n, cap, ad, I, S, K, rfl, hnj1, hbo, hs, hfar⟩ := hcut
            have hn101 : n ≤ 101 := by have := hJ'.out; omega
            have H5 := best_any hbo.own (by omega)
            have H6 : ∀ w' : World, w'.Alike wc → w'.tape = wc.tape → _ := fun w' h1 h2 => (hbo.has.below (alike_below h1 h2)).top
            go_upto_region 40 with (first
              | (go_at_call 10; refine H5.mono ?_; clear H5; rintro e w4 ⟨vb, rfl, hv, al4, tp4⟩; have H6' := H6 w4 al4 tp4; clear H6; have k4 := alike_below al4 tp4; clear al4 tp4)
              | (go_at_call 14; refine H6'.mono ?_; clear H6'; rintro e w5 ⟨x, ok, rfl, b5, hx⟩))
            have kk := below_far k4 b5
            have kf := kk.alloc kk.size (.cells #[.int .i64 x.1, .int .i64 x.2] 30)
            have hbo6 := hbo.kept kf
            have hs6 := (kf.block _ (Array.getElem?_eq_some_iff.1 hs).1).trans hs
            have bx : (w5.alloc (.cells #[.int .i64 x.1, .int .i64 x.2] 30)).heap[w5.heap.size]? = some (.cells #[.int .i64 x.1, .int .i64 x.2] 30 (0, 0)) := (MapKept.heap_alloc w5 _).1
            have x0 : (w5.alloc (.cells #[.int .i64 x.1, .int .i64 x.2] 30)).cell? ⟨w5.heap.size, 0, none⟩ = some (.int .i64 x.1) := by unfold World.cell?; rw [bx]; rfl
            have x1 : (w5.alloc (.cells #[.int .i64 x.1, .int .i64 x.2] 30)).cell? ⟨w5.heap.size, 1, none⟩ = some (.int .i64 x.2) := by unfold World.cell?; rw [bx]; rfl
            clear hbo hs kk kf k4 b5 bx
            generalize w5.alloc (.cells #[.int .i64 x.1, .int .i64 x.2] 30) = w6 at hbo6 hs6 x0 x1 ⊢
            generalize w5.heap.size = X at x0 x1 ⊢
            go_cut [176] from 155 to 176 (fun s w => s = .bool false ∧ Both W w Q ad n cap I S K ∧ w.heap[Sb]? = some (.cells #[.int .i64 what, .int .i64 id, .int .i64 key] 28 (0, 0)))
            case first =>
              have keep := KeepM.mk (by assumption)
              go_light
              have kept := keep.out
              clear keep
              have hfin : ∀ m, Both W (w6.drewN m) Q ad n cap I S K ∧ (w6.drewN m).heap[Sb]? = some (.cells #[.int .i64 what, .int .i64 id, .int .i64 key] 28 (0, 0)) := fun m => ⟨hbo6.kept (drawn (Below.refl _ _) m), hs6⟩
              have H7 := fun m => len_any (hfin m).1.has
              rcases hx with ⟨hn0, rfl⟩ | ⟨hn0, rfl, hx⟩
              · have hv' : vb = .int .i64 (-1) := by
                  rcases hv with ⟨_, h⟩ | ⟨h, _⟩
                  · exact h
                  · omega
                subst hv'
                clear hv hn0
                go_quiet ((go_at_call 15; exact Calls.quiet_of_same (H7 _)))
                go_wp2
                go_meet
                case rel => exact ⟨rfl, (hfin _).1, (hfin _).2⟩
              · have hv' : ∃ b : Nat, b < n ∧ vb = .int .i64 (b : Int) ∧ ∀ i, i < n → bet (I i) (I b) = false := by
                  rcases hv with ⟨h, _⟩ | ⟨_, h⟩
                  · omega
                  · exact h
                obtain ⟨b, hbn, rfl, hbest⟩ := hv'
                obtain rfl := best_is hbo6.tells hbn hbest hx
                clear hv hx hbest
                obtain ⟨g, rfl, hp6⟩ := hbo6.own.form (by omega)
                have c3 := hp6.cell0 hbn
                have c4 := hp6.cell1 hbn
                have hbn' : (b : Int) < (n : Int) := by omega
                have hb0 : decide ((0 : Int) ≤ (b : Int)) = true := by simp
                go_quiet ((go_at_call 15; exact Calls.quiet_of_same (H7 _)))
                go_wp2
                go_meet
                case rel => exact ⟨rfl, (hfin _).1, (hfin _).2⟩
            case rest =>
              clear x0 x1 hv hx hbo6 hs6
              obtain ⟨rfl, hbo, hs⟩ := hcut
              have c1 : wc.cell? ⟨Sb, 1, none⟩ = some (.int .i64 id) := by simp [World.cell?, hs]
              have H8 := hbo.has.key id
              go_wp2_with (first
                | (go_at_call 16; refine H8.mono ?_; clear H8; rintro e w8 ⟨v, is, rfl, b8, hv⟩))
              have hbo8 := hbo.kept b8
              have hs8 := (b8.block _ (Array.getElem?_eq_some_iff.1 hs).1).trans hs
              clear hbo hs c1 b8
              go_loopg [17, 18] n (fun g st sj wr => ∃ (i : Nat) (t : Bool), i + g = n ∧ sj = .int .i64 (i : Int) ∧ st = .bool t ∧ (t = true ↔ ∃ i', i' < i ∧ I i' = (id, v)) ∧ wr.Alike w8 ∧ wr.tape = w8.tape)
              case atStart => exact ⟨0, false, by omega, rfl, rfl, by simp, ⟨rfl, rfl, rfl⟩, rfl⟩
              case round =>
                obtain ⟨i, t, hig, rfl, rfl, ht, hal, htp⟩ := hrel
                have hIG : Aside (i + gk = n) := hig
                have hTP : Aside (wr.tape = w8.tape) := htp
                clear htp
                by_cases hin : i < n
                · have keep := KeepH.mk (g := gk) (by assumption)
                  go_light
                  have kept := keep.out
                  clear keep
                  have hin' : (i : Int) < (n : Int) := by omega
                  obtain ⟨g, rfl, hp⟩ := hbo8.own.form (by omega)
                  have hp' : PairsAt wr g n cap I := hp.of_block (by rw [hal.1])
                  have d0 := hp'.cell0 hin
                  have d1 := hp'.cell1 hin
                  have hs' : wr.heap[Sb]? = some (.cells #[.int .i64 what, .int .i64 id, .int .i64 key] 28 (0, 0)) := by rw [hal.1]; exact hs8
                  have c1 : wr.cell? ⟨Sb, 1, none⟩ = some (.int .i64 id) := by simp [World.cell?, hs']
                  have hstep : ∀ t' : Bool, (t' = true ↔ t = true ∨ I i = (id, v)) → (t' = true ↔ ∃ i', i' < i + 1 ∧ I i' = (id, v)) := fun t' h => by
                    rw [h, ht]
                    constructor
                    · rintro (⟨i', h1, h2⟩ | h2)
                      · exact ⟨i', by omega, h2⟩
                      · exact ⟨i, by omega, h2⟩
                    · rintro ⟨i', h1, h2⟩
                      by_cases c : i' = i
                      · right; rw [← c]; exact h2
                      · left; exact ⟨i', by omega, h2⟩
                  clear hig ht
                  generalize I i = y at d0 d1 hstep
                  obtain ⟨y0, y1⟩ := y
                  simp only at d0 d1
                  cases t with
                  | true =>
                    have hres : Aside ((true = true ↔ ∃ i', i' < i + 1 ∧ I i' = (_, _))) := hstep true (by simp)
                    clear hstep
                    go_wp2
                    go_quiet (fail)
                    go_wp2
                    go_roundg (gk - 1)
                    case measure => have := hIG.out; omega
                    case rel =>
                      have hig := hIG.out
                      exact ⟨i + 1, true, by omega, by go_num, rfl, by simpa using hres.out, hal, hTP.out⟩
                  | false =>
                    by_cases e1 : y0 = id
                    · subst e1
                      by_cases e2 : y1 = v
                      · subst e2
                        have hres : Aside ((true = true ↔ ∃ i', i' < i + 1 ∧ I i' = (_, _))) := hstep true (by simp)
                        clear hstep
                        go_wp2
                        go_quiet (fail)
                        go_wp2
                        go_roundg (gk - 1)
                        case measure => have := hIG.out; omega
                        case rel =>
                          have hig := hIG.out
                          exact ⟨i + 1, true, by omega, by go_num, rfl, by simpa using hres.out, hal, hTP.out⟩
                      · have hde : decide (y1 = v) = false := by simpa using e2
                        have hbe : (y1 == v) = false := by simpa using e2
                        have hres : Aside ((false = true ↔ ∃ i', i' < i + 1 ∧ I i' = (_, _))) := hstep false (by simp [e2])
                        clear hstep
                        go_wp2
                        go_quiet (fail)
                        go_wp2
                        go_roundg (gk - 1)
                        case measure => have := hIG.out; omega
                        case rel =>
                          have hig := hIG.out
                          exact ⟨i + 1, false, by omega, by go_num, rfl, hres.out, hal, hTP.out⟩
                    · have hde : decide (y0 = id) = false := by simpa using e1
                      have hres : Aside ((false = true ↔ ∃ i', i' < i + 1 ∧ I i' = (_, _))) := hstep false (by simp [e1])
                      clear hstep
                      go_wp2
                      go_quiet (fail)
                      go_wp2
                      go_roundg (gk - 1)
                      case measure => have := hIG.out; omega
                      case rel =>
                        have hig := hIG.out
                        exact ⟨i + 1, false, by omega, by go_num, rfl, hres.out, hal, hTP.out⟩
                · obtain rfl : i = n := by omega
                  have hbo9 := hbo8.kept (alike_below hal hTP.out)
                  have hti : t = is := by
                    rcases hv with ⟨h1, h2⟩ | ⟨h1, h2⟩
                    · rw [h1]
                      exact ht.2 ((hbo8.tells id v).1 h2)
                    · rw [h1]
                      cases t with
                      | false => rfl
                      | true =>
                        have := (hbo8.tells id v).2 (ht.1 rfl)
                        rw [h2] at this
                        cases this
                  subst hti
                  have hj100 : j ≤ 100 := by have := hJ'.out; omega
                  clear hig hv ht hal hTP hbo8 hs8
                  go_wp2
                  go_roundg (gj - 1)
                  case measure => have h1 := hGJ.out; have h2 := hJ'.out; omega
                  case rel =>
                    have hj := hJ'.out
                    exact ⟨j + 1, _, cap, ad, I, S, K, by omega, by omega, by go_num, rfl, hbo9⟩
    · obtain rfl : j = len := by omega
      clear hj
      go_wp2
      go_ret
      exact ⟨rfl, hbo.below⟩
end Go.Proofs.Ythcjmbfhcdkffaa
