/-
  The library's deleting by a test and its compacting, over a row of handles.
-/
import Derived.Test.YtlmbofbdncgaiaaGreatRsRow
import Derived.Lib.SliceRun
import Derived.Deep.CutRange
namespace Go.Proofs.YtlmbofbdncgaiaaGreat.Rs
open Go Go.RowKit

/-- The first n of a row. -/
def lst (d : Array Int) (n : Nat) : List Int := (List.range n).map fun k => d[k]!
theorem lst_succ (d : Array Int) (n : Nat) : lst d (n + 1) = lst d n ++ [d[n]!] := by simp [lst, List.range_succ]
theorem lst_congr {d D : Array Int} {n : Nat} (h : ∀ k, k < n → d[k]! = D[k]!) : lst d n = lst D n := by
  unfold lst
  apply List.map_congr_left
  intro k hk
  exact h k (List.mem_range.1 hk)
theorem lst_all (d : Array Int) : lst d d.size = d.toList := by
  apply List.ext_getElem
  · simp [lst]
  · intro i h1 h2
    have hi : i < d.size := by simpa using h2
    simp [lst, hi]
theorem lst_mem {d : Array Int} {n : Nat} {x : Int} : x ∈ lst d n ↔ ∃ k, k < n ∧ d[k]! = x := by simp [lst]
theorem lst_len (d : Array Int) (n : Nat) : (lst d n).length = n := by simp [lst]
theorem get_cut (D : Array Int) (k i : Nat) (hk : k ≤ D.size) (hi : i < k) : (D.extract 0 k)[i]! = D[i]! := by
  rw [getElem!_pos _ i (by simp; omega), getElem!_pos D i (by omega)]
  simp
theorem cut_list (D : Array Int) (k : Nat) (hk : k ≤ D.size) : (D.extract 0 k).toList = lst D k := by
  rw [← lst_all, show (D.extract 0 k).size = k by simp; omega]
  exact lst_congr fun i hi => get_cut D k i hk hi

theorem row_setCells {t : TypeId} {n b : Nat} : ∀ (vs : List Value) (o : Nat) (w : World) (f : Nat → Value), w.rowIs b t n f → ∃ f', (∀ j, j < o → f' j = f j) ∧ (w.setCells b o vs).rowIs b t n f' ∧ Went (fun k => k = b) w (w.setCells b o vs)
  | [], o, w, f, h => ⟨f, fun _ _ => rfl, h, Went.refl _ _⟩
  | v :: vs, o, w, f, h => by
    obtain ⟨f', h1, h2, h3⟩ := row_setCells vs (o + 1) (w.setCell ⟨b, o, none⟩ v) _ (h.set o v)
    refine ⟨f', fun j hj => ?_, h2, (Went.set (S := fun k => k = b) rfl w v).trans h3⟩
    rw [h1 j (by omega), if_neg (by omega)]
theorem zero29 (w : World) : (zeroValue 32).run Tryz.prog w = .ok (.int .u32 0) w := by kernel_rfl
section
variable {w0 w : World} {blk cap n : Nat} {U : Nat → Value} {d : Array Int}
/-- The row cut off at k, whatever lies behind. -/
theorem Rw.cut (h : Rw w0 blk cap U d w) (k : Nat) (hk : k ≤ d.size) : ∃ U', Rw w0 blk cap U' (d.extract 0 k) w := by
  refine ⟨rowf d U, ⟨h.row.congr fun j hj => ?_, by have := h.le; simp; omega, h.went, h.old⟩⟩
  show rowf d U j = rowf (d.extract 0 k) (rowf d U) j
  rw [rowf.eq_def (d.extract 0 k)]
  have hs : (d.extract 0 k).size = k := by simp; omega
  rw [hs]
  split
  · rename_i hj
    rw [rowf, if_pos (by omega), get_cut d k j hk hj]
  · rfl
theorem clear_any (h : Rw w0 blk cap U d w) (hn : d.size = n) (k : Nat) (hk : k < n) :
    ∃ w', (∀ ty c, (Builtin.clear_ #[34] ty #[.slice (some ⟨blk, k, none⟩) (n - k) c]).run Tryz.prog w = .ok (.tuple #[]) w') ∧ ∃ U', Rw w0 blk cap U' (d.extract 0 k) w' := by
  obtain ⟨U', h'⟩ := h.cut k (by omega)
  obtain ⟨f', h1, h2, h3⟩ := row_setCells (List.replicate (n - k) (.int .u32 0)) k w _ h'.row
  refine ⟨_, fun ty c => Lib.run_clear_slice w 34 32 ty _ Tryz.underlying34 zero29 rfl rfl blk k (n - k) c (by omega) (fun t ht => ?_) (fun t ht => ?_), f', ⟨h2.congr fun j hj => ?_, h'.le, h'.went.trans h3, h.old⟩⟩
  · rw [h.cell (i := k + t) (by omega)]; rfl
  · exact h.free (k + t)
  · have hs : (d.extract 0 k).size = k := by simp; omega
    by_cases c : j < k
    · rw [h1 j c, rowf, rowf, hs, if_pos c, if_pos c]
    · rw [rowf, hs, if_neg c]
end

/-- The constants. -/
def cst (x : Int) : Bool := decide (x = 0 ∨ x = 1)
theorem cst_any (x : Int) (w : World) : Calls Tryz.prog 66 #[.int .u32 x] w fun e w' => e = .returned (.bool (cst x)) ∧ w' = w := by
  unfold cst
  by_cases h0 : x = 0
  · subst h0
    go_enter Tryz.func66, Tryz.ntmps66
    go_wp2
    go_ret
    exact ⟨rfl, rfl⟩
  · have h0b : (x == 0) = false := by simpa using h0
    by_cases h1 : x = 1
    · subst h1
      go_enter Tryz.func66, Tryz.ntmps66
      go_wp2
      go_ret
      exact ⟨rfl, rfl⟩
    · have h1b : (x == 1) = false := by simpa using h1
      go_enter Tryz.func66, Tryz.ntmps66
      go_wp2
      go_ret
      simp [h0, h1]

set_option maxHeartbeats 4000000 in
theorem index_any {w0 w : World} {blk cap n : Nat} {U : Nat → Value} {d : Array Int} (h : Rw w0 blk cap U d w) (hn : d.size = n) (hsz : n < 65536) :
    Calls Tryz.prog 82 #[.slice (some ⟨blk, 0, none⟩) n cap, .func (.func 66) #[] #[]] w fun e w' => (∃ r : Int, e = .returned (.int .i64 r) ∧ ((r = -1 ∧ ∀ i, i < n → cst d[i]! = false) ∨ ∃ i : Nat, i < n ∧ r = (i : Int) ∧ cst d[i]! = true ∧ ∀ j, j < i → cst d[j]! = false)) ∧ w' = w := by
  have hs : Aside (d.size = n) := hn
  have hA : Aside (Rw w0 blk cap U d w) := h
  clear h hn
  go_enter Tryz.func82, Tryz.ntmps82
  go_wp2
  go_loopg [8] n (fun g s wr => ∃ i : Nat, s = .int .i64 (i : Int) ∧ i + g = n ∧ Aside (∀ j, j < i → cst d[j]! = false) ∧ wr = w)
  case atStart => exact ⟨0, rfl, by omega, (show Aside _ from fun j hj => by omega), rfl⟩
  case round =>
    obtain ⟨i, rfl, hg, hF, hw⟩ := hrel
    subst hw
    by_cases hi : i < n
    · have hiz : (i : Int) < (n : Int) := by omega
      have c1 := hA.out.cell (i := i) (by have := hs.out; omega)
      obtain ⟨v, hv⟩ : ∃ v, v = d[i]! := ⟨_, rfl⟩
      have hvA : Aside (v = d[i]!) := hv
      rw [← hv] at c1
      clear hv
      have K := cst_any v wr
      cases hc : cst v with
      | true =>
        rw [hc] at K
        have hcA : Aside (cst v = true) := hc
        clear hc
        go_wp2_with (go_at_call 66; refine K.mono ?_; clear K; rintro e w ⟨rfl, rfl⟩)
        go_ret
        exact ⟨⟨_, rfl, .inr ⟨i, hi, rfl, by rw [← hvA.out]; exact hcA.out, hF.out⟩⟩, rfl⟩
      | false =>
        rw [hc] at K
        have hcA : Aside (cst v = false) := hc
        clear hc
        go_wp2_with (go_at_call 66; refine K.mono ?_; clear K; rintro e w ⟨rfl, rfl⟩)
        go_roundg (gk - 1)
        case measure => omega
        case rel => exact ⟨i + 1, by go_num, by omega, (show Aside _ from fun j hj => (Nat.lt_or_ge j i).elim (fun e => hF.out j e) (fun e => by rw [show j = i by omega, ← hvA.out]; exact hcA.out)), rfl⟩
    · have hiz : ¬ (i : Int) < (n : Int) := by omega
      go_wp2
      go_ret
      exact ⟨⟨_, rfl, .inl ⟨rfl, fun j hj => hF.out j (by omega)⟩⟩, rfl⟩

def nc (x : Int) : Bool := !cst x
theorem filter_lst {d : Array Int} : ∀ {n : Nat}, (∀ i, i < n → cst d[i]! = false) → (lst d n).filter nc = lst d n := by
  intro n h
  rw [List.filter_eq_self]
  intro x hx
  obtain ⟨k, hk, rfl⟩ := lst_mem.1 hx
  simp [nc, h k hk]

set_option maxHeartbeats 4000000 in
theorem delete_any {w0 w : World} {blk cap n : Nat} {U : Nat → Value} {d : Array Int} (h : Rw w0 blk cap U d w) (hn : d.size = n) (hsz : n < 65536) :
    Calls Tryz.prog 65 #[.slice (some ⟨blk, 0, none⟩) n cap, .func (.func 66) #[] #[]] w fun e w' => ∃ (U' : Nat → Value) (D : Array Int), e = .returned (.slice (some ⟨blk, 0, none⟩) D.size cap) ∧ D.toList = d.toList.filter nc ∧ Rw w0 blk cap U' D w' := by
  have hs : Aside (d.size = n) := hn
  have hA : Aside (Rw w0 blk cap U d w) := h
  have K := index_any h hn hsz
  have hcap : n ≤ cap := by have := h.le; omega
  clear h hn
  go_enter Tryz.func65, Tryz.ntmps65
  go_upto_if 12 with (go_at_call 82; refine K.mono ?_; clear K; rintro e w ⟨⟨r, rfl, hr⟩, rfl⟩)
  rcases hr with ⟨rfl, hall⟩ | ⟨i, hin, rfl, hci, hlo⟩
  · go_wp2
    go_ret
    refine ⟨U, d, (by have e := hs.out; subst e; rfl), ?_, hA.out⟩
    have := filter_lst (d := d) (n := n) hall
    rw [← hs.out, lst_all] at this
    exact this.symm
  · have hne : ¬ (i : Int) = -1 := by omega
    have hneb : ((i : Int) == -1) = false := by simp
    have hk0 : Aside (lst d i = (lst d (i + 1)).filter nc) := by
      show _ = _
      rw [lst_succ, List.filter_append, filter_lst hlo]
      simp [nc, hci]
    go_wp2
    go_loopg [5, 6] (n - (i + 1)) (fun g s1 s2 wr => ∃ (i j : Nat) (D : Array Int), s1 = .int .i64 (i : Int) ∧ s2 = .int .i64 (j : Int) ∧ j + g = n ∧ i < j ∧ Aside (D.size = n) ∧ Aside (∀ k, j ≤ k → D[k]! = d[k]!) ∧ Aside (lst D i = (lst d j).filter nc) ∧ Rw w0 blk cap U D wr)
    case atStart => exact ⟨i, i + 1, d, rfl, by go_num, by omega, by omega, hs, (show Aside _ from fun _ _ => rfl), hk0, hA.out⟩
    case round =>
      clear hk0
      obtain ⟨i, j, D, rfl, rfl, hg, hij, hs2, hE, hL, hR⟩ := hrel
      by_cases hj : j < n
      · have hjz : (j : Int) < (n : Int) := by omega
        have hiz : (i : Int) < (n : Int) := by omega
        have c1 := hR.cell (i := j) (by have := hs2.out; omega)
        rw [hE.out j (Nat.le_refl _)] at c1
        obtain ⟨v, hv⟩ : ∃ v, v = d[j]! := ⟨_, rfl⟩
        have hvA : Aside (v = d[j]!) := hv
        rw [← hv] at c1
        clear hv
        have K := cst_any v wr
        cases hc : cst v with
        | true =>
          rw [hc] at K
          have hcA : Aside (cst v = true) := hc
          clear hc
          go_wp2_with (go_at_call 66; refine K.mono ?_; clear K; rintro e w ⟨rfl, rfl⟩)
          go_roundg (gk - 1)
          case measure => omega
          case rel => exact ⟨i, j + 1, D, rfl, by go_num, by omega, by omega, hs2, (show Aside _ from fun k hk => hE.out k (by omega)), (show Aside _ from by show _ = _; rw [hL.out, lst_succ, List.filter_append, ← hvA.out]; simp [nc, hcA.out]), hR⟩
        | false =>
          rw [hc] at K
          have hcA : Aside (cst v = false) := hc
          clear hc
          have f1 := hR.free i
          have c2 := hR.cell (i := i) (by have := hs2.out; omega)
          have hR2 := hR.set i (by have := hs2.out; omega) v
          generalize D[i]! = u at c2
          go_wp2_with (go_at_call 66; refine K.mono ?_; clear K; rintro e w ⟨rfl, rfl⟩)
          go_roundg (gk - 1)
          case measure => omega
          case rel => exact ⟨i + 1, j + 1, _, by go_num, by go_num, by omega, by omega, (show Aside _ from by show _ = _; simp; exact hs2.out), (show Aside _ from fun k hk => by rw [get_set D i v (by have := hs2.out; omega), if_neg (by omega)]; exact hE.out k (by omega)), (show Aside _ from by
            show _ = _
            rw [lst_succ, get_set D i v (by have := hs2.out; omega), if_pos rfl, lst_succ, List.filter_append, ← hvA.out, ← hL.out]
            rw [lst_congr (d := D.setIfInBounds i v) (D := D) fun k hk => by rw [get_set D i v (by have := hs2.out; omega), if_neg (by omega)]]
            simp [nc, hcA.out]), hR2⟩
      · have hjz : ¬ (j : Int) < (n : Int) := by omega
        have hjn : j = n := by omega
        have hin : i < n := by omega
        have hicap : ¬ cap = i := by omega
        obtain ⟨w', hcl, U', hR'⟩ := clear_any hR hs2.out i hin
        have hA2 : Aside (Rw w0 blk cap U' (D.extract 0 i) w') := hR'
        have hjA : Aside (j = n) := hjn
        have hiA : Aside (i < n) := hin
        clear hR' hjn
        go_wp2
        go_ret
        refine ⟨U', D.extract 0 i, ?_, ?_, hA2.out⟩
        · have : (D.extract 0 i).size = i := by have := hs2.out; have := hiA.out; simp; omega
          rw [this]
          rfl
        · have e := hL.out
          rw [hjA.out, ← hs.out, lst_all] at e
          rw [cut_list D i (by have := hs2.out; have := hiA.out; omega), e]
end Go.Proofs.YtlmbofbdncgaiaaGreat.Rs
