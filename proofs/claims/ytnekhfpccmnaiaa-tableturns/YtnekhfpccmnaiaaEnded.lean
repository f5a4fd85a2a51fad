/-
  What TableTurns asks at its end ('ended'): of finders that are all done it holds.
-/
import Derived.Test.YtnekhfpccmnaiaaAloneW
namespace Go.Proofs.Ytnekhfpccmnaiaa
open Go Go.RowKit

/-- How many of the first j finders made key k. -/
def makers (Ss : Nat → Fd) (k : Int) : Nat → Nat
  | 0 => 0
  | j + 1 => makers Ss k j + if (Ss j).key = k ∧ (Ss j).made = true then 1 else 0
theorem told_miss {n : Nat} {t : Nat → Int} {y : Int} {ok : Bool} {k : Int} (h : Told n t k y ok) (hno : ∀ s, s < n → ¬ t s = k) : ok = false ∧ y = -1 := by
  rcases h with ⟨e1, s1, hs1, e2, e3⟩ | ⟨e1, e2, _⟩
  · exact absurd e3 (hno s1 hs1)
  · exact ⟨e1, e2⟩
theorem makers_none {Ss : Nat → Fd} {k : Int} {j : Nat} (h : ∀ a, a < j → ¬ ((Ss a).key = k ∧ (Ss a).made = true)) : makers Ss k j = 0 := by
  induction j with
  | zero => rfl
  | succ j ih => simp only [makers]; rw [ih fun a ha => h a (by omega), if_neg (h j (by omega))]
theorem makers_one {Ss : Nat → Fd} {k : Int} {m a : Nat} (ha : a < m) (hk : (Ss a).key = k ∧ (Ss a).made = true) (hu : ∀ b, b < m → (Ss b).key = k ∧ (Ss b).made = true → b = a) : makers Ss k m = 1 := by
  induction m with
  | zero => omega
  | succ m ih =>
    simp only [makers]
    by_cases e : a = m
    · subst e
      rw [makers_none (fun b hb hc => by have := hu b (by omega) hc; omega), if_pos hk]
    · rw [ih (by omega) fun b hb hc => hu b (by omega) hc, if_neg (fun hc => e (hu m (by omega) hc).symm)]
theorem makers_le (Ss : Nat → Fd) (k : Int) (j : Nat) : makers Ss k j ≤ j := by
  induction j with
  | zero => exact Nat.le_refl _
  | succ j ih => simp only [makers]; split <;> omega

/-- Each key that stands was made by one finder. -/
structure Made (n m : Nat) (Ss : Nat → Fd) (t : Nat → Int) : Prop where
  one : ∀ a b, a < m → b < m → (Ss a).made = true → (Ss b).made = true → (Ss a).key = (Ss b).key → a = b
  some_ : ∀ s, s < n → ¬ t s = 0 → ∃ a, a < m ∧ (Ss a).made = true ∧ (Ss a).key = t s

set_option maxHeartbeats 4000000 in
set_option maxRecDepth 100000 in
theorem ended_any {W w : World} {R T n m cap : Nat} {ad : Option Addr} {Fs : Nat → Nat} {Ss : Nat → Fd} {t : Nat → Int} {o f : Int} (C0 : Crew W w R T n m ad cap Fs Ss t o f) (M : Made n m Ss t) (hdone : ∀ a, a < m → (Ss a).st = 0)
    (adk : Option Addr) (capk b off : Nat) (Z : Nat → Int) (hZ : Bytes W adk m b off Z) (kinds : Int) (hk1 : 1 ≤ kinds) (hk2 : kinds ≤ 12) (hkey : ∀ a, a < m → (Ss a).key = Z a % kinds + 1) (hm12 : m ≤ 12) :
    Calls Try.prog 22 #[.pointer (some ⟨T, 0, none⟩), .slice ad m cap, .slice adk m capk, .int .i64 kinds, .int .i64 (n : Int)] w fun e w' => e = .returned (.bool true) ∧ Below W.heap.size W w' := by
  have hdA : Aside (∀ a, a < m → (Ss a).st = 0) := hdone
  have hkA : Aside (∀ a, a < m → (Ss a).key = Z a % kinds + 1) := hkey
  clear hdone hkey
  have hn1 := C0.pos
  go_enter Try.func22, Try.ntmps22
  go_wp2_with fail
  go_loopg [11] m (fun g si wr => ∃ (i : Nat) (o : Int), i + g = m ∧ si = .int .i64 (i : Int) ∧ Crew W wr R T n m ad cap Fs Ss t o f)
  case atStart => exact ⟨0, o, by omega, rfl, C0⟩
  case round =>
    clear C0
    obtain ⟨i, o, hi, rfl, C⟩ := hrel
    obtain ⟨go, hgo⟩ : ∃ go, go = gk := ⟨_, rfl⟩
    have hI : Aside (i + go = m) := by simp only [Aside]; omega
    clear hi
    by_cases him : i < m
    · have him' : (i : Int) < (m : Int) := by omega
      obtain rfl := hZ.ad_ (by omega)
      obtain ⟨g9, rfl⟩ := C.own.form (by omega)
      have hcf := C.own.cell him
      have hcz := hZ.kept C.old him
      have hzv := hZ.val i him
      have hfi := C.fi him
      have hst := hdA.out i him
      have hki := hkA.out i him
      have Kd := crew_done C him true (decide_eq_true hst)
      have Kk := key_any (Z i) kinds wr hzv.1 hzv.2 hk1 (by omega)
      rw [← hki] at Kk
      generalize Z i = x at hcz hzv Kk hki
      have hkb : 0 < (Ss i).key ∧ (Ss i).key ≤ 255 := by
        have := Int.emod_nonneg x (show kinds ≠ 0 by omega)
        have := Int.emod_lt_of_pos x (show 0 < kinds by omega)
        omega
      clear hki
      cases hf : (Ss i).found with
      | false =>
        have hx := tells_full hf hst hfi.key
        have Ks := slot_is (C.fd him) (-1) 60 (by rw [hx]) (by rw [hx])
        have hall := hfi.all hst hf
        have hmade : (Ss i).made = false := by
          cases hq : (Ss i).made with
          | false => rfl
          | true => have := hfi.made hq; rw [hf] at this; cases this
        have Km := made_is (C.fd him) false hmade
        have hcn : Aside (cnt t n = n) := cnt_full fun s hs => (hall s hs).1
        have hno : Aside (∀ s, s < n → ¬ t s = (Ss i).key) := fun s hs => (hall s hs).2
        generalize (Ss i).key = k at Kk hkb hno
        clear hx hall hmade hf hst hfi
        go_wp2_with (first
          | (go_at_call 14; refine Ks.mono ?_; clear Ks; rintro e wr ⟨rfl, rfl⟩)
          | (go_at_call 15; refine Kd.mono ?_; clear Kd; rintro e wr ⟨rfl, rfl⟩)
          | (go_at_call 20; refine Kk.mono ?_; clear Kk; rintro e wr ⟨rfl, rfl⟩)
          | (go_at_call 18; refine Km.mono ?_; clear Km; rintro e wr ⟨rfl, rfl⟩; have Kl := crew_len C; rw [hcn.out] at Kl)
          | (go_at_call 16; refine Kl.mono ?_; clear Kl; rintro e w5 ⟨rfl, ⟨o5, C5⟩, b5⟩; have Kh := crew_has C5 k (Int.le_of_lt hkb.1) hkb.2)
          | (go_at_call 19; refine Kh.mono ?_; clear Kh; rintro e w6 ⟨y, ok, rfl, told, ⟨o6, C6⟩, b6⟩; obtain ⟨rfl, rfl⟩ := told_miss told hno.out))
        go_roundg (go - 1)
        case measure => have := hI.out; omega
        case rel =>
          have hi := hI.out
          exact ⟨i + 1, _, by omega, rfl, C6⟩
      | true =>
        have hx := tells_found hf
        obtain ⟨_, hleft, htk⟩ := hfi.found hf
        have hsl := hfi.slot_lt hn1 hleft
        have Ks := slot_is (C.fd him) ((Ss i).slot : Int) 0 (by rw [hx]) (by rw [hx])
        have hkne := hfi.key
        generalize hkk : (Ss i).key = k at Kk hkb hkne htk
        generalize (Ss i).slot = q at Ks hsl htk
        have Ka := crew_at C q hsl k htk
        have hone : Aside (makers Ss k m = 1) := by
          obtain ⟨a, ha, hma, hka⟩ := M.some_ q hsl (by rw [htk]; exact hkne)
          rw [htk] at hka
          exact makers_one ha ⟨hka, hma⟩ fun b hb hc => M.one b a hb ha hc.2 hma (by rw [hc.1, hka])
        have htA : Aside (t q = k) := htk
        have hkkn : (k != k) = false := by simp
        clear hx hf hst hfi hleft hkk htk
        go_wp2_with (first
          | (go_at_call 14; refine Ks.mono ?_; clear Ks; rintro e wr ⟨rfl, rfl⟩)
          | (go_at_call 15; refine Kd.mono ?_; clear Kd; rintro e wr ⟨rfl, rfl⟩)
          | (go_at_call 20; refine Kk.mono ?_; clear Kk; rintro e wr ⟨rfl, rfl⟩)
          | (go_at_call 17; refine Ka.mono ?_; clear Ka; rintro e w5 ⟨rfl, ⟨o5, C5⟩, b5⟩))
        go_loopg [17, 18] m (fun g sm sj wr => ∃ (j : Nat) (o : Int), j + g = m ∧ sm = .int .i64 ((makers Ss k j : Nat) : Int) ∧ sj = .int .i64 (j : Int) ∧ Crew W wr R T n m (some ⟨g9, 0, none⟩) cap Fs Ss t o f)
        case atStart => exact ⟨0, _, by omega, rfl, rfl, C5⟩
        case round =>
          clear C C5 hcf hcz
          obtain ⟨j, o, hj, rfl, rfl, C⟩ := hrel
          have hJ : Aside (j + gk = m) := hj
          clear hj
          by_cases hjm : j < m
          · have hjm' : (j : Int) < (m : Int) := by omega
            have hcf := C.own.cell hjm
            have hcz := hZ.kept C.old hjm
            have hzv := hZ.val j hjm
            have hfi := C.fi hjm
            have hst := hdA.out j hjm
            have hkj := hkA.out j hjm
            have Kk := key_any (Z j) kinds wr hzv.1 hzv.2 hk1 (by omega)
            rw [← hkj] at Kk
            generalize Z j = x at hcz hzv Kk hkj
            have hmle := makers_le Ss k j
            have hmk : Aside (makers Ss k (j + 1) = makers Ss k j + if (Ss j).key = k ∧ (Ss j).made = true then 1 else 0) := rfl
            have Ks := slot_any (C.fd hjm)
            have Km := made_any (C.fd hjm)
            by_cases hsame : (Ss j).key = k
            · have hfj : (Ss j).found = true := by
                cases hq : (Ss j).found with
                | true => rfl
                | false => exact absurd htA.out (by rw [← hsame]; exact (hfi.all hst hq q hsl).2)
              obtain ⟨_, hl2, ht2⟩ := hfi.found hfj
              have hqq : (Ss j).slot = q := C.good.one hkne (hfi.slot_lt hn1 hl2) hsl (by rw [ht2, hsame]) htA.out
              rw [tells_found hfj, hqq] at Ks
              rw [hsame] at Kk hmk
              have hkk2 : (k == k) = true := by simp
              cases hmd : (Ss j).made with
              | true =>
                rw [hmd] at Km hmk
                rw [if_pos ⟨rfl, rfl⟩] at hmk
                clear hfj hqq hl2 ht2 hsame hst hfi hkj
                go_wp2_with (first
                  | (go_at_call 14; refine Ks.mono ?_; clear Ks; rintro e wr ⟨rfl, rfl⟩)
                  | (go_at_call 20; refine Kk.mono ?_; clear Kk; rintro e wr ⟨rfl, rfl⟩)
                  | (go_at_call 18; refine Km.mono ?_; clear Km; rintro e wr ⟨rfl, rfl⟩))
                go_roundg (gk - 1)
                case measure => have := hJ.out; omega
                case rel =>
                  have hj := hJ.out
                  exact ⟨j + 1, _, by omega, by rw [hmk.out]; rfl, rfl, C⟩
              | false =>
                rw [hmd] at Km hmk
                rw [if_neg (fun e => by cases e.2)] at hmk
                clear hfj hqq hl2 ht2 hsame hst hfi hkj
                go_wp2_with (first
                  | (go_at_call 14; refine Ks.mono ?_; clear Ks; rintro e wr ⟨rfl, rfl⟩)
                  | (go_at_call 20; refine Kk.mono ?_; clear Kk; rintro e wr ⟨rfl, rfl⟩)
                  | (go_at_call 18; refine Km.mono ?_; clear Km; rintro e wr ⟨rfl, rfl⟩))
                go_roundg (gk - 1)
                case measure => have := hJ.out; omega
                case rel =>
                  have hj := hJ.out
                  exact ⟨j + 1, _, by omega, by rw [hmk.out]; rfl, rfl, C⟩
            · rw [if_neg (fun e => hsame e.1)] at hmk
              have hkk2 : ((Ss j).key == k) = false := by simpa using hsame
              cases hfj : (Ss j).found with
              | true =>
                obtain ⟨_, hl2, ht2⟩ := hfi.found hfj
                have hqq : ¬ (Ss j).slot = q := fun e => hsame (by rw [← ht2, e]; exact htA.out)
                rw [tells_found hfj] at Ks
                generalize (Ss j).slot = q2 at Ks hqq
                generalize (Ss j).key = k2 at Kk hkk2 hsame
                have hq3 : ¬ (q2 : Int) = (q : Int) := by omega
                have hq4 : ((q2 : Int) == (q : Int)) = false := by simpa using hq3
                clear hfj hl2 ht2 hst hfi hkj
                go_wp2_with (first
                  | (go_at_call 14; refine Ks.mono ?_; clear Ks; rintro e wr ⟨rfl, rfl⟩)
                  | (go_at_call 20; refine Kk.mono ?_; clear Kk; rintro e wr ⟨rfl, rfl⟩))
                go_roundg (gk - 1)
                case measure => have := hJ.out; omega
                case rel =>
                  have hj := hJ.out
                  exact ⟨j + 1, _, by omega, by rw [hmk.out]; rfl, rfl, C⟩
              | false =>
                rw [tells_full hfj hst hfi.key] at Ks
                generalize (Ss j).key = k2 at Kk hkk2 hsame
                clear hfj hst hfi hkj
                go_wp2_with (first
                  | (go_at_call 14; refine Ks.mono ?_; clear Ks; rintro e wr ⟨rfl, rfl⟩)
                  | (go_at_call 20; refine Kk.mono ?_; clear Kk; rintro e wr ⟨rfl, rfl⟩))
                go_roundg (gk - 1)
                case measure => have := hJ.out; omega
                case rel =>
                  have hj := hJ.out
                  exact ⟨j + 1, _, by omega, by rw [hmk.out]; rfl, rfl, C⟩
          · obtain rfl : j = m := by have := hJ.out; omega
            rw [hone.out]
            go_wp2_with fail
            go_roundg (go - 1)
            case measure => have := hI.out; omega
            case rel =>
              have hi := hI.out
              exact ⟨i + 1, _, by omega, rfl, C⟩
    · obtain rfl : i = m := by have := hI.out; omega
      go_wp2_with fail
      go_ret
      exact ⟨rfl, C.old⟩
end Go.Proofs.Ytnekhfpccmnaiaa
