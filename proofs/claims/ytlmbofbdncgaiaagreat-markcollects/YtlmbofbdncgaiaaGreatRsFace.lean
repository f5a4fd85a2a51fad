/-
  The face of package refs: what each call does to an object that holds counts and stacks; the statements' own check of it.
-/
import Derived.Test.YtlmbofbdncgaiaaGreatRsTell
namespace Go.Proofs.YtlmbofbdncgaiaaGreat.Rs
open Go Go.RowKit

/-- Lists in rising order of the same handles are one. -/
theorem rising_eq : ∀ {a b : List Int}, a.Pairwise (· < ·) → b.Pairwise (· < ·) → Same a b → a = b
  | [], [], _, _, _ => rfl
  | [], y :: b, _, _, h => by have := (h y).2 (by simp); cases this
  | x :: a, [], _, _, h => by have := (h x).1 (by simp); cases this
  | x :: a, y :: b, ha, hb, h => by
    rw [List.pairwise_cons] at ha hb
    have hxy : x = y := by
      rcases List.mem_cons.1 ((h x).1 (by simp)) with e | e
      · exact e
      · rcases List.mem_cons.1 ((h y).2 (by simp)) with e2 | e2
        · exact e2.symm
        · have := hb.1 x e
          have := ha.1 y e2
          omega
    subst hxy
    rw [rising_eq ha.2 hb.2 fun z => ?_]
    constructor
    · intro hz
      rcases List.mem_cons.1 ((h z).1 (List.mem_cons_of_mem _ hz)) with e | e
      · have := ha.1 z hz; omega
      · exact e
    · intro hz
      rcases List.mem_cons.1 ((h z).2 (List.mem_cons_of_mem _ hz)) with e | e
      · have := hb.1 z hz; omega
      · exact e
section
variable {w : World} {R n m : Nat} {F : Nat → Prop} {T : Nat → List Int} {P : Int → Option Int}
theorem Has.depth (h : Has w R F P m n T) (k : Int) (v : Nat) (hv : deep n T k = v) : Calls Tryz.prog 55 #[.pointer (some ⟨R, 0, none⟩), .int .i64 k] w fun e w' => e = .returned (.int .i64 (v : Int)) ∧ w' = w := by
  obtain ⟨mb, S, A, C, rfl, h⟩ := h
  subst hv
  exact depth_any h k
theorem Has.protect (h : Has w R F P m n T) (k c : Int) (hc : (P k).getD 0 = c) (h0 : 0 ≤ c) (h1 : c < 4611686018427387904) :
    Calls Tryz.prog 12 #[.pointer (some ⟨R, 0, none⟩), .int .u32 k] w fun e w' => e = .returned (.tuple #[]) ∧ ∃ F', Has w' R F' (at1 P k (some (c + 1))) (m + 1) n T ∧ Moved F F' w w' := by
  obtain ⟨mb, S, A, C, rfl, h⟩ := h
  refine (protect_any h k c hc h0 h1).mono ?_
  rintro e w' ⟨rfl, mb', h', mv⟩
  exact ⟨rfl, _, ⟨mb', S, A, C, rfl, h'⟩, mv⟩
theorem Has.push (h : Has w R F P m n T) (i : Nat) (hi : i < n) (x : Int) (hlen : (T i).length + 1 ≤ 1000000) :
    Calls Tryz.prog 27 #[.pointer (some ⟨R, 0, none⟩), .int .i64 (i : Int), .int .u32 x] w fun e w' => e = .returned (.bool true) ∧ ∃ F', Has w' R F' P m n (up T i (T i ++ [x])) ∧ Moved F F' w w' := by
  obtain ⟨mb, S, A, C, rfl, h⟩ := h
  refine (push_any h i hi x hlen).mono ?_
  rintro e w' ⟨rfl, A', C', h', mv⟩
  exact ⟨rfl, _, ⟨mb, S, A', C', rfl, h'⟩, mv⟩
theorem Has.push0 (h : Has w R F P m n T) (k : Int) (hk : isIn n k = false) (x : Int) :
    Calls Tryz.prog 27 #[.pointer (some ⟨R, 0, none⟩), .int .i64 k, .int .u32 x] w fun e w' => e = .returned (.bool false) ∧ w' = w := by
  obtain ⟨mb, S, A, C, rfl, h⟩ := h
  exact push_no h k hk x
theorem Has.pop0 (h : Has w R F P m n T) (k : Int) (hk : deep n T k = 0) :
    Calls Tryz.prog 28 #[.pointer (some ⟨R, 0, none⟩), .int .i64 k] w fun e w' => e = .returned (.tuple #[.int .u32 0, .bool false]) ∧ w' = w := by
  obtain ⟨mb, S, A, C, rfl, h⟩ := h
  exact pop_no h k hk
theorem Has.pop (h : Has w R F P m n T) (i : Nat) (hi : i < n) (xs : List Int) (x : Int) (hT : T i = xs ++ [x]) (hlen : (T i).length ≤ 1000000) :
    Calls Tryz.prog 28 #[.pointer (some ⟨R, 0, none⟩), .int .i64 (i : Int)] w fun e w' => e = .returned (.tuple #[.int .u32 x, .bool true]) ∧ Has w' R F P m n (up T i xs) ∧ Moved F F w w' := by
  obtain ⟨mb, S, A, C, rfl, h⟩ := h
  refine (pop_any h i hi xs x hT hlen).mono ?_
  rintro e w' ⟨rfl, h', mv⟩
  exact ⟨rfl, ⟨mb, S, A, C, rfl, h'⟩, mv⟩
theorem Has.roots (h : Has w R F P m n T) (hm : m + (cat T n).length ≤ 60000) :
    Calls Tryz.prog 41 #[.pointer (some ⟨R, 0, none⟩)] w fun e w' => ∃ ad cap l, e = .returned (.slice ad l.length cap) ∧ IsRoots P n T l ∧ l.length ≤ 60000 ∧ OwnH w' ad cap l ∧ (∀ k, At ad k → w.heap.size ≤ k) ∧ Below w.heap.size w w' := by
  obtain ⟨mb, S, A, C, rfl, h⟩ := h
  exact roots_any h hm
end
theorem IsRoots.eq {P : Int → Option Int} {n : Nat} {T : Nat → List Int} {l l' : List Int} (h : IsRoots P n T l) (h1 : l'.Pairwise (· < ·)) (h2 : ∀ x, x ∈ l' ↔ cst x = false ∧ ((P x).isSome = true ∨ ∃ k, k < n ∧ x ∈ T k)) : l = l' :=
  rising_eq h.up h1 fun x => (h.mem x).trans (h2 x).symm

/-- All that it has is new to a world of that size. -/
theorem Moved.old {F F' : Nat → Prop} {w w' : World} {B : Nat} (h : Moved F F' w w') (hF : ∀ b, F b → B ≤ b) (hB : B ≤ w.heap.size) : Below B w w' ∧ ∀ b, F' b → B ≤ b :=
  ⟨h.went.below hB hF, fun b hb => (h.new b hb).elim (fun e => hF b e) (fun e => Nat.le_trans hB e)⟩

/-- What is there behind the check's calls. -/
def kP : Int → Option Int := at1 (at1 (at1 (fun _ => none) 5 (some 1)) 5 (some 2)) 1 (some 1)
def kT : Nat → List Int := up (fun _ => []) 1 [7]
theorem known_roots : ∀ x : Int, x ∈ ([5, 7] : List Int) ↔ cst x = false ∧ ((kP x).isSome = true ∨ ∃ k, k < 2 ∧ x ∈ kT k) := by
  intro x
  constructor
  · intro h
    simp only [List.mem_cons, List.not_mem_nil, or_false] at h
    rcases h with rfl | rfl
    · exact ⟨rfl, .inl rfl⟩
    · exact ⟨rfl, .inr ⟨1, by omega, by simp [kT, up]⟩⟩
  · rintro ⟨h0, h | ⟨k, hk, h⟩⟩
    · unfold kP at1 at h
      by_cases e1 : x = 1
      · subst e1; cases h0
      · by_cases e5 : x = 5
        · simp [e5]
        · simp [e1, e5] at h
    · unfold kT up at h
      split at h
      · simp only [List.mem_singleton] at h
        simp [h]
      · cases h
end Go.Proofs.YtlmbofbdncgaiaaGreat.Rs
