/- Brackets within one another: the texts, and what is read of them, to be reckoned. -/
import Derived.Test.YtaohniiemhahdaaGreatDoorQb41
namespace Go.Proofs.YtaohniiemhahdaaGreatDoor
open Go.RowKit

def sA (i : Nat) : List UInt8 := (List.replicate i [123, 97]).flatten
def tA (q i : Nat) : List UInt8 := List.replicate (min i q) 91 ++ (List.replicate (i - q) [123, 120, 58]).flatten
def uA (i : Nat) : List UInt8 := List.replicate i 91 ++ ([73, 110, 116] ++ List.replicate i 93)
def sB (n j : Nat) : List UInt8 := sA n ++ List.replicate j 125
def tB (n k j : Nat) : List UInt8 := tA (n - k) n ++ (49 :: (List.replicate (min j k) 125 ++ List.replicate (j - k) 93))
def dB (n k : Nat) : List UInt8 := [123, 97, 40, 120, 58] ++ (tB n k n ++ [41, 125])
def isE {α : Type} (r : Except Int α) (x : Int) : Bool := match r with | .ok _ => x == 0 | .error y => x == y
/-- What is made of the tokens of a plain text. -/
def rA {α : Type} (R : List Tok → Except Int (α × List Tok)) (l : List UInt8) : Except Int α :=
  match readL l with
  | none => .error 2
  | some ts =>
    match R (tokB ts) with
    | .error x => .error x
    | .ok (a, r) => if r = [] then .ok a else .error 2
theorem whole_asc {α : Type} {R : List Tok → Except Int (α × List Tok)} {l : List UInt8} (h : l.all ascB = true) (hl : l.length ≤ 8192) : wholeA R l = rA R l := by
  unfold wholeA readS rA
  rw [if_neg (show ¬ 8192 < l.length by omega), source_ascii h]
  cases readL l with
  | none => rfl
  | some ts => cases h : R (tokB ts) <;> simp [h]
def wantC (m n : Nat) : Int := if m < n then 4 else 0
def okS (n : Nat) : Bool := isE (rA docRr (sB n n)) (wantC 16 n) && isE (rA (typeR 4) (uA n)) (wantC 4 n)
def okW (n k : Nat) : Bool := isE (rA (valD true 0) (tB n k n)) (wantC 16 n) && isE (rA docRr (dB n k)) (wantC 15 n)
def okN (a b : Nat) : Bool := (List.range (b - a)).all fun i => (List.range (a + i + 1)).all fun k => okW (a + i) k
theorem okN_at {a b n k : Nat} (h : okN a b = true) (h1 : a ≤ n) (h2 : n < b) (hk : k ≤ n) : okW n k = true := by
  unfold okN at h
  have h3 := List.all_eq_true.1 h (n - a) (List.mem_range.2 (by omega))
  have h4 := List.all_eq_true.1 h3 k (List.mem_range.2 (by omega))
  rwa [show a + (n - a) = n by omega] at h4
theorem asc_rep (n : Nat) (l : List UInt8) (h : l.all ascB = true) : (List.replicate n l).flatten.all ascB = true := by
  induction n with
  | zero => rfl
  | succ n ih => rw [List.replicate_succ, List.flatten_cons, List.all_append, h, ih]; rfl
theorem asc_one (n : Nat) (b : UInt8) (h : ascB b = true) : (List.replicate n b).all ascB = true := by
  induction n with
  | zero => rfl
  | succ n ih => rw [List.replicate_succ, List.all_cons, h, ih]; rfl
theorem asc_sB (n j : Nat) : (sB n j).all ascB = true := by rw [sB, List.all_append, sA, asc_rep _ _ (by decide), asc_one _ _ (by decide)]; rfl
theorem asc_uA (i : Nat) : (uA i).all ascB = true := by rw [uA, List.all_append, List.all_append, asc_one _ _ (by decide), asc_one _ _ (by decide)]; decide
theorem asc_tB (n k j : Nat) : (tB n k j).all ascB = true := by
  rw [tB, List.all_append, tA, List.all_append, asc_one _ _ (by decide), asc_rep _ _ (by decide), List.all_cons, List.all_append, asc_one _ _ (by decide), asc_one _ _ (by decide)]; decide
theorem asc_dB (n k : Nat) : (dB n k).all ascB = true := by rw [dB, List.all_append, List.all_append, asc_tB]; decide
theorem flat_len (n : Nat) (l : List UInt8) : (List.replicate n l).flatten.length = n * l.length := by
  induction n with
  | zero => simp
  | succ n ih => rw [List.replicate_succ, List.flatten_cons, List.length_append, ih, Nat.add_mul]; omega
theorem len_sB (n j : Nat) : (sB n j).length = 2 * n + j := by rw [sB, List.length_append, sA, flat_len, List.length_replicate]; simp; omega
theorem len_uA (i : Nat) : (uA i).length = 2 * i + 3 := by rw [uA]; simp; omega
theorem len_tB (n k j : Nat) : (tB n k j).length ≤ 4 * n + j + 1 := by rw [tB, List.length_append, tA, List.length_append, flat_len]; simp; omega
theorem len_dB (n k : Nat) : (dB n k).length ≤ 5 * n + 8 := by
  have := len_tB n k n
  rw [dB, List.length_append, List.length_append]; simp; omega
theorem sA_step (i : Nat) : sA (i + 1) = sA i ++ [123, 97] := by
  unfold sA
  rw [List.replicate_succ', List.flatten_append]; simp
theorem tA_low {q i : Nat} (h : i < q) : tA q (i + 1) = tA q i ++ [91] := by
  unfold tA
  rw [show min (i + 1) q = i + 1 by omega, show min i q = i by omega, show i + 1 - q = 0 by omega, show i - q = 0 by omega, List.replicate_succ']; simp
theorem tA_high {q i : Nat} (h : ¬ i < q) : tA q (i + 1) = tA q i ++ [123, 120, 58] := by
  unfold tA
  rw [show min (i + 1) q = q by omega, show min i q = q by omega, show i + 1 - q = (i - q) + 1 by omega, List.replicate_succ', List.flatten_append]; simp
theorem uA_step (i : Nat) : uA (i + 1) = [91] ++ uA i ++ [93] := by
  unfold uA
  rw [List.replicate_succ, List.replicate_succ' (n := i) (a := (93 : UInt8))]; simp
theorem sB_step (n j : Nat) : sB n (j + 1) = sB n j ++ [125] := by
  unfold sB
  rw [List.replicate_succ']; simp
theorem tB_low {n k j : Nat} (h : j < k) : tB n k (j + 1) = tB n k j ++ [125] := by
  unfold tB
  rw [show min (j + 1) k = j + 1 by omega, show min j k = j by omega, show j + 1 - k = 0 by omega, show j - k = 0 by omega, List.replicate_succ']; simp
theorem tB_high {n k j : Nat} (h : ¬ j < k) : tB n k (j + 1) = tB n k j ++ [93] := by
  unfold tB
  rw [show min (j + 1) k = k by omega, show min j k = k by omega, show j + 1 - k = (j - k) + 1 by omega, List.replicate_succ' (n := j - k)]; simp
theorem sB_zero (n : Nat) : sB n 0 = sA n := by unfold sB; simp
theorem tB_zero (n k : Nat) : tB n k 0 = tA (n - k) n ++ [49] := by unfold tB; simp
theorem sA_zero : sA 0 = [] := rfl
theorem tA_zero (q : Nat) : tA q 0 = [] := by unfold tA; simp
theorem uA_zero : uA 0 = [73, 110, 116] := rfl
theorem ok_s : (List.range 40).all (fun i => okS (i + 1)) = true := by decide +kernel
theorem okS_at {n : Nat} (h : n ≤ 40) (h0 : 1 ≤ n) : okS n = true := by
  have := List.all_eq_true.1 ok_s (n - 1) (List.mem_range.2 (by omega))
  rwa [show n - 1 + 1 = n by omega] at this
end Go.Proofs.YtaohniiemhahdaaGreatDoor
