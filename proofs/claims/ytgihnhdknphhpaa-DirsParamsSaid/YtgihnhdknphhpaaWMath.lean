/- The texts of types, as plain lists of bytes: which type may be, how it is printed, how the landed reader and the document's own read it. -/
import Derived.Test.YtgihnhdknphhpaaMath
namespace Go.Proofs.Ytgihnhdknphhpaa

/-- May it be? -/
def rightT (n : List UInt8) (l m : Int) : Bool := nameB n && (decide (0 ≤ l) && (decide (l ≤ 4) && (decide (0 ≤ m) && decide (m < 2 ^ (l.toNat + 1)))))
/-- The mark behind what stands at place j. -/
def bang (j m : Nat) : List UInt8 := if m.testBit j then [33] else []
/-- What is printed of the places from j on, d lists deep. -/
def prD (n : List UInt8) (m : Nat) : Nat → Nat → List UInt8
  | 0, j => n ++ bang j m
  | d + 1, j => 91 :: (prD n m d (j + 1) ++ 93 :: bang j m)
/-- What stands behind the name. -/
def tailD (m : Nat) : Nat → Nat → List UInt8
  | 0, j => bang j m
  | d + 1, j => tailD m d (j + 1) ++ 93 :: bang j m
def printW (n : List UInt8) (l m : Nat) : List UInt8 := prD n m l 0

theorem prD_eq (n : List UInt8) (m : Nat) : ∀ d j, prD n m d j = List.replicate d 91 ++ (n ++ tailD m d j) := by
  intro d
  induction d with
  | zero => intro j; rfl
  | succ d ih => intro j; simp only [prD, tailD, ih (j + 1), List.replicate_succ]; simp
/-- What the places below k have yet to say, of a lists. -/
def sufD (a m : Nat) : Nat → List UInt8
  | 0 => []
  | k + 1 => (if k < a then [93] else []) ++ (bang k m ++ sufD a m k)
theorem suf_step (a m : Nat) : ∀ k, k ≤ a → tailD m (a - k) k ++ sufD a m k = tailD m a 0 := by
  intro k
  induction k with
  | zero => intro _; simp [sufD]
  | succ k ih =>
    intro h
    rw [← ih (by omega)]
    have e : a - k = (a - (k + 1)) + 1 := by omega
    rw [e, tailD, sufD, if_pos (by omega : k < a)]
    simp
theorem suf_all (a m : Nat) : sufD a m (a + 1) = tailD m a 0 := by
  rw [← suf_step a m a (Nat.le_refl a), sufD, if_neg (Nat.lt_irrefl a), Nat.sub_self]
  rfl
theorem suf_head (a m k : Nat) (h : k ≤ a) : (sufD a m k).head? ≠ some 33 := by
  cases k with
  | zero => simp [sufD]
  | succ k => rw [sufD, if_pos (by omega)]; simp

/-- The document's own reading of what stands behind the name: k places are left. -/
def parB (a : Nat) : Nat → Nat → List UInt8 → Option Nat
  | 0, m, l => if l.isEmpty then some m else none
  | k + 1, m, l =>
    if k < a ∧ l.head? ≠ some 93 then none
    else
      let r := if k < a then l.tail else l
      if r.head? = some 33 then parB a k (m ||| 2 ^ k) r.tail else parB a k m r
theorem bit_or (m k j : Nat) : (m ||| 2 ^ k).testBit j = (m.testBit j || decide (k = j)) := by
  rw [Nat.testBit_or, Nat.testBit_two_pow]
theorem dec_next (k j : Nat) : decide (k ≤ j) = (decide (k + 1 ≤ j) || decide (k = j)) := by
  by_cases h : k = j
  · simp [h]
  · by_cases h1 : k + 1 ≤ j
    · simp [h1, (by omega : k ≤ j)]
    · simp [h, h1]; omega
theorem parB_yes (a m : Nat) : ∀ k m0, k ≤ a + 1 → (∀ j, m0.testBit j = (decide (k ≤ j) && m.testBit j)) → parB a k m0 (sufD a m k) = some m := by
  intro k
  induction k with
  | zero =>
    intro m0 _ h
    have : m0 = m := Nat.eq_of_testBit_eq fun j => by simpa using h j
    simp [parB, sufD, this]
  | succ k ih =>
    intro m0 hk h
    have hs := suf_head a m k (by omega)
    have key : (if (bang k m ++ sufD a m k).head? = some 33 then parB a k (m0 ||| 2 ^ k) (bang k m ++ sufD a m k).tail else parB a k m0 (bang k m ++ sufD a m k)) = some m := by
      by_cases hb : m.testBit k = true
      · rw [bang, if_pos hb]
        refine ih (m0 ||| 2 ^ k) (by omega) (fun j => ?_)
        rw [bit_or, h j, dec_next k j]
        by_cases hj : k = j
        · subst hj; simp [hb]
        · simp [hj]
      · rw [bang, if_neg hb, List.nil_append, if_neg hs]
        refine ih m0 (by omega) (fun j => ?_)
        rw [h j, dec_next k j]
        by_cases hj : k = j
        · subst hj; simp [hb]
        · simp [hj]
    rw [sufD, parB]
    by_cases ha : k < a
    · simp only [ha, if_true, List.cons_append, List.nil_append, List.head?_cons, List.tail_cons, ne_eq, not_true_eq_false, and_false, if_false]
      exact key
    · simp only [ha, if_false, List.nil_append, false_and]
      exact key
theorem cons_of {l : List UInt8} {b : UInt8} (h : l.head? = some b) : l = b :: l.tail := by
  cases l with
  | nil => cases h
  | cons c t => simp at h; subst h; rfl
theorem parB_only (a : Nat) : ∀ k m0 l m, k ≤ a + 1 → (∀ j, j < k → m0.testBit j = false) → parB a k m0 l = some m → l = sufD a m k ∧ ∀ j, k ≤ j → m.testBit j = m0.testBit j := by
  intro k
  induction k with
  | zero =>
    intro m0 l m _ _ h
    rw [parB] at h
    cases l with
    | nil => simp at h; subst h; exact ⟨rfl, fun _ _ => rfl⟩
    | cons b t => simp at h
  | succ k ih =>
    intro m0 l m hk hz h
    have key : ∀ r, (if r.head? = some 33 then parB a k (m0 ||| 2 ^ k) r.tail else parB a k m0 r) = some m → r = bang k m ++ sufD a m k ∧ ∀ j, k + 1 ≤ j → m.testBit j = m0.testBit j := by
      intro r hr
      by_cases hh : r.head? = some 33
      · rw [if_pos hh] at hr
        obtain ⟨h1, h2⟩ := ih _ _ _ (by omega) (fun j hj => by rw [bit_or, hz j (by omega)]; simp; omega) hr
        have hb : m.testBit k = true := by rw [h2 k (Nat.le_refl k), bit_or]; simp
        refine ⟨?_, fun j hj => ?_⟩
        · rw [cons_of hh, h1, bang, if_pos hb]; rfl
        · rw [h2 j (by omega), bit_or, decide_eq_false (by omega : ¬ k = j), Bool.or_false]
      · rw [if_neg hh] at hr
        obtain ⟨h1, h2⟩ := ih _ _ _ (by omega) (fun j hj => hz j (by omega)) hr
        have hb : ¬ m.testBit k = true := by rw [h2 k (Nat.le_refl k), hz k (by omega)]; simp
        refine ⟨?_, fun j hj => h2 j (by omega)⟩
        rw [bang, if_neg hb]; exact h1
    rw [parB] at h
    rw [sufD]
    by_cases ha : k < a
    · by_cases hh : l.head? = some 93
      · simp only [ha, hh, if_true, ne_eq, not_true_eq_false, and_false, if_false] at h
        obtain ⟨e, hj⟩ := key _ h
        refine ⟨?_, hj⟩
        rw [if_pos ha, ← e]; exact cons_of hh
      · simp [ha, hh] at h
    · simp only [ha, if_false, false_and] at h
      obtain ⟨e, hj⟩ := key _ h
      refine ⟨?_, hj⟩
      rw [if_neg ha]; exact e
end Go.Proofs.Ytgihnhdknphhpaa
