/- Plain facts on texts, of no program: the list of a text's code points, and what is asked of each of them. -/
import Derived.Test.YtcdcfhplkimecaaDoorDec
namespace Go.Proofs.YtcdcfhplkimecaaDoor

theorem decK_bd {k : Nat} {l : List UInt8} {p : Int × Int} (hk : k < 4) (h : decK k l = some p) : p.2 = (k : Int) + 1 ∧ k + 1 ≤ l.length ∧ 0 ≤ p.1 ∧ fair k p.1 := by
  unfold decK at h
  split at h
  · rename_i hc
    obtain ⟨h1, h2, h3, h4⟩ := hc
    injection h with h
    subst h
    have hls := leads_bd h2
    exact ⟨rfl, by omega, (acc_small hls.1 hls.2 (by omega) h3).1, h4⟩
  · cases h
/-- What stands at the head: no code point, or the one of some shape. -/
theorem dec_cases (l : List UInt8) : (noneTo l 4 ∧ dec l = (0, 0)) ∨ ∃ k, k < 4 ∧ noneTo l k ∧ decK k l = some (dec l) := by
  cases h0 : decK 0 l with
  | some p => exact .inr ⟨0, by omega, fun j hj => by omega, by rw [dec_some (k := 0) (by omega) (fun j hj => by omega) h0, h0]⟩
  | none =>
    have n1 : noneTo l 1 := fun j hj => by obtain rfl : j = 0 := by omega
                                           exact h0
    cases h1 : decK 1 l with
    | some p => exact .inr ⟨1, by omega, n1, by rw [dec_some (k := 1) (by omega) n1 h1, h1]⟩
    | none =>
      have n2 := noneTo_succ n1 h1
      cases h2 : decK 2 l with
      | some p => exact .inr ⟨2, by omega, n2, by rw [dec_some (k := 2) (by omega) n2 h2, h2]⟩
      | none =>
        have n3 := noneTo_succ n2 h2
        cases h3 : decK 3 l with
        | some p => exact .inr ⟨3, by omega, n3, by rw [dec_some (k := 3) (by omega) n3 h3, h3]⟩
        | none => exact .inl ⟨noneTo_succ n3 h3, dec_none (noneTo_succ n3 h3)⟩
theorem dec_bd (l : List UInt8) : 0 ≤ (dec l).2 ∧ (dec l).2 ≤ 4 ∧ (dec l).2 ≤ l.length ∧ 0 ≤ (dec l).1 ∧ (dec l).1 ≤ 1114111 ∧ halfB (dec l).1 = false := by
  rcases dec_cases l with ⟨_, h⟩ | ⟨k, hk, _, h⟩
  · rw [h]; simp [halfB]
  · obtain ⟨h1, h2, h3, h4⟩ := decK_bd hk h
    unfold fair at h4
    exact ⟨by omega, by omega, by omega, h3, h4.2.1, h4.2.2⟩

/-- The code points of a text; none, if something else stands in it. (n: at least as many as there are bytes.) -/
def codesF : Nat → List UInt8 → Option (List Int)
  | _, [] => some []
  | 0, _ :: _ => none
  | n + 1, b :: t => if (dec (b :: t)).2 = 0 then none else (codesF n ((b :: t).drop (dec (b :: t)).2.toNat)).map ((dec (b :: t)).1 :: ·)
def codes (l : List UInt8) : Option (List Int) := codesF l.length l
theorem codesF_enough : ∀ (n m : Nat) (l : List UInt8), l.length ≤ n → l.length ≤ m → codesF n l = codesF m l := by
  intro n
  induction n with
  | zero =>
    intro m l h _
    have : l = [] := List.eq_nil_of_length_eq_zero (by omega)
    subst this
    cases m <;> rfl
  | succ n ih =>
    intro m l hn hm
    cases l with
    | nil => cases m <;> rfl
    | cons b t =>
      cases m with
      | zero => simp at hm
      | succ m =>
        have hb := dec_bd (b :: t)
        simp only [codesF]
        split
        · rfl
        · rename_i h0
          rw [ih m _ (by simp only [List.length_drop, List.length_cons] at *; omega) (by simp only [List.length_drop, List.length_cons] at *; omega)]
theorem codes_nil : codes [] = some [] := rfl
theorem codes_bad {l : List UInt8} (h : l ≠ []) (h0 : (dec l).2 = 0) : codes l = none := by
  cases l with
  | nil => exact absurd rfl h
  | cons b t => simp only [codes, List.length_cons, codesF, if_pos h0]
theorem codes_step {l : List UInt8} (h : l ≠ []) (h0 : (dec l).2 ≠ 0) : codes l = (codes (l.drop (dec l).2.toNat)).map ((dec l).1 :: ·) := by
  cases l with
  | nil => exact absurd rfl h
  | cons b t =>
    have hb := dec_bd (b :: t)
    show codesF (t.length + 1) (b :: t) = _
    simp only [codesF, if_neg h0]
    rw [codesF_enough t.length ((b :: t).drop (dec (b :: t)).2.toNat).length _ (by simp only [List.length_drop, List.length_cons] at *; omega) (Nat.le_refl _)]
    rfl
/-- Are they all code points, and does each one fit? -/
def eachP (p : Int → Bool) (l : List UInt8) : Bool :=
  match codes l with
  | some cs => cs.all p
  | none => false
theorem eachP_nil (p : Int → Bool) : eachP p [] = true := rfl
theorem eachP_bad {p : Int → Bool} {l : List UInt8} (h : l ≠ []) (h0 : (dec l).2 = 0) : eachP p l = false := by simp [eachP, codes_bad h h0]
theorem eachP_step {p : Int → Bool} {l : List UInt8} (h : l ≠ []) (h0 : (dec l).2 ≠ 0) : eachP p l = (p (dec l).1 && eachP p (l.drop (dec l).2.toNat)) := by
  unfold eachP
  rw [codes_step h h0]
  cases codes (l.drop (dec l).2.toNat) with
  | none => simp
  | some cs => simp
def srcB (c : Int) : Bool := decide (c = 9 ∨ c = 10 ∨ c = 13 ∨ (32 ≤ c ∧ c < 65536))
def goodB (l : List UInt8) : Bool := eachP (fun _ => true) l
def sourceB (l : List UInt8) : Bool := eachP srcB l
theorem goodB_iff (l : List UInt8) : goodB l = (codes l).isSome := by
  unfold goodB eachP
  cases codes l <;> simp
end Go.Proofs.YtcdcfhplkimecaaDoor
