/- Plain facts on tokens, of no program: what stands between them, numbers, words, marks, what quotes say, the tokens of a text. -/
import Derived.Test.YtcfdfgbobnocnaaGreatDoorCodes
import Derived.Test.YtcfdfgbobnocnaaGreatDoorBMath
namespace Go.Proofs.YtcfdfgbobnocnaaGreatDoor

def digU (b : UInt8) : Bool := digB (b.toNat : Int)
def letU (b : UInt8) : Bool := letB (b.toNat : Int)
def nameU (b : UInt8) : Bool := letU b || digU b
def isGap (b : UInt8) : Bool := b == 9 || b == 10 || b == 13 || b == 32 || b == 44
def noEol (b : UInt8) : Bool := !(b == 10 || b == 13)
def isMark (b : UInt8) : Bool := [33, 36, 38, 40, 41, 58, 61, 64, 91, 93, 123, 124, 125].contains b
/-- Does l begin with p? -/
def pre (p l : List UInt8) : Bool := p.isPrefixOf l

/-- How long is what stands at the head and belongs to no token? -/
def gapL : List UInt8 → Nat
  | [] => 0
  | b :: t => if isGap b then 1 else if b == 35 then 1 + (t.takeWhile noEol).length else if pre [239, 187, 191] (b :: t) then 3 else 0

def runL (l : List UInt8) : Nat := (l.takeWhile digU).length
def fracL : List UInt8 → Nat
  | [] => 0
  | b :: t => if b == 46 then (if runL t = 0 then 0 else 1 + runL t) else 0
def signL : List UInt8 → Nat
  | [] => 0
  | b :: _ => if b == 43 || b == 45 then 1 else 0
def expoL : List UInt8 → Nat
  | [] => 0
  | b :: t => if b == 101 || b == 69 then (if runL (t.drop (signL t)) = 0 then 0 else 1 + signL t + runL (t.drop (signL t))) else 0
def minusL : List UInt8 → Nat
  | [] => 0
  | b :: _ => if b == 45 then 1 else 0
def wholeL : List UInt8 → Nat
  | [] => 0
  | b :: t => if b == 48 then 1 else runL (b :: t)
/-- How long is the number at the head, and of which kind? -/
def numeralL (l : List UInt8) : Nat × Int :=
  if wholeL (l.drop (minusL l)) = 0 then (0, 0) else
    (minusL l + wholeL (l.drop (minusL l)) + fracL (l.drop (minusL l + wholeL (l.drop (minusL l)))) + expoL (l.drop (minusL l + wholeL (l.drop (minusL l)) + fracL (l.drop (minusL l + wholeL (l.drop (minusL l)))))),
     if fracL (l.drop (minusL l + wholeL (l.drop (minusL l)))) = 0 ∧ expoL (l.drop (minusL l + wholeL (l.drop (minusL l)) + fracL (l.drop (minusL l + wholeL (l.drop (minusL l)))))) = 0 then 3 else 4)
/-- What may not stand behind a number. -/
def behindB : List UInt8 → Bool
  | [] => false
  | b :: _ => digU b || letU b || b == 46
def numberL (l : List UInt8) : Nat × Int :=
  if (numeralL l).1 = 0 then (0, 0) else if behindB (l.drop (numeralL l).1) then (0, 0) else numeralL l
def kindL (l : List UInt8) : Int := if (numberL l).1 < l.length then 0 else (numberL l).2

def wordN : List UInt8 → Nat
  | [] => 0
  | b :: t => if letU b then 1 + (t.takeWhile nameU).length else 0
def markN : List UInt8 → Nat
  | [] => 0
  | b :: t => if pre [46, 46, 46] (b :: t) then 3 else if isMark b then 1 else 0

/-- A digit to the base 16; 16 or more: none. -/
def hexI (b : UInt8) : Int :=
  if 48 ≤ (b.toNat : Int) ∧ (b.toNat : Int) ≤ 57 then (b.toNat : Int) - 48 else if 97 ≤ (b.toNat : Int) ∧ (b.toNat : Int) ≤ 102 then (b.toNat : Int) - 87 else if 65 ≤ (b.toNat : Int) ∧ (b.toNat : Int) ≤ 70 then (b.toNat : Int) - 55 else 16
def hexB (b : UInt8) : Bool := decide (hexI b < 16)
def hexV (a b c d : UInt8) : Int := ((hexI a * 16 + hexI b) * 16 + hexI c) * 16 + hexI d
/-- The unit that is written at the head. -/
def unitAt : List UInt8 → Option Int
  | x :: y :: a :: b :: c :: d :: _ => if x == 92 && y == 117 && hexB a && hexB b && hexB c && hexB d then some (hexV a b c d) else none
  | _ => none
def hexRunF : Nat → List UInt8 → List Int
  | 0, _ => []
  | n + 1, l => match unitAt l with | some u => u :: hexRunF n (l.drop 6) | none => []
/-- The units that are written at the head, one directly behind the other. -/
def hexRun (l : List UInt8) : List Int := hexRunF l.length l
def escB (c : UInt8) : Option UInt8 :=
  if c == 34 then some 34 else if c == 92 then some 92 else if c == 47 then some 47 else if c == 98 then some 8 else if c == 102 then some 12 else if c == 110 then some 10 else if c == 114 then some 13 else if c == 116 then some 9 else none
/-- What an escape sequence at the head stands for (with all units that follow a unit), and its length. -/
def escL (l : List UInt8) : Option (List UInt8 × Nat) :=
  if hexRun l = [] then (match l with | _ :: c :: _ => (escB c).map fun x => ([x], 2) | _ => none)
  else (joinL (hexRun l)).map fun x => (x, 6 * (hexRun l).length)
def lineF : Nat → List UInt8 → Option (List UInt8 × Nat)
  | 0, _ => none
  | _ + 1, [] => none
  | n + 1, b :: t =>
    if b == 34 then some ([], 1) else if b == 10 || b == 13 then none else if b == 92 then
      (match escL (b :: t) with
      | none => none
      | some p => (lineF n ((b :: t).drop p.2)).map fun q => (p.1 ++ q.1, p.2 + q.2))
    else (lineF n t).map fun q => (b :: q.1, 1 + q.2)
/-- What a quote of one line says, behind its first sign, and its length. -/
def lineL (l : List UInt8) : Option (List UInt8 × Nat) := lineF (l.length + 1) l
def rawF : Nat → List UInt8 → Option (List UInt8 × Nat)
  | 0, _ => none
  | _ + 1, [] => none
  | n + 1, b :: t =>
    if pre [34, 34, 34] (b :: t) then some ([], 3) else if pre [92, 34, 34, 34] (b :: t) then (rawF n ((b :: t).drop 4)).map fun q => ([34, 34, 34] ++ q.1, 4 + q.2)
    else (rawF n t).map fun q => (b :: q.1, 1 + q.2)
/-- The raw contents of a block string, behind its first three signs, and their length with the last three. -/
def rawL (l : List UInt8) : Option (List UInt8 × Nat) := rawF (l.length + 1) l
def quoteL : List UInt8 → Option (List UInt8 × Nat)
  | [] => none
  | b :: t => if pre [34, 34, 34] (b :: t) then (rawL ((b :: t).drop 3)).map fun q => (Blk.valueL q.1, 3 + q.2) else if b == 34 then (lineL t).map fun q => (q.1, 1 + q.2) else none
/-- The token at the head, and its length. -/
def tokL (l : List UInt8) : Option ((Int × List UInt8) × Nat) :=
  if markN l ≠ 0 then some ((1, l.take (markN l)), markN l)
  else if wordN l ≠ 0 then some ((2, l.take (wordN l)), wordN l)
  else if (numberL l).1 ≠ 0 then some (((numberL l).2, l.take (numberL l).1), (numberL l).1)
  else (quoteL l).map fun q => ((5, q.1), q.2)
def readF : Nat → List UInt8 → Option (List (Int × List UInt8))
  | 0, _ => none
  | n + 1, l =>
    if gapL l ≠ 0 then readF n (l.drop (gapL l)) else if l = [] then some [] else
      match tokL l with
      | none => none
      | some p => (readF n (l.drop p.2)).map (p.1 :: ·)
/-- The tokens of a text. -/
def readL (l : List UInt8) : Option (List (Int × List UInt8)) := readF (l.length + 1) l

/- How long these are. -/
theorem takeWhile_le (p : UInt8 → Bool) (l : List UInt8) : (l.takeWhile p).length ≤ l.length := (List.takeWhile_sublist p).length_le
theorem pre_len {p l : List UInt8} (h : pre p l = true) : p.length ≤ l.length := by
  unfold pre at h
  rw [List.isPrefixOf_iff_prefix] at h
  exact h.length_le
theorem gapL_le (l : List UInt8) : gapL l ≤ l.length := by
  cases l with
  | nil => simp [gapL]
  | cons b t =>
    have := takeWhile_le noEol t
    simp only [gapL]
    split
    · simp
    · split
      · simp only [List.length_cons]; omega
      · split
        · rename_i h; have := pre_len h; simpa using this
        · simp
theorem runL_le (l : List UInt8) : runL l ≤ l.length := takeWhile_le _ _
theorem fracL_le (l : List UInt8) : fracL l ≤ l.length := by
  cases l with
  | nil => simp [fracL]
  | cons b t =>
    have := runL_le t
    simp only [fracL, List.length_cons]
    split
    · split <;> omega
    · omega
theorem signL_le (l : List UInt8) : signL l ≤ l.length := by
  cases l with
  | nil => simp [signL]
  | cons b t => simp only [signL, List.length_cons]; split <;> omega
theorem expoL_le (l : List UInt8) : expoL l ≤ l.length := by
  cases l with
  | nil => simp [expoL]
  | cons b t =>
    have := signL_le t
    have := runL_le (t.drop (signL t))
    simp only [expoL, List.length_cons, List.length_drop] at *
    split
    · split <;> omega
    · omega
theorem minusL_le (l : List UInt8) : minusL l ≤ l.length := by
  cases l with
  | nil => simp [minusL]
  | cons b t => simp only [minusL, List.length_cons]; split <;> omega
theorem wholeL_le (l : List UInt8) : wholeL l ≤ l.length := by
  cases l with
  | nil => simp [wholeL]
  | cons b t =>
    have := runL_le (b :: t)
    simp only [wholeL]
    split
    · simp
    · exact this
theorem numeralL_le (l : List UInt8) : (numeralL l).1 ≤ l.length := by
  unfold numeralL
  split
  · simp
  · have h1 := minusL_le l
    have h2 := wholeL_le (l.drop (minusL l))
    have h3 := fracL_le (l.drop (minusL l + wholeL (l.drop (minusL l))))
    have h4 := expoL_le (l.drop (minusL l + wholeL (l.drop (minusL l)) + fracL (l.drop (minusL l + wholeL (l.drop (minusL l))))))
    simp only [List.length_drop] at *
    omega
theorem numberL_le (l : List UInt8) : (numberL l).1 ≤ l.length := by
  have := numeralL_le l
  unfold numberL
  split
  · simp
  · split
    · simp
    · exact this
theorem wordN_le (l : List UInt8) : wordN l ≤ l.length := by
  cases l with
  | nil => simp [wordN]
  | cons b t =>
    have := takeWhile_le nameU t
    simp only [wordN, List.length_cons]
    split <;> omega
theorem markN_le (l : List UInt8) : markN l ≤ l.length := by
  cases l with
  | nil => simp [markN]
  | cons b t =>
    simp only [markN]
    split
    · rename_i h; have := pre_len h; simpa using this
    · simp only [List.length_cons]; split <;> omega
theorem unitAt_len {l : List UInt8} {u : Int} (h : unitAt l = some u) : 6 ≤ l.length := by
  unfold unitAt at h
  split at h
  · simp
  · cases h
theorem hexI_bd (b : UInt8) : 0 ≤ hexI b ∧ hexI b ≤ 16 := by
  unfold hexI
  split
  · omega
  · split
    · omega
    · split <;> omega
theorem hexB_bd {b : UInt8} (h : hexB b = true) : 0 ≤ hexI b ∧ hexI b ≤ 15 := by
  have := hexI_bd b
  unfold hexB at h
  simp at h
  omega
theorem unitAt_bd {l : List UInt8} {u : Int} (h : unitAt l = some u) : 0 ≤ u ∧ u ≤ 65535 := by
  unfold unitAt at h
  split at h
  · rename_i x y a b c d r
    split at h
    · rename_i hc
      simp only [Bool.and_eq_true] at hc
      obtain ⟨⟨⟨⟨_, ha⟩, hb⟩, hc⟩, hd⟩ := hc
      have := hexB_bd ha; have := hexB_bd hb; have := hexB_bd hc; have := hexB_bd hd
      injection h with h
      unfold hexV at h
      omega
    · cases h
  · cases h
theorem hexRunF_enough : ∀ (n m : Nat) (l : List UInt8), l.length ≤ n → l.length ≤ m → hexRunF n l = hexRunF m l := by
  intro n
  induction n with
  | zero =>
    intro m l h _
    have : l = [] := List.eq_nil_of_length_eq_zero (by omega)
    subst this
    cases m <;> rfl
  | succ n ih =>
    intro m l hn hm
    cases m with
    | zero =>
      have : l = [] := List.eq_nil_of_length_eq_zero (by omega)
      subst this
      rfl
    | succ m =>
      simp only [hexRunF]
      cases hu : unitAt l with
      | none => rfl
      | some u =>
        have := unitAt_len hu
        simp only
        rw [ih m _ (by simp only [List.length_drop]; omega) (by simp only [List.length_drop]; omega)]
theorem hexRun_none {l : List UInt8} (h : unitAt l = none) : hexRun l = [] := by
  unfold hexRun
  cases l with
  | nil => rfl
  | cons b t => simp only [List.length_cons, hexRunF, h]
theorem hexRun_some {l : List UInt8} {u : Int} (h : unitAt l = some u) : hexRun l = u :: hexRun (l.drop 6) := by
  have hl := unitAt_len h
  unfold hexRun
  obtain ⟨n, hn⟩ : ∃ n, l.length = n + 1 := ⟨l.length - 1, by omega⟩
  rw [hn]
  simp only [hexRunF, h]
  rw [hexRunF_enough n (l.drop 6).length _ (by simp only [List.length_drop]; omega) (Nat.le_refl _)]
theorem hexRun_len : ∀ (n : Nat) (l : List UInt8), l.length ≤ n → 6 * (hexRun l).length ≤ l.length := by
  intro n
  induction n with
  | zero =>
    intro l h
    have : l = [] := List.eq_nil_of_length_eq_zero (by omega)
    subst this
    simp [hexRun, hexRunF]
  | succ n ih =>
    intro l h
    cases hu : unitAt l with
    | none => rw [hexRun_none hu]; simp
    | some u =>
      have := unitAt_len hu
      have := ih (l.drop 6) (by simp only [List.length_drop]; omega)
      rw [hexRun_some hu]
      simp only [List.length_drop, List.length_cons] at *
      omega
theorem escL_le {l : List UInt8} {p : List UInt8 × Nat} (h : escL l = some p) : 2 ≤ p.2 ∧ p.2 ≤ l.length := by
  unfold escL at h
  have := hexRun_len l.length l (Nat.le_refl _)
  split at h
  · split at h
    · obtain ⟨x, _, rfl⟩ := Option.map_eq_some_iff.1 h
      simp
    · cases h
  · rename_i hn
    obtain ⟨x, _, rfl⟩ := Option.map_eq_some_iff.1 h
    have : (hexRun l).length ≠ 0 := fun e => hn (List.eq_nil_of_length_eq_zero e)
    simp only
    omega
theorem lineF_le : ∀ (n : Nat) (l : List UInt8) (p : List UInt8 × Nat), lineF n l = some p → 1 ≤ p.2 ∧ p.2 ≤ l.length := by
  intro n
  induction n with
  | zero => intro l p h; cases h
  | succ n ih =>
    intro l p h
    cases l with
    | nil => cases h
    | cons b t =>
      simp only [lineF] at h
      split at h
      · injection h with h; subst h; simp
      · split at h
        · cases h
        · split at h
          · split at h
            · cases h
            · rename_i e he
              obtain ⟨q, hq, rfl⟩ := Option.map_eq_some_iff.1 h
              have := ih _ _ hq
              have := escL_le he
              simp only [List.length_drop] at *
              omega
          · obtain ⟨q, hq, rfl⟩ := Option.map_eq_some_iff.1 h
            have := ih _ _ hq
            simp only [List.length_cons] at *
            omega
theorem lineF_enough : ∀ (n m : Nat) (l : List UInt8), l.length < n → l.length < m → lineF n l = lineF m l := by
  intro n
  induction n with
  | zero => intro m l h; omega
  | succ n ih =>
    intro m l hn hm
    cases m with
    | zero => omega
    | succ m =>
      cases l with
      | nil => rfl
      | cons b t =>
        simp only [List.length_cons] at hn hm
        simp only [lineF]
        rw [ih m t (by omega) (by omega)]
        cases he : escL (b :: t) with
        | none => rfl
        | some e =>
          have := escL_le he
          simp only
          rw [ih m _ (by simp only [List.length_drop, List.length_cons]; omega) (by simp only [List.length_drop, List.length_cons]; omega)]
theorem lineL_nil : lineL [] = none := rfl
theorem lineL_cons (b : UInt8) (t : List UInt8) : lineL (b :: t) =
    if b == 34 then some ([], 1) else if b == 10 || b == 13 then none else if b == 92 then
      (match escL (b :: t) with
      | none => none
      | some p => (lineL ((b :: t).drop p.2)).map fun q => (p.1 ++ q.1, p.2 + q.2))
    else (lineL t).map fun q => (b :: q.1, 1 + q.2) := by
  show lineF (t.length + 1 + 1) (b :: t) = _
  simp only [lineF]
  cases he : escL (b :: t) with
  | none => rfl
  | some e =>
    have := escL_le he
    simp only
    rw [lineF_enough (t.length + 1) (((b :: t).drop e.2).length + 1) ((b :: t).drop e.2) (by simp only [List.length_drop, List.length_cons]; omega) (by omega)]
    rfl
theorem rawF_le : ∀ (n : Nat) (l : List UInt8) (p : List UInt8 × Nat), rawF n l = some p → 3 ≤ p.2 ∧ p.2 ≤ l.length ∧ p.1.length + 3 ≤ p.2 := by
  intro n
  induction n with
  | zero => intro l p h; cases h
  | succ n ih =>
    intro l p h
    cases l with
    | nil => cases h
    | cons b t =>
      simp only [rawF] at h
      split at h
      · rename_i hp
        have := pre_len hp
        injection h with h; subst h; simpa using this
      · split at h
        · rename_i hp
          have := pre_len hp
          obtain ⟨q, hq, rfl⟩ := Option.map_eq_some_iff.1 h
          have := ih _ _ hq
          simp only [List.length_drop, List.length_cons, List.length_nil, List.length_append] at *
          omega
        · obtain ⟨q, hq, rfl⟩ := Option.map_eq_some_iff.1 h
          have := ih _ _ hq
          simp only [List.length_cons] at *
          omega
theorem rawF_enough : ∀ (n m : Nat) (l : List UInt8), l.length < n → l.length < m → rawF n l = rawF m l := by
  intro n
  induction n with
  | zero => intro m l h; omega
  | succ n ih =>
    intro m l hn hm
    cases m with
    | zero => omega
    | succ m =>
      cases l with
      | nil => rfl
      | cons b t =>
        simp only [List.length_cons] at hn hm
        simp only [rawF]
        rw [ih m t (by omega) (by omega), ih m ((b :: t).drop 4) (by simp only [List.length_drop, List.length_cons]; omega) (by simp only [List.length_drop, List.length_cons]; omega)]
theorem rawL_nil : rawL [] = none := rfl
theorem rawL_cons (b : UInt8) (t : List UInt8) : rawL (b :: t) =
    if pre [34, 34, 34] (b :: t) then some ([], 3) else if pre [92, 34, 34, 34] (b :: t) then (rawL ((b :: t).drop 4)).map fun q => ([34, 34, 34] ++ q.1, 4 + q.2)
    else (rawL t).map fun q => (b :: q.1, 1 + q.2) := by
  show rawF (t.length + 1 + 1) (b :: t) = _
  simp only [rawF]
  rw [rawF_enough (t.length + 1) (((b :: t).drop 4).length + 1) ((b :: t).drop 4) (by simp only [List.length_drop, List.length_cons]; omega) (by omega)]
  rfl
theorem quoteL_le {l : List UInt8} {p : List UInt8 × Nat} (h : quoteL l = some p) : 1 ≤ p.2 ∧ p.2 ≤ l.length := by
  cases l with
  | nil => cases h
  | cons b t =>
    simp only [quoteL] at h
    split at h
    · obtain ⟨q, hq, rfl⟩ := Option.map_eq_some_iff.1 h
      have := rawF_le _ _ _ hq
      simp only [List.length_drop, List.length_cons] at *
      omega
    · split at h
      · obtain ⟨q, hq, rfl⟩ := Option.map_eq_some_iff.1 h
        have := lineF_le _ _ _ hq
        simp only [List.length_cons] at *
        omega
      · cases h
theorem tokL_le {l : List UInt8} {p : (Int × List UInt8) × Nat} (h : tokL l = some p) : 1 ≤ p.2 ∧ p.2 ≤ l.length := by
  have h1 := markN_le l
  have h2 := wordN_le l
  have h3 := numberL_le l
  unfold tokL at h
  split at h
  · injection h with h; subst h; simp only; omega
  · split at h
    · injection h with h; subst h; simp only; omega
    · split at h
      · injection h with h; subst h; simp only; omega
      · obtain ⟨q, hq, rfl⟩ := Option.map_eq_some_iff.1 h
        exact quoteL_le hq
theorem readF_enough : ∀ (n m : Nat) (l : List UInt8), l.length < n → l.length < m → readF n l = readF m l := by
  intro n
  induction n with
  | zero => intro m l h; omega
  | succ n ih =>
    intro m l hn hm
    cases m with
    | zero => omega
    | succ m =>
      simp only [readF]
      split
      · rename_i hg
        have := gapL_le l
        rw [ih m _ (by simp only [List.length_drop]; omega) (by simp only [List.length_drop]; omega)]
      · split
        · rfl
        · cases ht : tokL l with
          | none => rfl
          | some p =>
            have := tokL_le ht
            simp only
            rw [ih m _ (by simp only [List.length_drop]; omega) (by simp only [List.length_drop]; omega)]
theorem readL_nil : readL [] = some [] := rfl
theorem readL_gap {l : List UInt8} (h : gapL l ≠ 0) : readL l = readL (l.drop (gapL l)) := by
  have := gapL_le l
  show readF (l.length + 1) l = _
  simp only [readF, if_pos h]
  exact readF_enough _ _ _ (by simp only [List.length_drop]; omega) (by omega)
theorem readL_tok {l : List UInt8} {p : (Int × List UInt8) × Nat} (h : gapL l = 0) (hn : l ≠ []) (ht : tokL l = some p) : readL l = (readL (l.drop p.2)).map (p.1 :: ·) := by
  have := tokL_le ht
  show readF (l.length + 1) l = _
  simp only [readF, h, ne_eq, not_true, if_false, if_neg hn, ht]
  rw [readF_enough l.length ((l.drop p.2).length + 1) _ (by simp only [List.length_drop]; omega) (by omega)]
  rfl
theorem readL_none {l : List UInt8} (h : gapL l = 0) (hn : l ≠ []) (ht : tokL l = none) : readL l = none := by
  show readF (l.length + 1) l = _
  simp only [readF, h, ne_eq, not_true, if_false, if_neg hn, ht]
end Go.Proofs.YtcfdfgbobnocnaaGreatDoor
