/- Plain facts on tokens, of no program: what stands between them, numbers, words, marks, what quotes say, the tokens of a text. -/
import Derived.Test.YtpkmbhnikilihaaGreatDoorQp0
import Derived.Shelf.Strings.Prefix
import Derived.Shelf.Small.Wraps
import Derived.Shelf.Small.Strs
import Derived.Shelf.Strings.Runes
import Derived.Shelf.Strings.IndexAnyAll
import Derived.Shelf.Strconv.ToError
namespace Go.Proofs.YtpkmbhnikilihaaGreatDoor
def digU (b : UInt8) : Bool := digB (b.toNat : Int)
def letU (b : UInt8) : Bool := letB (b.toNat : Int)
def nameU (b : UInt8) : Bool := letU b || digU b
def isGap (b : UInt8) : Bool := b == 9 || b == 10 || b == 13 || b == 32 || b == 44
def noEol (b : UInt8) : Bool := !(b == 10 || b == 13)
def isMark (b : UInt8) : Bool := [33, 36, 38, 40, 41, 58, 61, 64, 91, 93, 123, 124, 125].contains b
def pre (p l : List UInt8) : Bool := p.isPrefixOf l
def gapL : List UInt8 → Nat
 | [] => 0
 | b :: t => if isGap b then 1 else if b == 35 then 1 + (t.takeWhile noEol).length else if pre [239, 187, 191] (b :: t) then 3 else 0
def runL (l : List UInt8) : Nat := (l.takeWhile digU).length
def fracL : List UInt8 → Nat
 | [] => 0
 | b :: t => if b == 46 then (if runL t = 0 then 0 else 1 + runL t) else 0
def signL : List UInt8 → Nat
 | [] => 0
 | b :: _ => if b == 43 || b == 45 then 1 else 0
def expoL : List UInt8 → Nat
 | [] => 0
 | b :: t => if b == 101 || b == 69 then (if runL (t.drop (signL t)) = 0 then 0 else 1 + signL t + runL (t.drop (signL t))) else 0
def minusL : List UInt8 → Nat
 | [] => 0
 | b :: _ => if b == 45 then 1 else 0
def wholeL : List UInt8 → Nat
 | [] => 0
 | b :: t => if b == 48 then 1 else runL (b :: t)
def nmL (l : List UInt8) : Nat × Int :=
 if wholeL (l.drop (minusL l)) = 0 then (0, 0) else
  (minusL l + wholeL (l.drop (minusL l)) + fracL (l.drop (minusL l + wholeL (l.drop (minusL l)))) + expoL (l.drop (minusL l + wholeL (l.drop (minusL l)) + fracL (l.drop (minusL l + wholeL (l.drop (minusL l)))))),
   if fracL (l.drop (minusL l + wholeL (l.drop (minusL l)))) = 0 ∧ expoL (l.drop (minusL l + wholeL (l.drop (minusL l)) + fracL (l.drop (minusL l + wholeL (l.drop (minusL l)))))) = 0 then 3 else 4)
def behindB : List UInt8 → Bool
 | [] => false
 | b :: _ => digU b || letU b || b == 46
def nbL (l : List UInt8) : Nat × Int :=
 if (nmL l).1 = 0 then (0, 0) else if behindB (l.drop (nmL l).1) then (0, 0) else nmL l
def kindL (l : List UInt8) : Int := if (nbL l).1 < l.length then 0 else (nbL l).2
def wordN : List UInt8 → Nat
 | [] => 0
 | b :: t => if letU b then 1 + (t.takeWhile nameU).length else 0
def markN : List UInt8 → Nat
 | [] => 0
 | b :: t => if pre [46, 46, 46] (b :: t) then 3 else if isMark b then 1 else 0
def hexI (b : UInt8) : Int :=
 if 48 ≤ (b.toNat : Int) ∧ (b.toNat : Int) ≤ 57 then (b.toNat : Int) - 48 else if 97 ≤ (b.toNat : Int) ∧ (b.toNat : Int) ≤ 102 then (b.toNat : Int) - 87 else if 65 ≤ (b.toNat : Int) ∧ (b.toNat : Int) ≤ 70 then (b.toNat : Int) - 55 else 16
def hexB (b : UInt8) : Bool := decide (hexI b < 16)
def hexV (a b c d : UInt8) : Int := ((hexI a * 16 + hexI b) * 16 + hexI c) * 16 + hexI d
def unitAt : List UInt8 → Option Int
 | x :: y :: a :: b :: c :: d :: _ => if x == 92 && y == 117 && hexB a && hexB b && hexB c && hexB d then some (hexV a b c d) else none
 | _ => none
def hexRunF : Nat → List UInt8 → List Int
 | 0, _ => []
 | n + 1, l => match unitAt l with | some u => u :: hexRunF n (l.drop 6) | none => []
def hexRun (l : List UInt8) : List Int := hexRunF l.length l
def escB (c : UInt8) : Option UInt8 :=
 if c == 34 then some 34 else if c == 92 then some 92 else if c == 47 then some 47 else if c == 98 then some 8 else if c == 102 then some 12 else if c == 110 then some 10 else if c == 114 then some 13 else if c == 116 then some 9 else none
def escL (l : List UInt8) : Option (List UInt8 × Nat) :=
 if hexRun l = [] then (match l with | _ :: c :: _ => (escB c).map fun x => ([x], 2) | _ => none)
 else (joinL (hexRun l)).map fun x => (x, 6 * (hexRun l).length)
def lineF : Nat → List UInt8 → Option (List UInt8 × Nat)
 | 0, _ => none
 | _ + 1, [] => none
 | n + 1, b :: t =>
   if b == 34 then some ([], 1) else if b == 10 || b == 13 then none else if b == 92 then
    (match escL (b :: t) with
    | none => none
    | some p => (lineF n ((b :: t).drop p.2)).map fun q => (p.1 ++ q.1, p.2 + q.2))
   else (lineF n t).map fun q => (b :: q.1, 1 + q.2)
def lineL (l : List UInt8) : Option (List UInt8 × Nat) := lineF (l.length + 1) l
def rawF : Nat → List UInt8 → Option (List UInt8 × Nat)
 | 0, _ => none
 | _ + 1, [] => none
 | n + 1, b :: t =>
   if pre [34, 34, 34] (b :: t) then some ([], 3) else if pre [92, 34, 34, 34] (b :: t) then (rawF n ((b :: t).drop 4)).map fun q => ([34, 34, 34] ++ q.1, 4 + q.2)
   else (rawF n t).map fun q => (b :: q.1, 1 + q.2)
def rawL (l : List UInt8) : Option (List UInt8 × Nat) := rawF (l.length + 1) l
def quoteL : List UInt8 → Option (List UInt8 × Nat)
 | [] => none
 | b :: t => if pre [34, 34, 34] (b :: t) then (rawL ((b :: t).drop 3)).map fun q => (Blk.valueL q.1, 3 + q.2) else if b == 34 then (lineL t).map fun q => (q.1, 1 + q.2) else none
def tokL (l : List UInt8) : Option ((Int × List UInt8) × Nat) :=
 if markN l ≠ 0 then some ((1, l.take (markN l)), markN l)
 else if wordN l ≠ 0 then some ((2, l.take (wordN l)), wordN l)
 else if (nbL l).1 ≠ 0 then some (((nbL l).2, l.take (nbL l).1), (nbL l).1)
 else (quoteL l).map fun q => ((5, q.1), q.2)
def readF : Nat → List UInt8 → Option (List (Int × List UInt8))
 | 0, _ => none
 | n + 1, l =>
   if gapL l ≠ 0 then readF n (l.drop (gapL l)) else if l = [] then some [] else
    match tokL l with
    | none => none
    | some p => (readF n (l.drop p.2)).map (p.1 :: ·)
def readL (l : List UInt8) : Option (List (Int × List UInt8)) := readF (l.length + 1) l
theorem takeWhile_le (p : UInt8 → Bool) (l : List UInt8) : (l.takeWhile p).length ≤ l.length := (List.takeWhile_sublist p).length_le
theorem pre_len {p l : List UInt8} (h : pre p l = true) : p.length ≤ l.length := by
 unfold pre at h
 rw [List.isPrefixOf_iff_prefix] at h
 exact h.length_le
theorem gapL_le (l : List UInt8) : gapL l ≤ l.length := by
 cases l with
 | nil => simp [gapL]
 | cons b t =>
   have := takeWhile_le noEol t
   simp only [gapL]
   split
   · simp
   · split
     · simp only [List.length_cons]; omega
     · split
       · rename_i h; have := pre_len h; simpa using this
       · simp
theorem runL_le (l : List UInt8) : runL l ≤ l.length := takeWhile_le _ _
theorem fracL_le (l : List UInt8) : fracL l ≤ l.length := by
 cases l with
 | nil => simp [fracL]
 | cons b t =>
   have := runL_le t
   simp only [fracL, List.length_cons]
   split
   · split <;> omega
   · omega
theorem signL_le (l : List UInt8) : signL l ≤ l.length := by
 cases l with
 | nil => simp [signL]
 | cons b t => simp only [signL, List.length_cons]; split <;> omega
theorem expoL_le (l : List UInt8) : expoL l ≤ l.length := by
 cases l with
 | nil => simp [expoL]
 | cons b t =>
   have := signL_le t
   have := runL_le (t.drop (signL t))
   simp only [expoL, List.length_cons, List.length_drop] at *
   split
   · split <;> omega
   · omega
theorem minusL_le (l : List UInt8) : minusL l ≤ l.length := by
 cases l with
 | nil => simp [minusL]
 | cons b t => simp only [minusL, List.length_cons]; split <;> omega
theorem wholeL_le (l : List UInt8) : wholeL l ≤ l.length := by
 cases l with
 | nil => simp [wholeL]
 | cons b t =>
   have := runL_le (b :: t)
   simp only [wholeL]
   split
   · simp
   · exact this
theorem numeralL_le (l : List UInt8) : (nmL l).1 ≤ l.length := by
 unfold nmL
 split
 · simp
 · have h1 := minusL_le l
   have h2 := wholeL_le (l.drop (minusL l))
   have h3 := fracL_le (l.drop (minusL l + wholeL (l.drop (minusL l))))
   have h4 := expoL_le (l.drop (minusL l + wholeL (l.drop (minusL l)) + fracL (l.drop (minusL l + wholeL (l.drop (minusL l))))))
   simp only [List.length_drop] at *
   omega
theorem numberL_le (l : List UInt8) : (nbL l).1 ≤ l.length := by
 have := numeralL_le l
 unfold nbL
 split
 · simp
 · split
   · simp
   · exact this
theorem wordN_le (l : List UInt8) : wordN l ≤ l.length := by
 cases l with
 | nil => simp [wordN]
 | cons b t =>
   have := takeWhile_le nameU t
   simp only [wordN, List.length_cons]
   split <;> omega
theorem markN_le (l : List UInt8) : markN l ≤ l.length := by
 cases l with
 | nil => simp [markN]
 | cons b t =>
   simp only [markN]
   split
   · rename_i h; have := pre_len h; simpa using this
   · simp only [List.length_cons]; split <;> omega
theorem unitAt_len {l : List UInt8} {u : Int} (h : unitAt l = some u) : 6 ≤ l.length := by
 unfold unitAt at h
 split at h
 · simp
 · cases h
theorem hexI_bd (b : UInt8) : 0 ≤ hexI b ∧ hexI b ≤ 16 := by
 unfold hexI
 split
 · omega
 · split
   · omega
   · split <;> omega
theorem hexB_bd {b : UInt8} (h : hexB b = true) : 0 ≤ hexI b ∧ hexI b ≤ 15 := by
 have := hexI_bd b
 unfold hexB at h
 simp at h
 omega
theorem unitAt_bd {l : List UInt8} {u : Int} (h : unitAt l = some u) : 0 ≤ u ∧ u ≤ 65535 := by
 unfold unitAt at h
 split at h
 · rename_i x y a b c d r
   split at h
   · rename_i hc
     simp only [Bool.and_eq_true] at hc
     obtain ⟨⟨⟨⟨_, ha⟩, hb⟩, hc⟩, hd⟩ := hc
     have := hexB_bd ha; have := hexB_bd hb; have := hexB_bd hc; have := hexB_bd hd
     injection h with h
     unfold hexV at h
     omega
   · cases h
 · cases h
theorem hexRunF_enough : ∀ (n m : Nat) (l : List UInt8), l.length ≤ n → l.length ≤ m → hexRunF n l = hexRunF m l := by
 intro n
 induction n with
 | zero =>
   intro m l h _
   have : l = [] := List.eq_nil_of_length_eq_zero (by omega)
   subst this
   cases m <;> rfl
 | succ n ih =>
   intro m l hn hm
   cases m with
   | zero =>
     have : l = [] := List.eq_nil_of_length_eq_zero (by omega)
     subst this
     rfl
   | succ m =>
     simp only [hexRunF]
     cases hu : unitAt l with
     | none => rfl
     | some u =>
       have := unitAt_len hu
       simp only
       rw [ih m _ (by simp only [List.length_drop]; omega) (by simp only [List.length_drop]; omega)]
theorem hexRun_none {l : List UInt8} (h : unitAt l = none) : hexRun l = [] := by
 unfold hexRun
 cases l with
 | nil => rfl
 | cons b t => simp only [List.length_cons, hexRunF, h]
theorem hexRun_some {l : List UInt8} {u : Int} (h : unitAt l = some u) : hexRun l = u :: hexRun (l.drop 6) := by
 have hl := unitAt_len h
 unfold hexRun
 obtain ⟨n, hn⟩ : ∃ n, l.length = n + 1 := ⟨l.length - 1, by omega⟩
 rw [hn]
 simp only [hexRunF, h]
 rw [hexRunF_enough n (l.drop 6).length _ (by simp only [List.length_drop]; omega) (Nat.le_refl _)]
theorem hexRun_len : ∀ (n : Nat) (l : List UInt8), l.length ≤ n → 6 * (hexRun l).length ≤ l.length := by
 intro n
 induction n with
 | zero =>
   intro l h
   have : l = [] := List.eq_nil_of_length_eq_zero (by omega)
   subst this
   simp [hexRun, hexRunF]
 | succ n ih =>
   intro l h
   cases hu : unitAt l with
   | none => rw [hexRun_none hu]; simp
   | some u =>
     have := unitAt_len hu
     have := ih (l.drop 6) (by simp only [List.length_drop]; omega)
     rw [hexRun_some hu]
     simp only [List.length_drop, List.length_cons] at *
     omega
theorem escL_le {l : List UInt8} {p : List UInt8 × Nat} (h : escL l = some p) : 2 ≤ p.2 ∧ p.2 ≤ l.length := by
 unfold escL at h
 have := hexRun_len l.length l (Nat.le_refl _)
 split at h
 · split at h
   · obtain ⟨x, _, rfl⟩ := Option.map_eq_some_iff.1 h
     simp
   · cases h
 · rename_i hn
   obtain ⟨x, _, rfl⟩ := Option.map_eq_some_iff.1 h
   have : (hexRun l).length ≠ 0 := fun e => hn (List.eq_nil_of_length_eq_zero e)
   simp only
   omega
theorem lineF_le : ∀ (n : Nat) (l : List UInt8) (p : List UInt8 × Nat), lineF n l = some p → 1 ≤ p.2 ∧ p.2 ≤ l.length := by
 intro n
 induction n with
 | zero => intro l p h; cases h
 | succ n ih =>
   intro l p h
   cases l with
   | nil => cases h
   | cons b t =>
     simp only [lineF] at h
     split at h
     · injection h with h; subst h; simp
     · split at h
       · cases h
       · split at h
         · split at h
           · cases h
           · rename_i e he
             obtain ⟨q, hq, rfl⟩ := Option.map_eq_some_iff.1 h
             have := ih _ _ hq
             have := escL_le he
             simp only [List.length_drop] at *
             omega
         · obtain ⟨q, hq, rfl⟩ := Option.map_eq_some_iff.1 h
           have := ih _ _ hq
           simp only [List.length_cons] at *
           omega
theorem lineF_enough : ∀ (n m : Nat) (l : List UInt8), l.length < n → l.length < m → lineF n l = lineF m l := by
 intro n
 induction n with
 | zero => intro m l h; omega
 | succ n ih =>
   intro m l hn hm
   cases m with
   | zero => omega
   | succ m =>
     cases l with
     | nil => rfl
     | cons b t =>
       simp only [List.length_cons] at hn hm
       simp only [lineF]
       rw [ih m t (by omega) (by omega)]
       cases he : escL (b :: t) with
       | none => rfl
       | some e =>
         have := escL_le he
         simp only
         rw [ih m _ (by simp only [List.length_drop, List.length_cons]; omega) (by simp only [List.length_drop, List.length_cons]; omega)]
theorem lineL_cons (b : UInt8) (t : List UInt8) : lineL (b :: t) =
   if b == 34 then some ([], 1) else if b == 10 || b == 13 then none else if b == 92 then
    (match escL (b :: t) with
    | none => none
    | some p => (lineL ((b :: t).drop p.2)).map fun q => (p.1 ++ q.1, p.2 + q.2))
   else (lineL t).map fun q => (b :: q.1, 1 + q.2) := by
 show lineF (t.length + 1 + 1) (b :: t) = _
 simp only [lineF]
 cases he : escL (b :: t) with
 | none => rfl
 | some e =>
   have := escL_le he
   simp only
   rw [lineF_enough (t.length + 1) (((b :: t).drop e.2).length + 1) ((b :: t).drop e.2) (by simp only [List.length_drop, List.length_cons]; omega) (by omega)]
   rfl
theorem rawF_le : ∀ (n : Nat) (l : List UInt8) (p : List UInt8 × Nat), rawF n l = some p → 3 ≤ p.2 ∧ p.2 ≤ l.length ∧ p.1.length + 3 ≤ p.2 := by
 intro n
 induction n with
 | zero => intro l p h; cases h
 | succ n ih =>
   intro l p h
   cases l with
   | nil => cases h
   | cons b t =>
     simp only [rawF] at h
     split at h
     · rename_i hp
       have := pre_len hp
       injection h with h; subst h; simpa using this
     · split at h
       · rename_i hp
         have := pre_len hp
         obtain ⟨q, hq, rfl⟩ := Option.map_eq_some_iff.1 h
         have := ih _ _ hq
         simp only [List.length_drop, List.length_cons, List.length_nil, List.length_append] at *
         omega
       · obtain ⟨q, hq, rfl⟩ := Option.map_eq_some_iff.1 h
         have := ih _ _ hq
         simp only [List.length_cons] at *
         omega
theorem rawF_enough : ∀ (n m : Nat) (l : List UInt8), l.length < n → l.length < m → rawF n l = rawF m l := by
 intro n
 induction n with
 | zero => intro m l h; omega
 | succ n ih =>
   intro m l hn hm
   cases m with
   | zero => omega
   | succ m =>
     cases l with
     | nil => rfl
     | cons b t =>
       simp only [List.length_cons] at hn hm
       simp only [rawF]
       rw [ih m t (by omega) (by omega), ih m ((b :: t).drop 4) (by simp only [List.length_drop, List.length_cons]; omega) (by simp only [List.length_drop, List.length_cons]; omega)]
theorem rawL_cons (b : UInt8) (t : List UInt8) : rawL (b :: t) =
  if pre [34, 34, 34] (b :: t) then some ([], 3) else if pre [92, 34, 34, 34] (b :: t) then (rawL ((b :: t).drop 4)).map fun q => ([34, 34, 34] ++ q.1, 4 + q.2)
  else (rawL t).map fun q => (b :: q.1, 1 + q.2) := by
 show rawF (t.length + 1 + 1) (b :: t) = _
 simp only [rawF]
 rw [rawF_enough (t.length + 1) (((b :: t).drop 4).length + 1) ((b :: t).drop 4) (by simp only [List.length_drop, List.length_cons]; omega) (by omega)]
 rfl
theorem quoteL_le {l : List UInt8} {p : List UInt8 × Nat} (h : quoteL l = some p) : 1 ≤ p.2 ∧ p.2 ≤ l.length := by
 cases l with
 | nil => cases h
 | cons b t =>
   simp only [quoteL] at h
   split at h
   · obtain ⟨q, hq, rfl⟩ := Option.map_eq_some_iff.1 h
     have := rawF_le _ _ _ hq
     simp only [List.length_drop, List.length_cons] at *
     omega
   · split at h
     · obtain ⟨q, hq, rfl⟩ := Option.map_eq_some_iff.1 h
       have := lineF_le _ _ _ hq
       simp only [List.length_cons] at *
       omega
     · cases h
theorem tokL_le {l : List UInt8} {p : (Int × List UInt8) × Nat} (h : tokL l = some p) : 1 ≤ p.2 ∧ p.2 ≤ l.length := by
 have h1 := markN_le l
 have h2 := wordN_le l
 have h3 := numberL_le l
 unfold tokL at h
 split at h
 · injection h with h; subst h; simp only; omega
 · split at h
   · injection h with h; subst h; simp only; omega
   · split at h
     · injection h with h; subst h; simp only; omega
     · obtain ⟨q, hq, rfl⟩ := Option.map_eq_some_iff.1 h
       exact quoteL_le hq
theorem readF_enough : ∀ (n m : Nat) (l : List UInt8), l.length < n → l.length < m → readF n l = readF m l := by
 intro n
 induction n with
 | zero => intro m l h; omega
 | succ n ih =>
   intro m l hn hm
   cases m with
   | zero => omega
   | succ m =>
     simp only [readF]
     split
     · rename_i hg
       have := gapL_le l
       rw [ih m _ (by simp only [List.length_drop]; omega) (by simp only [List.length_drop]; omega)]
     · split
       · rfl
       · cases ht : tokL l with
         | none => rfl
         | some p =>
           have := tokL_le ht
           simp only
           rw [ih m _ (by simp only [List.length_drop]; omega) (by simp only [List.length_drop]; omega)]
theorem readL_nil : readL [] = some [] := rfl
theorem readL_gap {l : List UInt8} (h : gapL l ≠ 0) : readL l = readL (l.drop (gapL l)) := by
 have := gapL_le l
 show readF (l.length + 1) l = _
 simp only [readF, if_pos h]
 exact readF_enough _ _ _ (by simp only [List.length_drop]; omega) (by omega)
theorem readL_tok {l : List UInt8} {p : (Int × List UInt8) × Nat} (h : gapL l = 0) (hn : l ≠ []) (ht : tokL l = some p) : readL l = (readL (l.drop p.2)).map (p.1 :: ·) := by
 have := tokL_le ht
 show readF (l.length + 1) l = _
 simp only [readF, h, ne_eq, not_true, if_false, if_neg hn, ht]
 rw [readF_enough l.length ((l.drop p.2).length + 1) _ (by simp only [List.length_drop]; omega) (by omega)]
 rfl
theorem readL_none {l : List UInt8} (h : gapL l = 0) (hn : l ≠ []) (ht : tokL l = none) : readL l = none := by
 show readF (l.length + 1) l = _
 simp only [readF, h, ne_eq, not_true, if_false, if_neg hn, ht]
theorem byte_all {P : UInt8 → Prop} (h : ∀ a : Fin 256, P (UInt8.ofNat a.val)) (b : UInt8) : P b := by
 have := h ⟨b.toNat, UInt8.toNat_lt b⟩
 simpa using this
def lineU (us : List Int) (l : List UInt8) : Option (List UInt8 × Nat) :=
 match joinL (us ++ hexRun l) with
 | none => none
 | some x => (lineL (l.drop (6 * (hexRun l).length))).map fun q => (x ++ q.1, 6 * (hexRun l).length + q.2)
theorem joinL_nil : joinL [] = some [] := rfl
theorem unitAt_head {l : List UInt8} {u : Int} (h : unitAt l = some u) : ∃ t, l = 92 :: 117 :: t := by
 unfold unitAt at h
 split at h
 · rename_i x y a b c d r
   split at h
   · rename_i hc
     simp only [Bool.and_eq_true, beq_iff_eq] at hc
     obtain ⟨⟨⟨⟨⟨rfl, rfl⟩, _⟩, _⟩, _⟩, _⟩ := hc
     exact ⟨_, rfl⟩
   · cases h
 · cases h
theorem hexRun_ne {l : List UInt8} (h : hexRun l ≠ []) : ∃ t, l = 92 :: 117 :: t := by
 cases hu : unitAt l with
 | none => exact absurd (hexRun_none hu) h
 | some u => exact unitAt_head hu
theorem map_id' {o : Option (List UInt8 × Nat)} : (o.map fun q => (([] : List UInt8) ++ q.1, 0 + q.2)) = o := by
 cases o <;> simp
theorem lineU_nil (l : List UInt8) : lineU [] l = lineL l := by
 unfold lineU
 by_cases h : hexRun l = []
 · rw [h, List.append_nil, joinL_nil]
   simp only [List.length_nil, Nat.mul_zero, List.drop_zero]
   exact map_id'
 · obtain ⟨t, rfl⟩ := hexRun_ne h
   rw [lineL_cons, List.nil_append]
   have e : escL (92 :: 117 :: t) = (joinL (hexRun (92 :: 117 :: t))).map fun x => (x, 6 * (hexRun (92 :: 117 :: t)).length) := by
    unfold escL
    rw [if_neg h]
   rw [e]
   cases joinL (hexRun (92 :: 117 :: t)) with
   | none => rfl
   | some x => rfl
theorem lineU_unit {us : List Int} {l : List UInt8} {u : Int} (h : unitAt l = some u) : lineU us l = (lineU (us ++ [u]) (l.drop 6)).map fun q => (q.1, 6 + q.2) := by
 unfold lineU
 rw [hexRun_some h, List.append_assoc, List.singleton_append]
 cases joinL (us ++ u :: hexRun (l.drop 6)) with
 | none => rfl
 | some x =>
   simp only [List.length_cons, List.drop_drop, Option.map_map]
   rw [show 6 + 6 * (hexRun (l.drop 6)).length = 6 * ((hexRun (l.drop 6)).length + 1) by omega]
   congr 1
   funext q
   simp only [Function.comp, Prod.mk.injEq, true_and]
   omega
theorem lineU_none {us : List Int} {l : List UInt8} (h : unitAt l = none) : lineU us l = match joinL us with | none => none | some x => (lineL l).map fun q => (x ++ q.1, q.2) := by
 unfold lineU
 rw [hexRun_none h, List.append_nil]
 cases joinL us with
 | none => rfl
 | some x =>
   simp only [List.length_nil, Nat.mul_zero, List.drop_zero]
   congr 1
   funext q
   simp
theorem kindL_eq (l : List UInt8) : kindL l = if (nmL l).1 ≠ l.length then 0 else (nmL l).2 := by
 have hle := numeralL_le l
 unfold kindL nbL
 by_cases h0 : (nmL l).1 = 0
 · have h2 : (nmL l).2 = 0 := by
     unfold nmL at h0 ⊢
     split
     · rfl
     · rename_i hw
       rw [if_neg hw] at h0
       simp only at h0
       omega
   rw [if_pos h0]
   simp only [h0, h2]
   split <;> split <;> rfl
 · rw [if_neg h0]
   cases hb : behindB (l.drop (nmL l).1)
   · simp only [Bool.false_eq_true, if_false]
     by_cases hl : (nmL l).1 < l.length
     · rw [if_pos hl, if_pos (by omega)]
     · rw [if_neg hl, if_neg (by omega)]
   · have hne : l.drop (nmL l).1 ≠ [] := by intro e; rw [e] at hb; cases hb
     have : (nmL l).1 ≠ l.length := fun e => hne (by rw [e]; simp)
     simp only [if_true]
     rw [if_pos this]
     split <;> rfl
def ascB (b : UInt8) : Bool := srcB (b.toNat : Int) && decide (b.toNat < 128)
theorem dec_ascii {b : UInt8} (t : List UInt8) (h : b.toNat < 128) : dec (b :: t) = ((b.toNat : Int), 1) := by
 have h0 : byt (b :: t) 0 = (b.toNat : Int) := rfl
 refine dec_of (k := 0) (by omega) (by simp) ?_ rfl ?_ ?_
 · rw [h0]; unfold leads; simp [lead, wide]; omega
 · show byt (b :: t) 0 - lead 0 = _; rw [h0]; simp [lead]
 · unfold fair least halfB; simp; omega
theorem source_cons {b : UInt8} (t : List UInt8) (h : b.toNat < 128) : sourceB (b :: t) = (srcB (b.toNat : Int) && sourceB t) := by
 unfold sourceB
 rw [eachP_step (by simp) (by rw [dec_ascii t h]; simp), dec_ascii t h]
 rfl
theorem good_cons {b : UInt8} (t : List UInt8) (h : b.toNat < 128) : goodB (b :: t) = goodB t := by
 unfold goodB
 rw [eachP_step (by simp) (by rw [dec_ascii t h]; simp), dec_ascii t h]
 simp
theorem source_ascii : ∀ {l : List UInt8}, l.all ascB = true → sourceB l = true := by
 intro l
 induction l with
 | nil => intro _; rfl
 | cons b t ih =>
   intro h
   simp only [List.all_cons, Bool.and_eq_true] at h
   have h1 := h.1
   unfold ascB at h1
   simp only [Bool.and_eq_true, decide_eq_true_eq] at h1
   rw [source_cons t h1.2, h1.1, ih h.2]
   rfl
theorem good_of_source {l : List UInt8} (h : sourceB l = true) : goodB l = true := by
 unfold sourceB eachP at h
 unfold goodB eachP
 cases hc : codes l with
 | none => rw [hc] at h; cases h
 | some cs => simp
theorem source_append {a : List UInt8} (ha : sourceB a = true) (b : List UInt8) : sourceB (a ++ b) = sourceB b := by
 unfold sourceB eachP at *
 cases hc : codes a with
 | none => rw [hc] at ha; cases ha
 | some cs =>
   rw [hc] at ha
   simp only at ha
   rw [codes_append hc]
   cases codes b with
   | none => rfl
   | some ds => simp only [Option.map_some, List.all_append, ha, Bool.true_and]
theorem num_byte : ∀ b : UInt8, (b == 45 || digU b) = true → isMark b = false ∧ letU b = false ∧ isGap b = false ∧ (b == 35) = false ∧ b ≠ 46 ∧ b ≠ 239 ∧ b ≠ 34 ∧ ascB b = true := byte_all (by decide +kernel)
theorem digU_asc : ∀ b : UInt8, digU b = true → ascB b = true := byte_all (by decide +kernel)
theorem nameU_asc : ∀ b : UInt8, nameU b = true → ascB b = true := byte_all (by decide +kernel)
theorem isMark_asc : ∀ b : UInt8, isMark b = true → ascB b = true := byte_all (by decide +kernel)
theorem pre_ne {a : UInt8} {p : List UInt8} {b : UInt8} {t : List UInt8} (h : b ≠ a) : pre (a :: p) (b :: t) = false := by
 unfold pre
 rw [List.isPrefixOf_cons_cons]
 have : (a == b) = false := by simpa using fun e => h e.symm
 rw [this, Bool.false_and]
theorem runL_take (l : List UInt8) : (l.take (runL l)).all digU = true := by
 unfold runL
 rw [← List.prefix_iff_eq_take.1 (List.takeWhile_prefix digU)]
 exact List.all_takeWhile
theorem all_add {p : UInt8 → Bool} {l : List UInt8} {a b : Nat} (h1 : (l.take a).all p = true) (h2 : ((l.drop a).take b).all p = true) : (l.take (a + b)).all p = true := by
 rw [List.take_add, List.all_append, h1, h2]; rfl
theorem all_imp {p q : UInt8 → Bool} (h : ∀ b, p b = true → q b = true) {l : List UInt8} (hl : l.all p = true) : l.all q = true := by
 rw [List.all_eq_true] at *
 exact fun x hx => h x (hl x hx)
theorem fracL_asc (l : List UInt8) : (l.take (fracL l)).all ascB = true := by
 cases l with
 | nil => rfl
 | cons b t =>
   simp only [fracL]
   split
   · rename_i h
     have hb : b = 46 := by simpa using h
     subst hb
     split
     · rfl
     · refine all_add (a := 1) (by simp; decide) ?_
       exact all_imp digU_asc (runL_take t)
   · rfl
theorem signL_asc (l : List UInt8) : (l.take (signL l)).all ascB = true := by
 cases l with
 | nil => rfl
 | cons b t =>
   simp only [signL]
   split
   · rename_i h
     have hb : ∀ b : UInt8, (b == 43 || b == 45) = true → ascB b = true := byte_all (by decide +kernel)
     simp [hb b h]
   · rfl
theorem expoL_asc (l : List UInt8) : (l.take (expoL l)).all ascB = true := by
 cases l with
 | nil => rfl
 | cons b t =>
   simp only [expoL]
   split
   · rename_i h
     have hb : ∀ b : UInt8, (b == 101 || b == 69) = true → ascB b = true := byte_all (by decide +kernel)
     split
     · rfl
     · rw [Nat.add_assoc]
       refine all_add (a := 1) (by simp [hb b h]) ?_
       exact all_add (signL_asc t) (all_imp digU_asc (runL_take _))
   · rfl
theorem wholeL_asc (l : List UInt8) : (l.take (wholeL l)).all ascB = true := by
 cases l with
 | nil => rfl
 | cons b t =>
   simp only [wholeL]
   split
   · rename_i h
     have hb : b = 48 := by simpa using h
     subst hb
     simp
     decide
   · exact all_imp digU_asc (runL_take _)
theorem minusL_asc (l : List UInt8) : (l.take (minusL l)).all ascB = true := by
 cases l with
 | nil => rfl
 | cons b t =>
   simp only [minusL]
   split
   · rename_i h
     have hb : b = 45 := by simpa using h
     subst hb
     simp
     decide
   · rfl
theorem numeralL_asc (l : List UInt8) : (l.take (nmL l).1).all ascB = true := by
 unfold nmL
 split
 · rfl
 · exact all_add (all_add (all_add (minusL_asc l) (wholeL_asc _)) (fracL_asc _)) (expoL_asc _)
theorem numeralL_head {l : List UInt8} (h : (nmL l).1 ≠ 0) : ∃ b t, l = b :: t ∧ (b == 45 || digU b) = true := by
 cases l with
 | nil => exact absurd (by rfl) h
 | cons b t =>
   refine ⟨b, t, rfl, ?_⟩
   by_cases hb : (b == 45) = true
   · rw [hb]; rfl
   · have hb' : (b == 45) = false := by simpa using hb
     rw [hb', Bool.false_or]
     have hm : minusL (b :: t) = 0 := by simp only [minusL]; rw [if_neg hb]
     have hw : wholeL (b :: t) ≠ 0 := by
       intro hw
       apply h
       unfold nmL
       rw [hm, List.drop_zero, if_pos hw]
     simp only [wholeL] at hw
     by_cases h48 : (b == 48) = true
     · have : b = 48 := by simpa using h48
       subst this
       decide
     · rw [if_neg h48] at hw
       unfold runL at hw
       rw [List.takeWhile_cons] at hw
       by_cases hd : digU b = true
       · exact hd
       · rw [if_neg hd] at hw
         exact absurd rfl hw
theorem number_cases {l : List UInt8} (h : (nbL l).1 ≠ 0) : (nbL l) = nmL l ∧ behindB (l.drop (nmL l).1) = false ∧ (nmL l).1 ≠ 0 := by
 unfold nbL at *
 by_cases h0 : (nmL l).1 = 0
 · rw [if_pos h0] at h; exact absurd rfl h
 · rw [if_neg h0] at *
   cases hb : behindB (l.drop (nmL l).1)
   · simp [h0]
   · rw [hb] at h; exact absurd rfl h
theorem tok_number {l : List UInt8} (h : (nbL l).1 ≠ 0) : gapL l = 0 ∧ tokL l = some (((nbL l).2, l.take (nbL l).1), (nbL l).1) := by
 obtain ⟨_, _, h0⟩ := number_cases h
 obtain ⟨b, t, rfl, hb⟩ := numeralL_head h0
 obtain ⟨h1, h2, h3, h4, h5, h6, h7, _⟩ := num_byte b hb
 have g : gapL (b :: t) = 0 := by simp [gapL, h3, h4, pre_ne h6]
 have m : markN (b :: t) = 0 := by simp [markN, h1, pre_ne h5]
 have w : wordN (b :: t) = 0 := by simp [wordN, h2]
 refine ⟨g, ?_⟩
 unfold tokL
 rw [if_neg (by rw [m]; simp), if_neg (by rw [w]; simp), if_pos h]
theorem numeral_kind {l : List UInt8} (h : (nmL l).1 ≠ 0) : (nmL l).2 = 3 ∨ (nmL l).2 = 4 := by
 unfold nmL at *
 split
 · rename_i hw; rw [if_pos hw] at h; exact absurd rfl h
 · simp only; split <;> simp
theorem numbers_yes {l : List UInt8} (h : kindL l ≠ 0) : readL l = some [(kindL l, l)] ∧ sourceB l = true ∧ (kindL l = 3 ∨ kindL l = 4) := by
 have hle := numberL_le l
 have h1 : ¬ (nbL l).1 < l.length := by
   intro hl
   unfold kindL at h
   rw [if_pos hl] at h
   exact h rfl
 have hk : kindL l = (nbL l).2 := by unfold kindL; rw [if_neg h1]
 have hn : (nbL l).1 ≠ 0 := by
   intro h0
   rw [hk] at h
   apply h
   unfold nbL at h0 ⊢
   by_cases hz : (nmL l).1 = 0
   · rw [if_pos hz]
   · rw [if_neg hz] at h0 ⊢
     cases hb : behindB (l.drop (nmL l).1)
     · rw [hb] at h0; exact absurd h0 hz
     · rfl
 have hlen : (nbL l).1 = l.length := by omega
 obtain ⟨e, _, hz⟩ := number_cases hn
 obtain ⟨g, t⟩ := tok_number hn
 refine ⟨?_, ?_, ?_⟩
 · rw [readL_tok g (by intro e; subst e; exact hn rfl) t, hlen, hk]
   simp [readL_nil]
 · have := numeralL_asc l
   rw [← e, hlen, List.take_length] at this
   exact source_ascii this
 · rw [hk, e]; exact numeral_kind hz
open Go.Shelf Go.RowKit
def hasPRen : Go.Shelf.Ren := ⟨fun | 99 => 199 | 206 => 248 | n => n, fun | 3 => 3 | 4 => 4 | 5 => 5 | 9 => 9 | n => n, fun  | n => n⟩
theorem hasPLays : Go.Proofs.Lays.n99 Tryz.prog hasPRen := {
 mixed := by kernel_rfl
 f99 := Tryz.func199.trans (congrArg some (by kernel_rfl))
 f206 := Tryz.func248.trans (congrArg some (by kernel_rfl))
 t3 := Tryz.underlying3
 a3 := Tryz.isAgg3
 z3 := Tryz.sizeOf3
 v3 := Tryz.zeroValue3
 t4 := Tryz.underlying4
 a4 := Tryz.isAgg4
 z4 := Tryz.sizeOf4
 v4 := Tryz.zeroValue4
 t9 := Tryz.underlying9
 a9 := Tryz.isAgg9
 z9 := Tryz.sizeOf9
 v9 := Tryz.zeroValue9 }
theorem hasPrefix_any (s p : ByteArray) (w : World) : Calls Tryz.prog 199 #[.string s, .string p] w fun e w' => e = .returned (.bool (Lib.hasPrefix s.data.toList p.data.toList)) ∧ w' = w := Any.strings_HasPrefix hasPLays s p w
def trimPRen : Go.Shelf.Ren := ⟨fun | 101 => 225 | 206 => 248 | 208 => 260 | n => n, fun | 3 => 3 | 4 => 4 | 5 => 5 | 9 => 9 | n => n, fun  | n => n⟩
theorem trimPLays : Go.Proofs.Lays.n101 Tryz.prog trimPRen := {
 mixed := by kernel_rfl
 f101 := Tryz.func225.trans (congrArg some (by kernel_rfl))
 f206 := Tryz.func248.trans (congrArg some (by kernel_rfl))
 f208 := Tryz.func260.trans (congrArg some (by kernel_rfl))
 t3 := Tryz.underlying3
 a3 := Tryz.isAgg3
 z3 := Tryz.sizeOf3
 v3 := Tryz.zeroValue3
 t4 := Tryz.underlying4
 a4 := Tryz.isAgg4
 z4 := Tryz.sizeOf4
 v4 := Tryz.zeroValue4
 t9 := Tryz.underlying9
 a9 := Tryz.isAgg9
 z9 := Tryz.sizeOf9
 v9 := Tryz.zeroValue9 }
theorem trimPrefix_any (s p : ByteArray) (w : World) : Calls Tryz.prog 225 #[.string s, .string p] w fun e w' => e = .returned (.string ⟨(Lib.trimPrefix s.data.toList p.data.toList).toArray⟩) ∧ w' = w := Any.strings_TrimPrefix trimPLays s p w
def cutPRen : Go.Shelf.Ren := ⟨fun | 103 => 304 | 206 => 248 | 210 => 309 | n => n, fun | 3 => 3 | 4 => 4 | 5 => 5 | 9 => 9 | 24 => 49 | n => n, fun  | n => n⟩
theorem cutPLays : Go.Proofs.Lays.n103 Tryz.prog cutPRen := {
 mixed := by kernel_rfl
 f103 := Tryz.func304.trans (congrArg some (by kernel_rfl))
 f206 := Tryz.func248.trans (congrArg some (by kernel_rfl))
 f210 := Tryz.func309.trans (congrArg some (by kernel_rfl))
 t3 := Tryz.underlying3
 a3 := Tryz.isAgg3
 z3 := Tryz.sizeOf3
 v3 := Tryz.zeroValue3
 t4 := Tryz.underlying4
 a4 := Tryz.isAgg4
 z4 := Tryz.sizeOf4
 v4 := Tryz.zeroValue4
 t9 := Tryz.underlying9
 a9 := Tryz.isAgg9
 z9 := Tryz.sizeOf9
 v9 := Tryz.zeroValue9
 t24 := Tryz.underlying49
 a24 := Tryz.isAgg49
 z24 := Tryz.sizeOf49
 v24 := Tryz.zeroValue49 }
theorem cutPrefix_any (s p : ByteArray) (w : World) : Calls Tryz.prog 304 #[.string s, .string p] w fun e w' => e = .returned (.tuple #[.string ⟨(Lib.trimPrefix s.data.toList p.data.toList).toArray⟩, .bool (Lib.hasPrefix s.data.toList p.data.toList)]) ∧ w' = w := Any.strings_CutPrefix cutPLays s p w
def idxBRen : Go.Shelf.Ren := ⟨fun | 137 => 200 | 217 => 249 | 266 => 282 | n => n, fun | 3 => 3 | 5 => 5 | 9 => 9 | n => n, fun  | n => n⟩
theorem idxBLays : Go.Proofs.Lays.n137 Tryz.prog idxBRen := {
 mixed := by kernel_rfl
 f137 := Tryz.func200.trans (congrArg some (by kernel_rfl))
 f217 := Tryz.func249.trans (congrArg some (by kernel_rfl))
 f266 := Tryz.func282.trans (congrArg some (by kernel_rfl))
 t3 := Tryz.underlying3
 a3 := Tryz.isAgg3
 z3 := Tryz.sizeOf3
 v3 := Tryz.zeroValue3
 t5 := Tryz.underlying5
 a5 := Tryz.isAgg5
 z5 := Tryz.sizeOf5
 v5 := Tryz.zeroValue5
 t9 := Tryz.underlying9
 a9 := Tryz.isAgg9
 z9 := Tryz.sizeOf9
 v9 := Tryz.zeroValue9 }
theorem indexByte_any (s : ByteArray) (c : Int) (w : World) : Calls Tryz.prog 200 #[.string s, .int .u8 c] w fun e w' => e = .returned (.int .i64 (Lib.indexByte s.data.toList c.toNat.toUInt8)) ∧ w' = w := Any.strings_IndexByte idxBLays s c w
def idxRRen : Go.Shelf.Ren := ⟨fun | 119 => 291 | 137 => 200 | 152 => 263 | 217 => 249 | 224 => 292 | 225 => 293 | 266 => 282 | n => n, fun | 0 => 0 | 3 => 3 | 4 => 4 | 5 => 5 | 9 => 9 | 21 => 21 | 46 => 167 | n => n, fun  | n => n⟩
theorem idxRLays : Go.Proofs.Lays.n152 Tryz.prog idxRRen := {
 mixed := by kernel_rfl
 f119 := Tryz.func291.trans (congrArg some (by kernel_rfl))
 f137 := Tryz.func200.trans (congrArg some (by kernel_rfl))
 f152 := Tryz.func263.trans (congrArg some (by kernel_rfl))
 f217 := Tryz.func249.trans (congrArg some (by kernel_rfl))
 f224 := Tryz.func292.trans (congrArg some (by kernel_rfl))
 f225 := Tryz.func293.trans (congrArg some (by kernel_rfl))
 f266 := Tryz.func282.trans (congrArg some (by kernel_rfl))
 t0 := Tryz.underlying0
 a0 := Tryz.isAgg0
 z0 := Tryz.sizeOf0
 v0 := Tryz.zeroValue0
 t3 := Tryz.underlying3
 a3 := Tryz.isAgg3
 z3 := Tryz.sizeOf3
 v3 := Tryz.zeroValue3
 t4 := Tryz.underlying4
 a4 := Tryz.isAgg4
 z4 := Tryz.sizeOf4
 v4 := Tryz.zeroValue4
 t5 := Tryz.underlying5
 a5 := Tryz.isAgg5
 z5 := Tryz.sizeOf5
 v5 := Tryz.zeroValue5
 t9 := Tryz.underlying9
 a9 := Tryz.isAgg9
 z9 := Tryz.sizeOf9
 v9 := Tryz.zeroValue9
 t21 := Tryz.underlying21
 a21 := Tryz.isAgg21
 z21 := Tryz.sizeOf21
 v21 := Tryz.zeroValue21
 t46 := Tryz.underlying167
 a46 := Tryz.isAgg167
 z46 := Tryz.sizeOf167
 v46 := Tryz.zeroValue167 }
theorem indexRune_ascii (s : ByteArray) (r : Int) (w : World) (h0 : 0 ≤ r) (h1 : r < 128) : Calls Tryz.prog 263 #[.string s, .int .i32 r] w fun e w' => e = .returned (.int .i64 (Lib.indexByte s.data.toList r.toNat.toUInt8)) ∧ w' = w := Any.strings_IndexRune_ascii idxRLays s r w h0 h1
def idxARen : Go.Shelf.Ren := ⟨fun | 119 => 291 | 137 => 200 | 152 => 263 | 153 => 231 | 217 => 249 | 224 => 292 | 225 => 293 | 226 => 264 | 227 => 265 | 228 => 266 | 266 => 282 | n => n, fun | 0 => 0 | 3 => 3 | 4 => 4 | 5 => 5 | 9 => 9 | 21 => 21 | 46 => 167 | 116 => 247 | 117 => 248 | 124 => 275 | n => n, fun  | n => n⟩
theorem idxALays : Go.Proofs.Lays.n153 Tryz.prog idxARen := {
 mixed := by kernel_rfl
 f119 := Tryz.func291.trans (congrArg some (by kernel_rfl))
 f137 := Tryz.func200.trans (congrArg some (by kernel_rfl))
 f152 := Tryz.func263.trans (congrArg some (by kernel_rfl))
 f153 := Tryz.func231.trans (congrArg some (by kernel_rfl))
 f217 := Tryz.func249.trans (congrArg some (by kernel_rfl))
 f224 := Tryz.func292.trans (congrArg some (by kernel_rfl))
 f225 := Tryz.func293.trans (congrArg some (by kernel_rfl))
 f226 := Tryz.func264.trans (congrArg some (by kernel_rfl))
 f227 := Tryz.func265.trans (congrArg some (by kernel_rfl))
 f228 := Tryz.func266.trans (congrArg some (by kernel_rfl))
 f266 := Tryz.func282.trans (congrArg some (by kernel_rfl))
 t0 := Tryz.underlying0
 a0 := Tryz.isAgg0
 z0 := Tryz.sizeOf0
 v0 := Tryz.zeroValue0
 t3 := Tryz.underlying3
 a3 := Tryz.isAgg3
 z3 := Tryz.sizeOf3
 v3 := Tryz.zeroValue3
 t4 := Tryz.underlying4
 a4 := Tryz.isAgg4
 z4 := Tryz.sizeOf4
 v4 := Tryz.zeroValue4
 t5 := Tryz.underlying5
 a5 := Tryz.isAgg5
 z5 := Tryz.sizeOf5
 v5 := Tryz.zeroValue5
 t9 := Tryz.underlying9
 a9 := Tryz.isAgg9
 z9 := Tryz.sizeOf9
 v9 := Tryz.zeroValue9
 t21 := Tryz.underlying21
 a21 := Tryz.isAgg21
 z21 := Tryz.sizeOf21
 v21 := Tryz.zeroValue21
 t46 := Tryz.underlying167
 a46 := Tryz.isAgg167
 z46 := Tryz.sizeOf167
 v46 := Tryz.zeroValue167
 t116 := Tryz.underlying247
 a116 := Tryz.isAgg247
 z116 := Tryz.sizeOf247
 t117 := Tryz.underlying248
 a117 := Tryz.isAgg248
 z117 := Tryz.sizeOf248
 v117 := Tryz.zeroValue248
 t124 := Tryz.underlying275
 a124 := Tryz.isAgg275
 z124 := Tryz.sizeOf275
 v124 := Tryz.zeroValue275 }
theorem idx116 : (Tryz.prog.info? (idxARen.t 116)).map (fun i => (i.zero, i.size)) = some (some (.agg (Array.replicate 256 (.bool false))), 256) := by kernel_rfl
theorem indexAny_long (s chars : ByteArray) (w : World) (h2 : 2 ≤ chars.size) (h8 : 8 < s.size) (hs : s.size < 4294967281) (hcs : chars.size < 4294967281) (hascii : ∀ (j : Nat) b, chars.data.toList[j]? = some b → b.toNat < 128) :
  Calls Tryz.prog 231 #[.string s, .string chars] w fun e w' => e = .returned (.int .i64 (Lib.indexAny s.data.toList chars.data.toList)) ∧ Below w.heap.size w w' :=
 (Any.strings_IndexAny_long idxALays (zero_of_info idx116).1 (zero_of_info idx116).2 s chars w h2 h8 hs hcs hascii).mono fun _ _ ⟨he, hw⟩ => ⟨he, by rw [hw]; exact ((Below.refl _ _).alloc (Nat.le_refl _) _).alloc (by simp) _⟩
def wrSRen : Go.Shelf.Ren := ⟨fun | 166 => 61 | 240 => 139 | 276 => 203 | n => n, fun | 0 => 0 | 3 => 3 | 4 => 4 | 5 => 5 | 9 => 9 | 20 => 20 | 37 => 100 | 70 => 99 | 72 => 102 | 75 => 105 | 80 => 110 | 164 => 220 | n => n, fun  | n => n⟩
theorem wrSLays : Go.Proofs.Lays.n166 Tryz.prog wrSRen := {
 mixed := by kernel_rfl
 f166 := Tryz.func61.trans (congrArg some (by kernel_rfl))
 f240 := Tryz.func139.trans (congrArg some (by kernel_rfl))
 f276 := Tryz.func203.trans (congrArg some (by kernel_rfl))
 t0 := Tryz.underlying0
 a0 := Tryz.isAgg0
 z0 := Tryz.sizeOf0
 v0 := Tryz.zeroValue0
 t3 := Tryz.underlying3
 a3 := Tryz.isAgg3
 z3 := Tryz.sizeOf3
 v3 := Tryz.zeroValue3
 t4 := Tryz.underlying4
 a4 := Tryz.isAgg4
 z4 := Tryz.sizeOf4
 v4 := Tryz.zeroValue4
 t9 := Tryz.underlying9
 a9 := Tryz.isAgg9
 z9 := Tryz.sizeOf9
 v9 := Tryz.zeroValue9
 t20 := Tryz.underlying20
 a20 := Tryz.isAgg20
 z20 := Tryz.sizeOf20
 v20 := Tryz.zeroValue20
 t37 := Tryz.underlying100
 a37 := Tryz.isAgg100
 z37 := Tryz.sizeOf100
 v37 := Tryz.zeroValue100
 t70 := Tryz.underlying99
 a70 := Tryz.isAgg99
 z70 := Tryz.sizeOf99
 v70 := Tryz.zeroValue99
 t72 := Tryz.underlying102
 a72 := Tryz.isAgg102
 z72 := Tryz.sizeOf102
 v72 := Tryz.zeroValue102
 t75 := Tryz.underlying105
 a75 := Tryz.isAgg105
 z75 := Tryz.sizeOf105
 v75 := Tryz.zeroValue105
 t164 := Tryz.underlying220
 a164 := Tryz.isAgg220
 z164 := Tryz.sizeOf220
 v164 := Tryz.zeroValue220 }
theorem wrSExtra : Builder.Extra Tryz.prog wrSRen := {
 sizeBuilder := by kernel_rfl
 liesBuilder := by kernel_rfl
 t5 := Tryz.underlying5
 a5 := Tryz.isAgg5
 z5 := Tryz.sizeOf5
 v5 := Tryz.zeroValue5
 infoByte := by kernel_rfl
 cellsByte := by kernel_rfl
 sizeByte := by kernel_rfl
 neB5 := by decide }
theorem writeString (B b : Nat) (bs : List Value) (s : ByteArray) (w : World) (h : Lib.IsBuilderF 102 5 B b bs w) (hlen : bs.length + s.size ≤ 140737488355328) (hBw : B ≤ w.heap.size) :
  Calls Tryz.prog 61 #[.pointer (some ⟨b, 0, none⟩), .string s] w fun e w' => e = .returned (.tuple #[.int .i64 s.size, .nilIface]) ∧ (Lib.BuilderAtF 102 5 B b (.pointer (some ⟨b, 0, none⟩)) (bs ++ Lib.strCells s) w' ∧ Below B w w' ∧ Lib.OthersKept 5 (some b) w w') :=
 Any.Builder_WriteString_k wrSLays wrSExtra B b bs s w h hlen hBw
def wrBRen : Go.Shelf.Ren := ⟨fun | 167 => 59 | 240 => 139 | 276 => 203 | n => n, fun | 0 => 0 | 4 => 4 | 5 => 5 | 9 => 9 | 20 => 20 | 37 => 100 | 70 => 99 | 72 => 102 | 75 => 105 | 80 => 110 | 164 => 220 | n => n, fun  | n => n⟩
theorem wrBLays : Go.Proofs.Lays.n167 Tryz.prog wrBRen := {
 mixed := by kernel_rfl
 f167 := Tryz.func59.trans (congrArg some (by kernel_rfl))
 f240 := Tryz.func139.trans (congrArg some (by kernel_rfl))
 f276 := Tryz.func203.trans (congrArg some (by kernel_rfl))
 t0 := Tryz.underlying0
 a0 := Tryz.isAgg0
 z0 := Tryz.sizeOf0
 v0 := Tryz.zeroValue0
 t4 := Tryz.underlying4
 a4 := Tryz.isAgg4
 z4 := Tryz.sizeOf4
 v4 := Tryz.zeroValue4
 t5 := Tryz.underlying5
 a5 := Tryz.isAgg5
 z5 := Tryz.sizeOf5
 v5 := Tryz.zeroValue5
 t9 := Tryz.underlying9
 a9 := Tryz.isAgg9
 z9 := Tryz.sizeOf9
 v9 := Tryz.zeroValue9
 t20 := Tryz.underlying20
 a20 := Tryz.isAgg20
 z20 := Tryz.sizeOf20
 v20 := Tryz.zeroValue20
 t37 := Tryz.underlying100
 a37 := Tryz.isAgg100
 z37 := Tryz.sizeOf100
 v37 := Tryz.zeroValue100
 t70 := Tryz.underlying99
 a70 := Tryz.isAgg99
 z70 := Tryz.sizeOf99
 v70 := Tryz.zeroValue99
 t72 := Tryz.underlying102
 a72 := Tryz.isAgg102
 z72 := Tryz.sizeOf102
 v72 := Tryz.zeroValue102
 t75 := Tryz.underlying105
 a75 := Tryz.isAgg105
 z75 := Tryz.sizeOf105
 v75 := Tryz.zeroValue105
 t164 := Tryz.underlying220
 a164 := Tryz.isAgg220
 z164 := Tryz.sizeOf220
 v164 := Tryz.zeroValue220 }
theorem wrBExtra : Builder.Extra Tryz.prog wrBRen := {
 sizeBuilder := by kernel_rfl
 liesBuilder := by kernel_rfl
 t5 := Tryz.underlying5
 a5 := Tryz.isAgg5
 z5 := Tryz.sizeOf5
 v5 := Tryz.zeroValue5
 infoByte := by kernel_rfl
 cellsByte := by kernel_rfl
 sizeByte := by kernel_rfl
 neB5 := by decide }
theorem writeByte (B b : Nat) (bs : List Value) (c : Int) (w : World) (h : Lib.IsBuilderF 102 5 B b bs w) (hlen : bs.length + 1 ≤ 140737488355328) (hBw : B ≤ w.heap.size) :
  Calls Tryz.prog 59 #[.pointer (some ⟨b, 0, none⟩), .int .u8 c] w fun e w' => e = .returned .nilIface ∧ (Lib.BuilderAtF 102 5 B b (.pointer (some ⟨b, 0, none⟩)) (bs ++ [.int .u8 c]) w' ∧ Below B w w' ∧ Lib.OthersKept 5 (some b) w w') :=
 Any.Builder_WriteByte_k wrBLays wrBExtra B b bs c w h hlen hBw
def toERen : Go.Shelf.Ren := ⟨fun | 129 => 278 | 171 => 299 | 205 => 298 | 243 => 307 | 245 => 241 | 246 => 198 | 279 => 273 | 280 => 274 | 281 => 275 | 282 => 276 | 283 => 244 | 284 => 245 | 285 => 246 | 286 => 247 | 316 => 297 | 317 => 277 | 318 => 279 | 319 => 280 | 320 => 281 | 337 => 300 | 338 => 301 | n => n, fun | 0 => 0 | 2 => 2 | 3 => 3 | 4 => 4 | 5 => 5 | 9 => 9 | 20 => 20 | 37 => 100 | 46 => 167 | 51 => 243 | 53 => 238 | 75 => 105 | 80 => 110 | 127 => 176 | 143 => 284 | 145 => 286 | 167 => 254 | 168 => 257 | 171 => 237 | 173 => 241 | 210 => 278 | 212 => 262 | 213 => 263 | 232 => 287 | 233 => 288 | n => n, fun | 15 => 2 | 16 => 3 | 17 => 0 | 18 => 5 | 19 => 6 | n => n⟩
theorem toELays0 : Go.Proofs.Lays.n245 Tryz.prog toERen := {
 mixed := by kernel_rfl
 f129 := Tryz.func278.trans (congrArg some (by kernel_rfl))
 f171 := Tryz.func299.trans (congrArg some (by kernel_rfl))
 f205 := Tryz.func298.trans (congrArg some (by kernel_rfl))
 f243 := Tryz.func307.trans (congrArg some (by kernel_rfl))
 f245 := Tryz.func241.trans (congrArg some (by kernel_rfl))
 f246 := Tryz.func198.trans (congrArg some (by kernel_rfl))
 f279 := Tryz.func273.trans (congrArg some (by kernel_rfl))
 f280 := Tryz.func274.trans (congrArg some (by kernel_rfl))
 f281 := Tryz.func275.trans (congrArg some (by kernel_rfl))
 f282 := Tryz.func276.trans (congrArg some (by kernel_rfl))
 f283 := Tryz.func244.trans (congrArg some (by kernel_rfl))
 f284 := Tryz.func245.trans (congrArg some (by kernel_rfl))
 f285 := Tryz.func246.trans (congrArg some (by kernel_rfl))
 f286 := Tryz.func247.trans (congrArg some (by kernel_rfl))
 f316 := Tryz.func297.trans (congrArg some (by kernel_rfl))
 f317 := Tryz.func277.trans (congrArg some (by kernel_rfl))
 f318 := Tryz.func279.trans (congrArg some (by kernel_rfl))
 f319 := Tryz.func280.trans (congrArg some (by kernel_rfl))
 f320 := Tryz.func281.trans (congrArg some (by kernel_rfl))
 f337 := Tryz.func300.trans (congrArg some (by kernel_rfl))
 f338 := Tryz.func301.trans (congrArg some (by kernel_rfl))
 t0 := Tryz.underlying0
 a0 := Tryz.isAgg0
 z0 := Tryz.sizeOf0
 v0 := Tryz.zeroValue0
 t2 := Tryz.underlying2
 a2 := Tryz.isAgg2
 z2 := Tryz.sizeOf2
 v2 := Tryz.zeroValue2
 t3 := Tryz.underlying3
 a3 := Tryz.isAgg3
 z3 := Tryz.sizeOf3
 v3 := Tryz.zeroValue3
 t4 := Tryz.underlying4
 a4 := Tryz.isAgg4
 z4 := Tryz.sizeOf4
 v4 := Tryz.zeroValue4
 t5 := Tryz.underlying5
 a5 := Tryz.isAgg5
 z5 := Tryz.sizeOf5
 v5 := Tryz.zeroValue5
 t9 := Tryz.underlying9
 a9 := Tryz.isAgg9
 z9 := Tryz.sizeOf9
 v9 := Tryz.zeroValue9
 t20 := Tryz.underlying20
 a20 := Tryz.isAgg20
 z20 := Tryz.sizeOf20
 v20 := Tryz.zeroValue20
 t37 := Tryz.underlying100
 a37 := Tryz.isAgg100
 z37 := Tryz.sizeOf100
 v37 := Tryz.zeroValue100
 t46 := Tryz.underlying167
 a46 := Tryz.isAgg167
 z46 := Tryz.sizeOf167
 v46 := Tryz.zeroValue167
 t51 := Tryz.underlying243
 a51 := Tryz.isAgg243
 z51 := Tryz.sizeOf243
 v51 := Tryz.zeroValue243
 t53 := Tryz.underlying238
 a53 := Tryz.isAgg238
 z53 := Tryz.sizeOf238
 v53 := Tryz.zeroValue238
 t75 := Tryz.underlying105
 a75 := Tryz.isAgg105
 z75 := Tryz.sizeOf105
 v75 := Tryz.zeroValue105
 t127 := Tryz.underlying176
 a127 := Tryz.isAgg176
 z127 := Tryz.sizeOf176
 v127 := Tryz.zeroValue176
 t143 := Tryz.underlying284
 a143 := Tryz.isAgg284
 z143 := Tryz.sizeOf284
 v143 := Tryz.zeroValue284
 t145 := Tryz.underlying286
 a145 := Tryz.isAgg286
 z145 := Tryz.sizeOf286
 v145 := Tryz.zeroValue286
 t167 := Tryz.underlying254
 a167 := Tryz.isAgg254
 z167 := Tryz.sizeOf254
 v167 := Tryz.zeroValue254
 t168 := Tryz.underlying257
 a168 := Tryz.isAgg257
 z168 := Tryz.sizeOf257
 v168 := Tryz.zeroValue257
 t171 := Tryz.underlying237
 a171 := Tryz.isAgg237
 z171 := Tryz.sizeOf237
 v171 := Tryz.zeroValue237
 t173 := Tryz.underlying241
 a173 := Tryz.isAgg241
 z173 := Tryz.sizeOf241
 v173 := Tryz.zeroValue241
 t210 := Tryz.underlying278
 a210 := Tryz.isAgg278
 z210 := Tryz.sizeOf278
 v210 := Tryz.zeroValue278
 t212 := Tryz.underlying262
 a212 := Tryz.isAgg262
 z212 := Tryz.sizeOf262
 v212 := Tryz.zeroValue262
 t213 := Tryz.underlying263
 a213 := Tryz.isAgg263
 z213 := Tryz.sizeOf263
 t232 := Tryz.underlying287
 a232 := Tryz.isAgg287
 z232 := Tryz.sizeOf287
 v232 := Tryz.zeroValue287
 t233 := Tryz.underlying288
 a233 := Tryz.isAgg288
 z233 := Tryz.sizeOf288
 v233 := Tryz.zeroValue288
 g15 := by kernel_rfl
 g16 := by kernel_rfl
 g17 := by kernel_rfl
 g18 := by kernel_rfl
 g19 := by kernel_rfl }
theorem toELays1 : Go.Proofs.LaysM.n245 Tryz.prog toERen := { toELays0 with
 t80 := Tryz.underlying110
 a80 := Tryz.isAgg110
 z80 := Tryz.sizeOf110
 v80 := Tryz.zeroValue110
 i0 := by kernel_rfl
 i2 := by kernel_rfl
 i3 := by kernel_rfl
 i4 := by kernel_rfl
 i5 := by kernel_rfl
 i9 := by kernel_rfl
 i20 := by kernel_rfl
 i37 := by kernel_rfl
 i46 := by kernel_rfl
 i51 := by kernel_rfl
 i53 := by kernel_rfl
 i75 := by kernel_rfl
 i80 := by kernel_rfl
 i127 := by kernel_rfl
 i143 := by kernel_rfl
 i145 := by kernel_rfl
 i167 := by kernel_rfl
 i168 := by kernel_rfl
 i171 := by kernel_rfl
 i173 := by kernel_rfl
 i210 := by kernel_rfl
 i212 := by kernel_rfl
 i232 := by kernel_rfl
 i233 := by kernel_rfl
 m15 := by kernel_rfl
 m16 := by kernel_rfl
 m17 := by kernel_rfl
 m18 := by kernel_rfl
 m19 := by kernel_rfl }
theorem toELays : Go.Proofs.LaysC.n245 Tryz.prog toERen := { toELays1 with
 c0 := by kernel_rfl
 c2 := by kernel_rfl
 c3 := by kernel_rfl
 c4 := by kernel_rfl
 c5 := by kernel_rfl
 c9 := by kernel_rfl
 c20 := by kernel_rfl
 c37 := by kernel_rfl
 c46 := by kernel_rfl
 c51 := by kernel_rfl
 c53 := by kernel_rfl
 c75 := by kernel_rfl
 c80 := by kernel_rfl
 c127 := by kernel_rfl
 c143 := by kernel_rfl
 c145 := by kernel_rfl
 c167 := by kernel_rfl
 c168 := by kernel_rfl
 c171 := by kernel_rfl
 c173 := by kernel_rfl
 c210 := by kernel_rfl
 c212 := by kernel_rfl
 c213 := by kernel_rfl
 c232 := by kernel_rfl
 c233 := by kernel_rfl }
theorem toError_syntax (fn s : ByteArray) (base bits : Int) (ev : Value) (w : World) (hlim : s.size ≤ 281474976710656) (hv : w.cell? ⟨2, 0, none⟩ = some ev) (hev : ev = .nilIface ∨ ∃ te pe, ev = .iface te pe) :
  Calls Tryz.prog 241 #[.string fn, .string s, .int .i64 base, .int .i64 bits, .iface 254 (.int .i64 2)] w fun e w' => ∃ N, e = .returned (.iface 257 (.pointer (some ⟨N, 0, none⟩))) ∧ Below w.heap.size w w' :=
 (Any.strconv_toError_syntax toELays fn s base bits ev w hlim hv hev).mono fun _ _ ⟨N, he, _, _, hb⟩ => ⟨N, he, hb⟩
end Go.Proofs.YtpkmbhnikilihaaGreatDoor
