/- Plain facts on lines of bytes, of no program: lines, how far they stand in, what a block says. -/
import Derived.Lib.Strings
namespace Go.Proofs.Ytmamgaifpjgfkaa.Blk

/-- Does a byte end a line? -/
def eolB (c : UInt8) : Bool := c == 10 || c == 13
/-- The first line. -/
def firstL (l : List UInt8) : List UInt8 := l.takeWhile fun c => !eolB c
/-- What stands behind the end of the first line, if it has one. -/
def afterL (l : List UInt8) : Option (List UInt8) :=
  match l.dropWhile fun c => !eolB c with
  | [] => none
  | c :: t => if c = 13 then (match t with | d :: t' => if d = 10 then some t' else some t | [] => some t) else some t
def linesF : Nat → List UInt8 → List (List UInt8)
  | 0, l => [l]
  | n + 1, l => firstL l :: (match afterL l with | none => [] | some t => linesF n t)
/-- The lines of a text. -/
def linesL (l : List UInt8) : List (List UInt8) := linesF (l.length + 1) l

theorem dropWhile_len (p : UInt8 → Bool) : ∀ l : List UInt8, (l.dropWhile p).length ≤ l.length := by
  intro l
  induction l with
  | nil => simp
  | cons c t ih => rw [List.dropWhile_cons]; split <;> simp <;> omega
theorem afterL_len {l t : List UInt8} (h : afterL l = some t) : t.length < l.length := by
  unfold afterL at h
  have hl := dropWhile_len (fun c => !eolB c) l
  split at h
  · cases h
  · rename_i c r hd
    rw [hd] at hl
    simp only [List.length_cons] at hl
    split at h
    · split at h
      · split at h
        · cases h; simp only [List.length_cons] at hl; omega
        · cases h; simp only [List.length_cons] at hl ⊢; omega
      · cases h; simp only [List.length_nil] at hl ⊢; omega
    · cases h; omega
theorem linesF_enough : ∀ (n m : Nat) (l : List UInt8), l.length < n → l.length < m → linesF n l = linesF m l := by
  intro n
  induction n with
  | zero => intro m l h; omega
  | succ n ih =>
    intro m l hn hm
    cases m with
    | zero => omega
    | succ m =>
      simp only [linesF]
      cases ha : afterL l with
      | none => rfl
      | some t =>
        have := afterL_len ha
        simp only
        rw [ih m t (by omega) (by omega)]
theorem linesL_eq (l : List UInt8) : linesL l = firstL l :: (match afterL l with | none => [] | some t => linesL t) := by
  show linesF (l.length + 1) l = _
  simp only [linesF]
  cases ha : afterL l with
  | none => rfl
  | some t =>
    have := afterL_len ha
    simp only [linesL]
    rw [linesF_enough l.length (t.length + 1) t (by omega) (by omega)]

/-- A list of bytes none of which ends a line. -/
def plainL (l : List UInt8) : Prop := ∀ c ∈ l, eolB c = false
theorem takeWhile_plain {a : List UInt8} (h : plainL a) (r : List UInt8) : (a ++ r).takeWhile (fun c => !eolB c) = a ++ r.takeWhile (fun c => !eolB c) := by
  induction a with
  | nil => rfl
  | cons c a ih =>
    have hc := h c (by simp)
    rw [List.cons_append, List.takeWhile_cons, hc, List.cons_append]
    simp only [Bool.not_false, if_true]
    rw [ih (fun d hd => h d (by simp [hd]))]
theorem dropWhile_plain {a : List UInt8} (h : plainL a) (r : List UInt8) : (a ++ r).dropWhile (fun c => !eolB c) = r.dropWhile (fun c => !eolB c) := by
  induction a with
  | nil => rfl
  | cons c a ih =>
    have hc := h c (by simp)
    rw [List.cons_append, List.dropWhile_cons, hc]
    simp only [Bool.not_false, if_true]
    exact ih (fun d hd => h d (by simp [hd]))
/-- A text of one line. -/
theorem linesL_one {a : List UInt8} (h : plainL a) : linesL a = [a] := by
  have h1 := takeWhile_plain h []
  have h2 := dropWhile_plain h []
  rw [List.append_nil] at h1 h2
  rw [linesL_eq]
  unfold firstL afterL
  rw [h1, h2]
  simp
/-- A line that ends with a 10. -/
theorem linesL_ten {a r : List UInt8} (h : plainL a) : linesL (a ++ 10 :: r) = a :: linesL r := by
  rw [linesL_eq]
  unfold firstL afterL
  rw [takeWhile_plain h, dropWhile_plain h]
  simp [eolB]
/-- A line that ends with a 13 and a 10. -/
theorem linesL_both {a r : List UInt8} (h : plainL a) : linesL (a ++ 13 :: 10 :: r) = a :: linesL r := by
  rw [linesL_eq]
  unfold firstL afterL
  rw [takeWhile_plain h, dropWhile_plain h]
  simp [eolB]
/-- A line that ends with a 13 alone. -/
theorem linesL_cr {a r : List UInt8} (h : plainL a) (hr : r.head? ≠ some 10) : linesL (a ++ 13 :: r) = a :: linesL r := by
  rw [linesL_eq]
  unfold firstL afterL
  rw [takeWhile_plain h, dropWhile_plain h]
  cases r with
  | nil => simp [eolB]
  | cons d r =>
    have hd : d ≠ 10 := fun e => hr (by rw [e]; rfl)
    simp [eolB, hd]
theorem linesL_ne (l : List UInt8) : linesL l ≠ [] := by rw [linesL_eq]; simp
theorem takeWhile_all (l : List UInt8) : plainL (l.takeWhile fun c => !eolB c) := by
  intro c hc
  have := List.all_takeWhile (p := fun c => !eolB c) (l := l)
  rw [List.all_eq_true] at this
  simpa using this c hc
/-- No line has a line's end. -/
theorem linesL_plain : ∀ (n : Nat) (l : List UInt8), l.length < n → ∀ x ∈ linesL l, plainL x := by
  intro n
  induction n with
  | zero => intro l h; omega
  | succ n ih =>
    intro l hl x hx
    rw [linesL_eq] at hx
    cases ha : afterL l with
    | none =>
      rw [ha] at hx
      simp only [List.mem_cons, List.not_mem_nil, or_false] at hx
      rw [hx]; exact takeWhile_all l
    | some t =>
      rw [ha] at hx
      have := afterL_len ha
      simp only [List.mem_cons] at hx
      rcases hx with hx | hx
      · rw [hx]; exact takeWhile_all l
      · exact ih t (by omega) x hx

/- HOW FAR LINES STAND IN -/
def blankB (c : UInt8) : Bool := c == 9 || c == 32
/-- How many blanks stand at the front. -/
def leadN (l : List UInt8) : Nat := (l.takeWhile blankB).length
/-- Is there anything else? -/
def inkB (l : List UInt8) : Bool := l.any fun c => !blankB c
def stepI (out : Int) (x : List UInt8) : Int := if inkB x = true ∧ (out < 0 ∨ (leadN x : Int) < out) then (leadN x : Int) else out
/-- The least number of blanks ahead of what is said, over all lines but the first; -1 if there is none. -/
def indentL (ls : List (List UInt8)) : Int := (ls.drop 1).foldl stepI (-1)

/- WHAT A BLOCK SAYS -/
def cutL (n : Nat) : List (List UInt8) → List (List UInt8)
  | [] => []
  | x :: t => x :: t.map (List.drop n)
def frontL (ls : List (List UInt8)) : List (List UInt8) := ls.dropWhile fun x => !inkB x
def trimL (ls : List (List UInt8)) : List (List UInt8) := (frontL (frontL ls).reverse).reverse
def joinTen : List (List UInt8) → List UInt8
  | [] => []
  | [x] => x
  | x :: y :: t => x ++ 10 :: joinTen (y :: t)
def shownL (raw : List UInt8) : List (List UInt8) := trimL (cutL (max (indentL (linesL raw)) 0).toNat (linesL raw))
def valueL (raw : List UInt8) : List UInt8 := joinTen (shownL raw)

theorem linesL_join : ∀ (ts : List (List UInt8)), ts ≠ [] → (∀ x ∈ ts, plainL x) → linesL (joinTen ts) = ts := by
  intro ts
  induction ts with
  | nil => intro h; exact absurd rfl h
  | cons x t ih =>
    intro _ h
    cases t with
    | nil => exact linesL_one (h x (by simp))
    | cons y t =>
      show linesL (x ++ 10 :: joinTen (y :: t)) = _
      rw [linesL_ten (h x (by simp)), ih (by simp) (fun z hz => h z (by simp only [List.mem_cons] at hz ⊢; exact .inr hz))]
end Go.Proofs.Ytmamgaifpjgfkaa.Blk
