/- Plain facts behind the laws of block: what is shown is made of lines, begins and ends with ink, is no longer than the text; and moving all lines but an empty first one further in changes nothing. -/
import Derived.Test.YtfinboplkjijhaaGreatDoorBMath
namespace Go.Proofs.YtfinboplkjijhaaGreatDoor.Blk

theorem plain_drop {x : List UInt8} (h : plainL x) (n : Nat) : plainL (x.drop n) := fun c hc => h c (List.mem_of_mem_drop hc)
theorem mem_cutL {n : Nat} {ls : List (List UInt8)} {x : List UInt8} (h : x ∈ cutL n ls) : ∃ y ∈ ls, ∃ m, x = y.drop m := by
  cases ls with
  | nil => cases h
  | cons y t =>
    simp only [cutL, List.mem_cons, List.mem_map] at h
    rcases h with rfl | ⟨z, hz, rfl⟩
    · exact ⟨x, by simp, 0, rfl⟩
    · exact ⟨z, by simp [hz], n, rfl⟩
theorem mem_trimL {ls : List (List UInt8)} {x : List UInt8} (h : x ∈ trimL ls) : x ∈ ls := by
  unfold trimL frontL at h
  rw [List.mem_reverse] at h
  have h1 := (List.dropWhile_suffix _).subset h
  rw [List.mem_reverse] at h1
  exact (List.dropWhile_suffix _).subset h1
theorem shown_plain {raw x : List UInt8} (h : x ∈ shownL raw) : plainL x := by
  obtain ⟨y, hy, m, rfl⟩ := mem_cutL (mem_trimL h)
  exact plain_drop (linesL_plain _ raw (Nat.lt_succ_self _) y hy) m
theorem dropWhile_head {α : Type} {p : α → Bool} : ∀ {l t : List α} {x : α}, l.dropWhile p = x :: t → p x = false := by
  intro l
  induction l with
  | nil => intro t x h; cases h
  | cons a l ih =>
    intro t x h
    rw [List.dropWhile_cons] at h
    split at h
    · exact ih h
    · cases h; simp_all
theorem trim_first {ls t : List (List UInt8)} {x : List UInt8} (h : trimL ls = x :: t) : inkB x = true := by
  unfold trimL at h
  -- the trimmed is a prefix of frontL ls
  have hp : (frontL (frontL ls).reverse).reverse <+: frontL ls := by
    have := List.dropWhile_suffix (l := (frontL ls).reverse) (fun x => !inkB x)
    have h2 := List.reverse_prefix.2 this
    rw [List.reverse_reverse] at h2
    exact h2
  rw [h] at hp
  obtain ⟨r, hr⟩ := hp
  have := dropWhile_head (p := fun x => !inkB x) (l := ls) (t := t ++ r) (x := x) hr.symm
  simpa using this
theorem trim_last {ls t : List (List UInt8)} {x : List UInt8} (h : trimL ls = t ++ [x]) : inkB x = true := by
  unfold trimL at h
  have h' : frontL (frontL ls).reverse = x :: t.reverse := by
    have := congrArg List.reverse h
    rw [List.reverse_reverse, List.reverse_append] at this
    exact this
  have := dropWhile_head (p := fun x => !inkB x) (l := (frontL ls).reverse) h'
  simpa using this

/- SIZES -/
def sumL : List (List UInt8) → Nat
  | [] => 0
  | x :: t => x.length + sumL t
theorem joinTen_len : ∀ ls : List (List UInt8), (joinTen ls).length + 1 = sumL ls + ls.length + (if ls = [] then 1 else 0) := by
  intro ls
  induction ls with
  | nil => rfl
  | cons x t ih =>
    cases t with
    | nil => simp [joinTen, sumL]
    | cons y t =>
      rw [if_neg (by simp)] at ih ⊢
      show (x ++ 10 :: joinTen (y :: t)).length + 1 = _
      rw [List.length_append, List.length_cons]
      show _ = x.length + sumL (y :: t) + ((y :: t).length + 1) + 0
      omega
theorem sumL_append (a b : List (List UInt8)) : sumL (a ++ b) = sumL a + sumL b := by
  induction a with
  | nil => simp [sumL]
  | cons x t ih => rw [List.cons_append]; simp only [sumL]; omega
theorem infix_sum {a b : List (List UInt8)} (h : a <:+: b) : sumL a + a.length ≤ sumL b + b.length := by
  obtain ⟨p, q, rfl⟩ := h
  rw [sumL_append, sumL_append, List.length_append, List.length_append]
  omega
theorem trim_infix (ls : List (List UInt8)) : trimL ls <:+: ls := by
  have h1 : trimL ls <+: frontL ls := by
    have := List.dropWhile_suffix (l := (frontL ls).reverse) (fun x => !inkB x)
    have h2 := List.reverse_prefix.2 this
    rw [List.reverse_reverse] at h2
    exact h2
  have h2 : frontL ls <:+ ls := List.dropWhile_suffix _
  exact h1.isInfix.trans h2.isInfix
theorem cut_sum (n : Nat) (ls : List (List UInt8)) : sumL (cutL n ls) ≤ sumL ls ∧ (cutL n ls).length = ls.length := by
  cases ls with
  | nil => exact ⟨Nat.le_refl _, rfl⟩
  | cons x t =>
    simp only [cutL, sumL, List.length_cons, List.length_map, and_true]
    have : sumL (t.map (List.drop n)) ≤ sumL t := by
      induction t with
      | nil => exact Nat.le_refl _
      | cons y t ih => simp only [List.map_cons, sumL, List.length_drop]; omega
    omega
theorem after_len {l t : List UInt8} (h : afterL l = some t) : (firstL l).length + 1 + t.length ≤ l.length := by
  have e : (firstL l).length + (l.dropWhile fun c => !eolB c).length = l.length := by
    unfold firstL
    rw [← List.length_append, List.takeWhile_append_dropWhile]
  have : t.length < (l.dropWhile fun c => !eolB c).length := by
    unfold afterL at h
    generalize l.dropWhile (fun c => !eolB c) = r at *
    split at h
    · cases h
    · split at h
      · split at h
        · split at h
          · cases h; simp only [List.length_cons]; omega
          · cases h; simp only [List.length_cons]; omega
        · cases h; simp
      · cases h; simp
  omega
theorem lines_sum : ∀ (n : Nat) (l : List UInt8), l.length < n → sumL (linesL l) + (linesL l).length ≤ l.length + 1 := by
  intro n
  induction n with
  | zero => intro l h; omega
  | succ n ih =>
    intro l hl
    have hf : (firstL l).length ≤ l.length := by
      unfold firstL
      have e : (l.takeWhile fun c => !eolB c).length + (l.dropWhile fun c => !eolB c).length = l.length := by rw [← List.length_append, List.takeWhile_append_dropWhile]
      omega
    rw [linesL_eq]
    cases ha : afterL l with
    | none => simp only [sumL, List.length_cons, List.length_nil]; omega
    | some t =>
      have hr := after_len ha
      have := ih t (by omega)
      simp only [sumL, List.length_cons]
      omega
theorem value_len (raw : List UInt8) : (valueL raw).length ≤ raw.length := by
  have h1 := lines_sum _ raw (Nat.lt_succ_self _)
  have h2 := cut_sum (max (indentL (linesL raw)) 0).toNat (linesL raw)
  have h3 := infix_sum (trim_infix (cutL (max (indentL (linesL raw)) 0).toNat (linesL raw)))
  have h4 := joinTen_len (shownL raw)
  unfold valueL
  by_cases hs : shownL raw = []
  · rw [hs]; simp [joinTen]
  · rw [if_neg hs] at h4
    have h3' : sumL (shownL raw) + (shownL raw).length ≤ sumL (cutL (max (indentL (linesL raw)) 0).toNat (linesL raw)) + (cutL (max (indentL (linesL raw)) 0).toNat (linesL raw)).length := h3
    omega

/- CLEAN -/
theorem join_plain13 : ∀ ls : List (List UInt8), (∀ x ∈ ls, plainL x) → ∀ c ∈ joinTen ls, c ≠ 13 := by
  intro ls
  induction ls with
  | nil => intro _ c hc; cases hc
  | cons x t ih =>
    intro h c hc
    have hx : ∀ c ∈ x, c ≠ 13 := fun c hc e => by
      have := h x (by simp) c hc
      rw [e] at this; cases this
    cases t with
    | nil => exact hx c hc
    | cons y t =>
      have hc' : c ∈ x ++ 10 :: joinTen (y :: t) := hc
      rw [List.mem_append, List.mem_cons] at hc'
      rcases hc' with hc' | rfl | hc'
      · exact hx c hc'
      · decide
      · exact ih (fun z hz => h z (by simp only [List.mem_cons] at hz ⊢; exact .inr hz)) c hc'
theorem value_no13 (raw : List UInt8) : ∀ c ∈ valueL raw, c ≠ 13 := join_plain13 _ fun _ h => shown_plain h
/-- Either nothing is said, or the lines of what is said begin and end with ink. -/
theorem value_ends (raw : List UInt8) : valueL raw = [] ∨ ∃ x y, (linesL (valueL raw))[0]? = some x ∧ (linesL (valueL raw)).getLast? = some y ∧ inkB x = true ∧ inkB y = true := by
  by_cases hs : shownL raw = []
  · left; unfold valueL; rw [hs]; rfl
  · right
    have e : linesL (valueL raw) = shownL raw := linesL_join _ hs fun _ h => shown_plain h
    rw [e]
    obtain ⟨x, t, hx⟩ := List.exists_cons_of_ne_nil hs
    refine ⟨x, (shownL raw).getLast hs, by rw [hx]; rfl, List.getLast?_eq_some_getLast hs, trim_first hx, ?_⟩
    exact trim_last (List.dropLast_concat_getLast hs).symm

/- SHIFTS -/
def gapL (n : Nat) : List UInt8 := List.replicate n 32
/-- All lines, each with an end ahead of it. -/
def stackL : List (List UInt8) → List UInt8
  | [] => []
  | x :: t => 10 :: x ++ stackL t
theorem stack_snoc (ls : List (List UInt8)) (x : List UInt8) : stackL (ls ++ [x]) = stackL ls ++ 10 :: x := by
  induction ls with
  | nil => simp [stackL]
  | cons y t ih => rw [List.cons_append]; simp only [stackL]; rw [ih]; simp
theorem stack_join : ∀ ls : List (List UInt8), stackL ls = joinTen ([] :: ls) := by
  intro ls
  induction ls with
  | nil => rfl
  | cons x t ih =>
    show _ = [] ++ 10 :: joinTen (x :: t)
    rw [List.nil_append]
    simp only [stackL]
    rw [ih]
    cases t with
    | nil => simp [joinTen]
    | cons y t => rfl
theorem stack_lines {ls : List (List UInt8)} (h : ∀ x ∈ ls, plainL x) : linesL (stackL ls) = [] :: ls := by
  rw [stack_join]
  refine linesL_join _ (by simp) fun x hx => ?_
  simp only [List.mem_cons] at hx
  rcases hx with rfl | hx
  · intro c hc; cases hc
  · exact h x hx
theorem gap_plain (n : Nat) : plainL (gapL n) := fun c hc => by rw [List.eq_of_mem_replicate hc]; rfl
theorem plain_append {a b : List UInt8} (ha : plainL a) (hb : plainL b) : plainL (a ++ b) := fun c hc => by
  rcases List.mem_append.1 hc with h | h
  · exact ha c h
  · exact hb c h
theorem gap_ink (n : Nat) (x : List UInt8) : inkB (gapL n ++ x) = inkB x := by
  unfold inkB gapL
  rw [List.any_append]
  have : (List.replicate n (32 : UInt8)).any (fun c => !blankB c) = false := by
    rw [List.any_eq_false]
    intro c hc
    rw [List.eq_of_mem_replicate hc]; decide
  rw [this, Bool.false_or]
theorem gap_lead (n : Nat) (x : List UInt8) : leadN (gapL n ++ x) = n + leadN x := by
  unfold leadN gapL
  induction n with
  | zero => simp
  | succ n ih =>
    rw [List.replicate_succ, List.cons_append, List.takeWhile_cons]
    have : blankB 32 = true := by decide
    rw [this]
    simp only [if_true, List.length_cons]
    omega
def upI (n : Nat) (v : Int) : Int := if v < 0 then v else v + n
theorem step_gap (n : Nat) (v : Int) (x : List UInt8) : stepI (upI n v) (gapL n ++ x) = upI n (stepI v x) := by
  unfold stepI upI
  rw [gap_ink, gap_lead]
  by_cases hi : inkB x = true
  · simp only [hi, true_and]
    by_cases hv : v < 0
    · simp only [hv, if_true, true_or]
      rw [if_neg (by omega)]
      omega
    · simp only [hv, if_false, false_or]
      by_cases hl : (leadN x : Int) < v
      · rw [if_pos (by omega), if_pos hl, if_neg (by omega)]; omega
      · rw [if_neg (by omega), if_neg hl, if_neg hv]
  · simp only [hi, false_and, if_false, Bool.false_eq_true]
theorem fold_gap (n : Nat) : ∀ (ls : List (List UInt8)) (v : Int), (ls.map (gapL n ++ ·)).foldl stepI (upI n v) = upI n (ls.foldl stepI v) := by
  intro ls
  induction ls with
  | nil => intro v; rfl
  | cons x t ih => intro v; rw [List.map_cons, List.foldl_cons, step_gap, ih, List.foldl_cons]
theorem fold_blank : ∀ (ls : List (List UInt8)) (v : Int), -1 ≤ v → ls.foldl stepI v < 0 → v < 0 ∧ ∀ x ∈ ls, inkB x = false := by
  intro ls
  induction ls with
  | nil => intro v _ h; exact ⟨h, fun x hx => by cases hx⟩
  | cons x t ih =>
    intro v hv h
    rw [List.foldl_cons] at h
    have h1 : -1 ≤ stepI v x := by unfold stepI; split <;> omega
    obtain ⟨a, b⟩ := ih _ h1 h
    have : inkB x = false ∧ v < 0 := by
      unfold stepI at a
      cases hx : inkB x
      · refine ⟨rfl, ?_⟩
        rw [hx] at a
        simpa using a
      · rw [hx] at a
        split at a
        · omega
        · rename_i hn
          simp only [true_and, not_or] at hn
          omega
    refine ⟨this.2, fun y hy => ?_⟩
    simp only [List.mem_cons] at hy
    rcases hy with rfl | hy
    · exact this.1
    · exact b y hy
theorem trim_none {ls : List (List UInt8)} (h : ∀ x ∈ ls, inkB x = false) : trimL ls = [] := by
  have : frontL ls = [] := by
    unfold frontL
    have hall : (ls.all fun x => !inkB x) = true := by
      rw [List.all_eq_true]
      intro x hx
      rw [h x hx]; rfl
    clear h
    induction ls with
    | nil => rfl
    | cons x t ih =>
      rw [List.all_cons, Bool.and_eq_true] at hall
      rw [List.dropWhile_cons, hall.1]
      simp only [if_true]
      exact ih hall.2
  unfold trimL
  rw [this]
  rfl
theorem ink_drop {x : List UInt8} (n : Nat) (h : inkB x = false) : inkB (x.drop n) = false := by
  unfold inkB at *
  rw [List.any_eq_false] at *
  exact fun c hc => h c (List.mem_of_mem_drop hc)
theorem shifts (ls : List (List UInt8)) (n : Nat) (h : ∀ x ∈ ls, plainL x) : valueL (stackL (ls.map (gapL n ++ ·))) = valueL (stackL ls) := by
  have h2 : ∀ x ∈ ls.map (gapL n ++ ·), plainL x := by
    intro x hx
    obtain ⟨y, hy, rfl⟩ := List.mem_map.1 hx
    exact plain_append (gap_plain n) (h y hy)
  unfold valueL shownL
  rw [stack_lines h, stack_lines h2]
  have e1 : indentL ([] :: ls) = ls.foldl stepI (-1) := rfl
  have e2 : indentL ([] :: ls.map (gapL n ++ ·)) = upI n (ls.foldl stepI (-1)) := by
    show (ls.map (gapL n ++ ·)).foldl stepI (-1) = _
    rw [← fold_gap]
    rfl
  rw [e1, e2]
  generalize hv : ls.foldl stepI (-1) = v
  by_cases hneg : v < 0
  · have hb := (fold_blank ls (-1) (by omega) (by omega)).2
    have hl : ∀ m, trimL (cutL m ([] :: ls)) = [] := fun m => trim_none fun x hx => by
      simp only [cutL, List.mem_cons, List.mem_map] at hx
      rcases hx with rfl | ⟨y, hy, rfl⟩
      · rfl
      · exact ink_drop m (hb y hy)
    have hr : ∀ m, trimL (cutL m ([] :: ls.map (gapL n ++ ·))) = [] := fun m => trim_none fun x hx => by
      simp only [cutL, List.mem_cons, List.mem_map] at hx
      rcases hx with rfl | ⟨y, ⟨z, hz, rfl⟩, rfl⟩
      · rfl
      · exact ink_drop m (by rw [gap_ink]; exact hb z hz)
    rw [hl, hr]
  · have e3 : (max (upI n v) 0).toNat = n + (max v 0).toNat := by unfold upI; rw [if_neg hneg]; omega
    rw [e3]
    have : cutL (n + (max v 0).toNat) ([] :: ls.map (gapL n ++ ·)) = cutL (max v 0).toNat ([] :: ls) := by
      simp only [cutL, List.map_map]
      congr 1
      apply List.map_congr_left
      intro x _
      show (gapL n ++ x).drop (n + (max v 0).toNat) = x.drop (max v 0).toNat
      rw [← List.drop_drop]
      congr 1
      unfold gapL
      rw [List.drop_append_of_le_length (by simp)]
      simp
    rw [this]
end Go.Proofs.YtfinboplkjijhaaGreatDoor.Blk
