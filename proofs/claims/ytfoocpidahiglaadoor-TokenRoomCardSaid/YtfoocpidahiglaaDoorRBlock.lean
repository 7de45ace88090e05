/- The walk of the document's own Block. -/
import Derived.Test.YtfoocpidahiglaaDoorRIndent
import Derived.StillTailTactics
import Derived.Deep.DeepCutAuto
import Derived.Deep.CutBlock
namespace Go.Proofs.YtfoocpidahiglaaDoor.Blk
open Go.RowKit

theorem linesB_bytes (l : List UInt8) : bytesL (linesB l) = linesL l := by
  unfold bytesL linesB
  rw [List.map_map]
  have : ((fun x : ByteArray => x.data.toList) ∘ fun x : List UInt8 => (⟨x.toArray⟩ : ByteArray)) = id := by funext x; simp
  rw [this, List.map_id]
theorem strs_some {w : World} {base n : Nat} {A : Option Addr} {cap : Nat} {xs : List Value} (h : w.ownsRow base 9 1 (.slice A n cap) n xs) (hn : 0 < n) : ∃ g, A = some ⟨g, 0, none⟩ ∧ base ≤ g ∧ g < w.heap.size ∧ n ≤ cap := by
  rcases h.2 with ⟨_, h0⟩ | ⟨g, c, cur, hv, hb, _, hnc, _⟩
  · omega
  · have hv' := hv
    injection hv' with h1 h2 h3
    subst h1
    exact ⟨g, rfl, hb, (h.lt g rfl).2, by omega⟩
theorem after_room {l t : List UInt8} (h : afterL l = some t) : (firstL l).length + 1 + t.length ≤ l.length := by
  have e : (firstL l).length + (l.dropWhile fun c => !eolB c).length = l.length := by
    unfold firstL
    rw [← List.length_append, List.takeWhile_append_dropWhile]
  have : t.length < (l.dropWhile fun c => !eolB c).length := by
    unfold afterL at h
    generalize l.dropWhile (fun c => !eolB c) = r at *
    split at h
    · cases h
    · split at h
      · split at h
        · split at h
          · cases h; simp only [List.length_cons]; omega
          · cases h; simp only [List.length_cons]; omega
        · cases h; simp
      · cases h; simp
  omega
theorem lines_room : ∀ (n : Nat) (l : List UInt8), l.length < n → (linesL l).length ≤ l.length + 1 ∧ (∀ x ∈ linesL l, x.length ≤ l.length) ∧ (joinTen (linesL l)).length ≤ l.length := by
  intro n
  induction n with
  | zero => intro l h; omega
  | succ n ih =>
    intro l hl
    have hf : (firstL l).length ≤ l.length := by
      unfold firstL
      have e : (l.takeWhile fun c => !eolB c).length + (l.dropWhile fun c => !eolB c).length = l.length := by rw [← List.length_append, List.takeWhile_append_dropWhile]
      omega
    rw [linesL_eq]
    cases ha : afterL l with
    | none =>
      refine ⟨by simp, fun x hx => ?_, by simpa [joinTen] using hf⟩
      simp only [List.mem_cons, List.not_mem_nil, or_false] at hx
      rw [hx]; exact hf
    | some t =>
      have hr := after_room ha
      obtain ⟨h1, h2, h3⟩ := ih t (by omega)
      refine ⟨by simp only [List.length_cons]; omega, fun x hx => ?_, ?_⟩
      · simp only [List.mem_cons] at hx
        rcases hx with hx | hx
        · rw [hx]; exact hf
        · have := h2 x hx; omega
      · show (joinTen (firstL l :: linesL t)).length ≤ _
        cases hlt : linesL t with
        | nil => exact absurd hlt (linesL_ne t)
        | cons y r =>
          rw [hlt] at h3
          show (firstL l ++ 10 :: joinTen (y :: r)).length ≤ _
          rw [List.length_append, List.length_cons]
          omega
/-- A line without its first m bytes. -/
def cutS (m : Nat) (x : ByteArray) : ByteArray := x.extract (min m x.size) x.size
/-- The lines, each but the first without its first m bytes, as far as k. -/
def cutB (m k : Nat) (xs : List ByteArray) : List ByteArray := xs.mapIdx fun i x => if 1 ≤ i ∧ i < k then cutS m x else x
theorem cutB_get {m k j : Nat} {xs : List ByteArray} : (cutB m k xs)[j]? = (xs[j]?).map fun x => if 1 ≤ j ∧ j < k then cutS m x else x := by
  unfold cutB; rw [List.getElem?_mapIdx]
theorem cutB_start (m : Nat) (xs : List ByteArray) : cutB m 1 xs = xs := by
  apply List.ext_getElem?
  intro j
  rw [cutB_get]
  cases xs[j]? with
  | none => rfl
  | some x => simp only [Option.map_some]; rw [if_neg (by omega)]
theorem cutB_set {m k : Nat} {xs : List ByteArray} {x : ByteArray} (hk : 1 ≤ k) (hx : xs[k]? = some x) : (cutB m k xs).set k (cutS m x) = cutB m (k + 1) xs := by
  apply List.ext_getElem?
  intro j
  rw [List.getElem?_set, cutB_get, cutB_get]
  by_cases hj : k = j
  · subst hj
    rw [if_pos rfl, hx]
    have : k < (cutB m k xs).length := by
      have := (List.getElem?_eq_some_iff.1 hx).1
      unfold cutB; rw [List.length_mapIdx]; exact this
    rw [if_pos this]
    simp only [Option.map_some]
    rw [if_pos ⟨hk, by omega⟩]
  · rw [if_neg hj]
    cases xs[j]? with
    | none => rfl
    | some y =>
      simp only [Option.map_some]
      by_cases h : 1 ≤ j ∧ j < k
      · rw [if_pos h, if_pos ⟨h.1, by omega⟩]
      · rw [if_neg h, if_neg (by omega)]
theorem cutB_length (m k : Nat) (xs : List ByteArray) : (cutB m k xs).length = xs.length := by unfold cutB; simp
theorem cutS_bytes (m : Nat) (x : ByteArray) : (cutS m x).data.toList = x.data.toList.drop m := by
  unfold cutS
  rw [extract_list, List.take_of_length_le (by rw [List.length_drop, ← Lib.size_eq]; omega)]
  by_cases h : m ≤ x.size
  · rw [Nat.min_eq_left h]
  · rw [Nat.min_eq_right (by omega), List.drop_eq_nil_of_le (by rw [← Lib.size_eq]; omega), List.drop_eq_nil_of_le (by rw [← Lib.size_eq]; omega)]
theorem cutB_bytes (m : Nat) (xs : List ByteArray) : bytesL (cutB m xs.length xs) = cutL m (bytesL xs) := by
  apply List.ext_getElem?
  intro j
  unfold bytesL
  rw [List.getElem?_map, cutB_get]
  cases xs with
  | nil => simp [cutL]
  | cons y t =>
    cases j with
    | zero => simp [cutL]
    | succ j =>
      simp only [List.getElem?_cons_succ, List.map_cons, cutL, List.map_map, List.getElem?_map, List.length_cons, Option.map_map]
      cases h : t[j]? with
      | none => rfl
      | some z =>
        have := (List.getElem?_eq_some_iff.1 h).1
        simp only [Option.map_some, Function.comp]
        rw [if_pos (by omega), cutS_bytes]

theorem strs_of_own' {w : World} {base n : Nat} {A : Option Addr} {cap : Nat} {xs : List ByteArray} (h : w.ownsRow base 9 1 (.slice A n cap) n (xs.map Value.string)) : StrsAt w w.heap.size A n xs := by
  have hl : xs.length = n := by have := h.1; rw [List.length_map] at this; omega
  subst hl
  exact (strs_of_own h).2
theorem dropWhile_all (p : List UInt8 → Bool) : ∀ (a r : List (List UInt8)), a.all p = true → (a ++ r).dropWhile p = r.dropWhile p := by
  intro a r h
  induction a with
  | nil => rfl
  | cons x a ih =>
    rw [List.all_cons, Bool.and_eq_true] at h
    rw [List.cons_append, List.dropWhile_cons, h.1]
    simp only [if_true]
    exact ih h.2
theorem front_end {ls : List (List UInt8)} {f : Nat} (h : (ls.take f).all (fun l => !inkB l) = true) : ls.length ≤ f → frontL ls = [] := by
  intro hf
  rw [List.take_of_length_le hf] at h
  have := dropWhile_all (fun l => !inkB l) ls [] h
  rw [List.append_nil] at this
  exact this
theorem front_stop {ls : List (List UInt8)} {f : Nat} {x : List UInt8} (h : (ls.take f).all (fun l => !inkB l) = true) (hx : ls[f]? = some x) (hi : inkB x = true) : frontL ls = ls.drop f := by
  obtain ⟨hf, rfl⟩ := List.getElem?_eq_some_iff.1 hx
  unfold frontL
  conv => lhs; rw [← List.take_append_drop f ls]
  rw [dropWhile_all _ _ _ h, List.drop_eq_getElem_cons hf, List.dropWhile_cons]
  simp [hi]
theorem blank_next {ls : List (List UInt8)} {f : Nat} {x : List UInt8} (h : (ls.take f).all (fun l => !inkB l) = true) (hx : ls[f]? = some x) (hi : inkB x = false) : (ls.take (f + 1)).all (fun l => !inkB l) = true := by
  rw [List.take_add_one, hx, List.all_append, h]
  simp [hi]
theorem blank_back {ls : List (List UInt8)} {u : Nat} {x : List UInt8} (h : (ls.drop (u + 1)).all (fun l => !inkB l) = true) (hx : ls[u]? = some x) (hi : inkB x = false) : (ls.drop u).all (fun l => !inkB l) = true := by
  obtain ⟨hf, rfl⟩ := List.getElem?_eq_some_iff.1 hx
  rw [List.drop_eq_getElem_cons hf, List.all_cons, h]
  simp [hi]
theorem back_of {ls a b : List (List UInt8)} {f : Nat} (hF : frontL ls = ls.drop f) (he : ls.drop f = a ++ b) (hb : b.all (fun l => !inkB l) = true) (ha : a.reverse.dropWhile (fun l => !inkB l) = a.reverse) : trimL ls = a := by
  unfold trimL
  rw [hF, he, List.reverse_append]
  unfold frontL
  rw [dropWhile_all _ _ _ (by rw [List.all_reverse]; exact hb), ha, List.reverse_reverse]
theorem back_end {ls : List (List UInt8)} {f : Nat} (hF : frontL ls = ls.drop f) (h : (ls.drop f).all (fun l => !inkB l) = true) : trimL ls = (ls.drop f).take (f - f) := by
  rw [back_of (a := []) hF rfl h rfl]; simp
theorem back_stop {ls : List (List UInt8)} {f u : Nat} {x : List UInt8} (hF : frontL ls = ls.drop f) (hf : f ≤ u) (h : (ls.drop (u + 1)).all (fun l => !inkB l) = true) (hx : ls[u]? = some x) (hi : inkB x = true) : trimL ls = (ls.drop f).take (u + 1 - f) := by
  obtain ⟨hu, rfl⟩ := List.getElem?_eq_some_iff.1 hx
  refine back_of (b := ls.drop (u + 1)) hF ?_ h ?_
  · have := (List.take_append_drop (u + 1 - f) (ls.drop f)).symm
    rw [List.drop_drop, show f + (u + 1 - f) = u + 1 from by omega] at this
    exact this
  · rw [show u + 1 - f = (u - f) + 1 from by omega, List.take_add_one, List.getElem?_drop, show f + (u - f) = u from by omega, List.getElem?_eq_getElem hu]
    simp [hi]
theorem join_snoc : ∀ (ts : List (List UInt8)) (x : List UInt8), ts ≠ [] → joinTen (ts ++ [x]) = joinTen ts ++ 10 :: x := by
  intro ts
  induction ts with
  | nil => intro x h; exact absurd rfl h
  | cons y t ih =>
    intro x _
    cases t with
    | nil => rfl
    | cons z t =>
      show y ++ 10 :: joinTen (z :: t ++ [x]) = (y ++ 10 :: joinTen (z :: t)) ++ 10 :: x
      rw [ih x (by simp)]
      simp

end Go.Proofs.YtfoocpidahiglaaDoor.Blk
