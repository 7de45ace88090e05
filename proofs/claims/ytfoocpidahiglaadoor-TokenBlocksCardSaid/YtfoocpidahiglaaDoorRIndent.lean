/- The walks of the document's own lead, blank and Indent. They only read. -/
import Derived.Test.YtfoocpidahiglaaDoorRLines
namespace Go.Proofs.YtfoocpidahiglaaDoor.Blk
open Go.RowKit

theorem lead_at {l : List UInt8} {k : Nat} {c : UInt8} (h : (l.take k).all blankB = true) (hc : l[k]? = some c) (hn : blankB c = false) : leadN l = k ∧ inkB l = true := by
  obtain ⟨hk, rfl⟩ := List.getElem?_eq_some_iff.1 hc
  have e : l = l.take k ++ l[k] :: l.drop (k + 1) := by rw [← List.drop_eq_getElem_cons hk, List.take_append_drop]
  have hl : (l.take k).length = k := by rw [List.length_take]; omega
  constructor
  · unfold leadN
    have ht : ∀ (a r : List UInt8) (d : UInt8), a.all blankB = true → blankB d = false → (a ++ d :: r).takeWhile blankB = a := by
      intro a r d ha hd
      induction a with
      | nil => simp [hd]
      | cons x a ih =>
        rw [List.all_cons, Bool.and_eq_true] at ha
        rw [List.cons_append, List.takeWhile_cons, ha.1]
        simp only [if_true]
        rw [ih ha.2]
    rw [e, ht _ _ _ h hn, hl]
  · unfold inkB
    rw [List.any_eq_true]
    exact ⟨l[k], List.getElem_mem hk, by simp [hn]⟩
theorem lead_end {l : List UInt8} (h : l.all blankB = true) : leadN l = l.length ∧ inkB l = false := by
  constructor
  · unfold leadN
    have ht : ∀ (a : List UInt8), a.all blankB = true → a.takeWhile blankB = a := by
      intro a ha
      induction a with
      | nil => rfl
      | cons x a ih =>
        rw [List.all_cons, Bool.and_eq_true] at ha
        rw [List.takeWhile_cons, ha.1]
        simp only [if_true]
        rw [ih ha.2]
    rw [ht l h]
  · unfold inkB
    rw [List.any_eq_false]
    intro c hc
    have := List.all_eq_true.1 h c hc
    simp [this]
theorem leadN_le (l : List UInt8) : leadN l ≤ l.length := by
  unfold leadN
  induction l with
  | nil => simp
  | cons c t ih => rw [List.takeWhile_cons]; split <;> simp <;> omega
theorem blank_more {s : ByteArray} {k : Nat} (hk : k < s.size) (h : (s.data.toList.take k).all blankB = true) (hc : blankB s[k] = true) : (s.data.toList.take (k + 1)).all blankB = true := by
  have hl : s.data.toList.length = s.size := Array.length_toList
  rw [List.take_add_one, List.getElem?_eq_getElem (by omega), List.all_append, h]
  simp only [Option.toList, List.all_cons, List.all_nil, Bool.and_true, Bool.true_and]
  exact hc
theorem ret_lead {a b : Int} {c d : Bool} {w : World} (h1 : a = b) (h2 : c = d) : Ending.returned (.tuple #[.int .i64 a, .bool c]) = .returned (.tuple #[.int .i64 b, .bool d]) ∧ w = w := by subst h1 h2; exact ⟨rfl, rfl⟩

/-- The bytes of each. -/
def bytesL (xs : List ByteArray) : List (List UInt8) := xs.map fun x => x.data.toList
def indTo (xs : List ByteArray) (k : Nat) : Int := (((bytesL xs).drop 1).take (k - 1)).foldl stepI (-1)
theorem indTo_succ {xs : List ByteArray} {k : Nat} {x : ByteArray} (hk : 1 ≤ k) (hx : xs[k]? = some x) : indTo xs (k + 1) = stepI (indTo xs k) x.data.toList := by
  unfold indTo
  rw [show k + 1 - 1 = (k - 1) + 1 from by omega, List.take_add_one, List.getElem?_drop, show 1 + (k - 1) = k from by omega]
  unfold bytesL
  rw [List.getElem?_map, hx]
  simp [List.foldl_append]
theorem indTo_all {xs : List ByteArray} {k : Nat} (hk : xs.length ≤ k) : indTo xs k = indentL (bytesL xs) := by
  unfold indTo indentL
  rw [List.take_of_length_le (by simp [bytesL]; omega)]
theorem indTo_bd (xs : List ByteArray) (hx : ∀ x ∈ xs, x.size ≤ 100000) : ∀ k, -1 ≤ indTo xs k ∧ indTo xs k ≤ 100000 := by
  have hf : ∀ (ls : List (List UInt8)) (o : Int), (∀ l ∈ ls, l.length ≤ 100000) → -1 ≤ o → o ≤ 100000 → -1 ≤ ls.foldl stepI o ∧ ls.foldl stepI o ≤ 100000 := by
    intro ls
    induction ls with
    | nil => intro o _ h1 h2; exact ⟨h1, h2⟩
    | cons l ls ih =>
      intro o hl h1 h2
      rw [List.foldl_cons]
      have := leadN_le l
      have hll := hl l (by simp)
      refine ih _ (fun l' hl' => hl l' (by simp [hl'])) ?_ ?_
      · unfold stepI; split <;> omega
      · unfold stepI; split <;> omega
  intro k
  refine hf _ _ (fun l hl => ?_) (by omega) (by omega)
  have h1 := List.mem_of_mem_take hl
  have h2 := List.mem_of_mem_drop h1
  obtain ⟨x, hx', rfl⟩ := List.mem_map.1 h2
  have := hx x hx'
  rw [Lib.size_eq] at this
  exact this

end Go.Proofs.YtfoocpidahiglaaDoor.Blk
