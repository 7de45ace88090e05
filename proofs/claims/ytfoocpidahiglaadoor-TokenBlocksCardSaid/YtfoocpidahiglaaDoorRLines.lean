/- The walk of the document's own Lines: new memory that reads as the lines of the text. -/
import Derived.Test.YtfoocpidahiglaaDoorStrs
namespace Go.Proofs.YtfoocpidahiglaaDoor.Blk
open Go.RowKit

def linesB (l : List UInt8) : List ByteArray := (linesL l).map fun x => ⟨x.toArray⟩
theorem ne_lit {b c : UInt8} (h : b ≠ c) : (b.toNat : Int) ≠ (c.toNat : Int) := fun e => h (UInt8.toNat_inj.1 (by omega))
theorem beq_ne {b : UInt8} {z : Int} (h : (b.toNat : Int) ≠ z) : ((b.toNat : Int) == z) = false := by simp [h]
theorem bne_ne {b : UInt8} {z : Int} (h : (b.toNat : Int) ≠ z) : ((b.toNat : Int) != z) = true := by simp [h]
theorem drop_at (s : ByteArray) (f k : Nat) (hf : f ≤ k) (hk : k < s.size) : s.data.toList.drop f = (s.data.toList.drop f).take (k - f) ++ s[k] :: s.data.toList.drop (k + 1) := by
  have hl : s.data.toList.length = s.size := Array.length_toList
  have e := (List.take_append_drop (k - f) (s.data.toList.drop f)).symm
  rw [List.drop_drop, show f + (k - f) = k from by omega, List.drop_eq_getElem_cons (i := k) (by omega)] at e
  exact e
theorem plain_more {s : ByteArray} {f k : Nat} (hf : f ≤ k) (hk : k < s.size) (h : plainL ((s.data.toList.drop f).take (k - f))) (hc : eolB s[k] = false) : plainL ((s.data.toList.drop f).take (k + 1 - f)) := by
  have hl : s.data.toList.length = s.size := Array.length_toList
  have e : (s.data.toList.drop f).take (k + 1 - f) = (s.data.toList.drop f).take (k - f) ++ [s[k]] := by
    rw [show k + 1 - f = (k - f) + 1 from by omega, List.take_add_one, List.getElem?_drop, show f + (k - f) = k from by omega, List.getElem?_eq_getElem (by omega)]
    rfl
  rw [e]
  intro c hc'
  rw [List.mem_append] at hc'
  rcases hc' with h' | h'
  · exact h c h'
  · simp only [List.mem_cons, List.not_mem_nil, or_false] at h'
    rw [h']; exact hc
/-- So far these lines; the rest from f on is still to come, and no line's end stands between f and k. -/
def LinesTo (s : ByteArray) (f k : Nat) (done : List ByteArray) : Prop := done ++ linesB (s.data.toList.drop f) = linesB s.data.toList ∧ plainL ((s.data.toList.drop f).take (k - f))
theorem mk_of {S : ByteArray} {a : List UInt8} (h : S.data.toList = a) : (⟨a.toArray⟩ : ByteArray) = S := by subst h; simp
theorem extract_list (s : ByteArray) (f k : Nat) : (s.extract f k).data.toList = (s.data.toList.drop f).take (k - f) := by
  rw [ByteArray.data_extract, Array.toList_extract, List.extract]
theorem LinesTo.ten {s : ByteArray} {f k : Nat} {done : List ByteArray} (h : LinesTo s f k done) (hf : f ≤ k) (hk : k < s.size) (hc : s[k] = 10) : LinesTo s (k + 1) (k + 1) (done ++ [s.extract f k]) := by
  obtain ⟨h1, h2⟩ := h
  rw [drop_at s f k hf hk, hc] at h1
  unfold linesB at h1
  rw [linesL_ten h2, List.map_cons, mk_of (extract_list s f k)] at h1
  exact ⟨by unfold linesB; rw [← h1]; simp, by simp [plainL]⟩
theorem LinesTo.both {s : ByteArray} {f k : Nat} {done : List ByteArray} (h : LinesTo s f k done) (hf : f ≤ k) (hk : k + 1 < s.size) (hc : s[k] = 13) (hd : s[k + 1] = 10) : LinesTo s (k + 2) (k + 2) (done ++ [s.extract f k]) := by
  obtain ⟨h1, h2⟩ := h
  have hl : s.data.toList.length = s.size := Array.length_toList
  have e : s.data.toList.drop (k + 1) = s[k + 1] :: s.data.toList.drop (k + 2) := List.drop_eq_getElem_cons (by omega)
  rw [drop_at s f k hf (by omega), hc, e, hd] at h1
  unfold linesB at h1
  rw [linesL_both h2, List.map_cons, mk_of (extract_list s f k)] at h1
  exact ⟨by unfold linesB; rw [← h1]; simp, by simp [plainL]⟩
theorem LinesTo.cr {s : ByteArray} {f k : Nat} {done : List ByteArray} (h : LinesTo s f k done) (hf : f ≤ k) (hk : k < s.size) (hc : s[k] = 13) (hd : ∀ (h : k + 1 < s.size), s[k + 1] ≠ 10) : LinesTo s (k + 1) (k + 1) (done ++ [s.extract f k]) := by
  obtain ⟨h1, h2⟩ := h
  have hl : s.data.toList.length = s.size := Array.length_toList
  have hr : (s.data.toList.drop (k + 1)).head? ≠ some 10 := by
    rw [List.head?_drop]
    by_cases hk1 : k + 1 < s.size
    · rw [List.getElem?_eq_getElem (by omega)]
      intro e
      injection e with e
      exact hd hk1 e
    · rw [List.getElem?_eq_none (by omega)]
      intro e; cases e
  rw [drop_at s f k hf hk, hc] at h1
  unfold linesB at h1
  rw [linesL_cr h2 hr, List.map_cons, mk_of (extract_list s f k)] at h1
  exact ⟨by unfold linesB; rw [← h1]; simp, by simp [plainL]⟩
theorem LinesTo.done {s : ByteArray} {f : Nat} {done : List ByteArray} (h : LinesTo s f s.size done) : linesB s.data.toList = done ++ [s.extract f s.size] := by
  obtain ⟨h1, h2⟩ := h
  have hl : s.data.toList.length = s.size := Array.length_toList
  rw [List.take_of_length_le (by rw [List.length_drop]; omega)] at h2
  rw [← h1]
  unfold linesB
  rw [linesL_one h2]
  have := mk_of (extract_list s f s.size)
  rw [List.take_of_length_le (by rw [List.length_drop]; omega)] at this
  simp [this]

theorem info_str : ∃ i0, Tryd.prog.info? 9 = some i0 ∧ i0.zero = some (.string ByteArray.empty) ∧ i0.size = 1 ∧ i0.bytes = 16 := by
  have hi9 : (Tryd.prog.info? 9).map (fun i => (i.zero, i.size, i.bytes)) = some (some (.string ByteArray.empty), 1, 16) := by kernel_rfl
  obtain ⟨i0, hi, hx⟩ := Option.map_eq_some_iff.1 hi9
  simp only [Prod.mk.injEq] at hx
  exact ⟨i0, hi, hx.1, hx.2.1, hx.2.2⟩

end Go.Proofs.YtfoocpidahiglaaDoor.Blk
