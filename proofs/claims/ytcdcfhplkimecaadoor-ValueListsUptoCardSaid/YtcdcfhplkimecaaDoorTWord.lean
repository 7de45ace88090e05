/- The walk of token's word. -/
import Derived.Test.YtcdcfhplkimecaaDoorTMark
namespace Go.Proofs.YtcdcfhplkimecaaDoor
open Go.RowKit

def wordTo (l : List UInt8) (k : Nat) : Prop := k = 0 ∨ wordN l = k + ((l.drop k).takeWhile nameU).length
theorem wordTo_start {l : List UInt8} (h : headB letU l = true) : wordTo l 1 := by
  cases l with
  | nil => cases h
  | cons b t =>
    have h' : letU b = true := h
    refine .inr ?_
    simp [wordN, h']
theorem wordTo_none {l : List UInt8} (h : headB letU l = false) : wordN l = 0 := by
  cases l with
  | nil => rfl
  | cons b t =>
    have h' : letU b = false := h
    simp [wordN, h']
theorem wordTo_next {l : List UInt8} {k : Nat} (h : wordTo l k) (hk : k ≠ 0) (hb : headB nameU (l.drop k) = true) : wordTo l (k + 1) := by
  rcases h with h | h
  · exact absurd h hk
  refine .inr ?_
  rw [h, show k + 1 = k + 1 from rfl, ← List.drop_drop]
  cases hl : l.drop k with
  | nil => rw [hl] at hb; cases hb
  | cons b t =>
    rw [hl] at hb
    have hb' : nameU b = true := hb
    rw [List.takeWhile_cons]
    simp [hb']
    omega
theorem wordTo_end {l : List UInt8} {k : Nat} (h : wordTo l k) (hk : k ≠ 0) (hb : headB nameU (l.drop k) = false) : wordN l = k := by
  rcases h with h | h
  · exact absurd h hk
  rw [h]
  cases hl : l.drop k with
  | nil => simp
  | cons b t =>
    rw [hl] at hb
    have hb' : nameU b = false := hb
    rw [List.takeWhile_cons]
    simp [hb']
theorem head_or (l : List UInt8) : headB nameU l = (headB letU l || headB digU l) := by
  cases l <;> rfl
theorem tletter_at (s : ByteArray) (k : Nat) (w : World) : Calls Tryd.prog 84 #[.string (s.extract k s.size)] w fun e w' => e = .returned (.bool (headB letU (s.data.toList.drop k))) ∧ w = w' := by
  have h := tletter_any (s.extract k s.size) w
  rwa [ext_data] at h
theorem tdigit_at (s : ByteArray) (k : Nat) (w : World) : Calls Tryd.prog 83 #[.string (s.extract k s.size)] w fun e w' => e = .returned (.bool (headB digU (s.data.toList.drop k))) ∧ w = w' := by
  have h := tdigit_any (s.extract k s.size) w
  rwa [ext_data] at h
theorem head_lt {s : ByteArray} {k : Nat} {p : UInt8 → Bool} (h : headB p (s.data.toList.drop k) = true) : k < s.size := by
  rcases Nat.lt_or_ge k s.size with h' | h'
  · exact h'
  · rw [drop_all s k h'] at h; cases h

end Go.Proofs.YtcdcfhplkimecaaDoor
