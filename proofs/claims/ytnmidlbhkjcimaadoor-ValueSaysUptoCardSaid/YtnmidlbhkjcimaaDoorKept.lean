/- A world that still holds the table and, below the law's own start, all that was there; each callee's contract over such worlds. -/
import Derived.Test.YtnmidlbhkjcimaaDoorAwake
namespace Go.Proofs.YtnmidlbhkjcimaaDoor
open Go.RowKit

def Kept (w wx : World) : Prop := TabAt wx ∧ Below w.heap.size w wx
theorem Kept.start {w : World} (ht : TabAt w) : Kept w w := ⟨ht, Below.refl _ _⟩
theorem Kept.next {w wx wy : World} (h : Kept w wx) (hb : Below wx.heap.size wx wy) : Kept w wy := ⟨h.1.below hb h.1.lt, h.2.trans (hb.mono h.2.size)⟩
theorem Kept.alloc {w wx : World} (h : Kept w wx) (o : Obj) : Kept w (wx.alloc o) := h.next ((Below.refl _ _).alloc (Nat.le_refl _) o)
theorem good_k {w wx : World} (K : Kept w wx) (s : ByteArray) (hs : s.size ≤ 9000) : Calls Tryd.prog 24 #[.string s] wx fun e w' => e = .returned (.bool (goodB s.data.toList)) ∧ Kept w w' :=
  (good_any s wx hs K.1).mono fun _ _ ⟨he, hb⟩ => ⟨he, K.next hb⟩
theorem code_k {w wx : World} (K : Kept w wx) (s : ByteArray) (i : Int) (hs : s.size ≤ 9000) : Calls Tryd.prog 58 #[.string s, .int .i64 i] wx fun e w' => e = .returned (.tuple #[.int .i64 (codeAt s i).1, .int .i64 (codeAt s i).2]) ∧ Kept w w' :=
  (code_any s i wx hs K.1).mono fun _ _ ⟨he, hb⟩ => ⟨he, K.next hb⟩
theorem eachP_good {p : Int → Bool} {l : List UInt8} (h : eachP p l = true) : goodB l = true := by
  rw [goodB_iff]
  unfold eachP at h
  cases hc : codes l with
  | none => rw [hc] at h; cases h
  | some cs => rfl
theorem eachP_append {p : Int → Bool} {l t : List UInt8} (h : goodB l = true) : eachP p (l ++ t) = (eachP p l && eachP p t) := by
  rw [goodB_iff] at h
  cases hc : codes l with
  | none => rw [hc] at h; cases h
  | some cs =>
    unfold eachP
    rw [codes_append hc, hc]
    cases codes t with
    | none => simp
    | some ct => simp
theorem cat_bytes (s t : ByteArray) : (s ++ t).data.toList = s.data.toList ++ t.data.toList := by simp
end Go.Proofs.YtnmidlbhkjcimaaDoor
