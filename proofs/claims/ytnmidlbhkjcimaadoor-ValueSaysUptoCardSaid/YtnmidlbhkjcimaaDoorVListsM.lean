/- What the laws ValueLists and ValueSays lean on: a plain value is good; the first of a list; a box that stands. -/
import Derived.Test.YtnmidlbhkjcimaaDoorVTexts
import Derived.Test.YtnmidlbhkjcimaaDoorVBox
import Derived.Test.YtnmidlbhkjcimaaDoorVPair
import Derived.Test.YtnmidlbhkjcimaaDoorVSameT
import Derived.Test.YtnmidlbhkjcimaaDoorZLet
namespace Go.Proofs.YtnmidlbhkjcimaaDoor
open Go.RowKit

theorem good_tail : ∀ l : List UInt8, tailB l = true → goodB l = true
  | [], _ => rfl
  | b :: t, h => by
    have h' : (letB (b.toNat : Int) || digB (b.toNat : Int)) = true ∧ tailB t = true := by simpa [tailB] using h
    have hb : b.toNat < 128 := by
      have := h'.1
      rw [Bool.or_eq_true] at this
      rcases this with h | h
      · have := of_decide_eq_true h; omega
      · have := of_decide_eq_true h; omega
    have hd := dec_ascii t hb
    unfold goodB
    rw [eachP_step (by simp) (by rw [hd]; simp), hd]
    have := good_tail t h'.2
    unfold goodB at this
    simpa using this
theorem good_name (l : List UInt8) (h : nameB l = true) : goodB l = true := good_tail l (tailB_of_nameB h)
theorem plain_good {v : VT} (h : plainB v = true) : fitV goodB v = true := by
  unfold plainB at h
  rw [Bool.and_eq_true, fit_two good_name v, Bool.and_eq_true] at h
  exact h.1.1
def fitTo : VL → Nat → Bool
  | _, 0 => true
  | .nil, _ + 1 => true
  | .cons v t, j + 1 => fitV goodB v && fitTo t j
theorem fitTo_zero (l : VL) : fitTo l 0 = true := by cases l <;> rfl
theorem fitTo_next : ∀ {l : VL} {j : Nat} {v : VT}, l.get j = some v → fitTo l (j + 1) = (fitTo l j && fitV goodB v)
  | .nil, _, _, h => by simp [VL.get] at h
  | .cons u t, 0, v, h => by
    have : u = v := by simpa [VL.get] using h
    subst this
    show (fitV goodB u && fitTo t 0) = (true && fitV goodB u)
    rw [fitTo_zero]; simp
  | .cons u t, j + 1, v, h => by
    rw [fitTo, fitTo_next (l := t) (j := j) (v := v) h, fitTo, Bool.and_assoc]
theorem fitTo_all : ∀ l : VL, fitTo l l.len = fitL goodB l
  | .nil => rfl
  | .cons v t => by rw [VL.len, fitTo, fitTo_all t, fitL]
def listT (l : VL) : VT := .mk 6 0 ⟨#[]⟩ l .nil
theorem list_good (l : VL) : fitV goodB (listT l) = fitL goodB l := by
  unfold listT
  rw [fitV, fitM]
  have : soundB 6 0 (⟨#[]⟩ : ByteArray).data.toList l.len VM.nil.len = true := rfl
  rw [this]; simp
theorem list_dep (l : VL) : depV (listT l) = depL l + 1 := by
  have := dep_kids 6 0 ⟨#[]⟩ l .nil (.inl rfl)
  rw [kids_list] at this
  unfold listT
  omega
theorem list_vars (l : VL) : varsV (listT l) [] = (allL l).foldl addN [] := by
  unfold varsV listT
  rw [all_kids, kids_list]
  rfl
theorem vars_len (v : VT) : (varsV v []).length ≤ sizeV v := by
  have := adds_len (allV v) []
  have := all_len v
  unfold varsV
  simp at *
  omega
end Go.Proofs.YtnmidlbhkjcimaaDoor
