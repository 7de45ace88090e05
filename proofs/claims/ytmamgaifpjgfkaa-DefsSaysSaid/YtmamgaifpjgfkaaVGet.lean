/- The walks of seineref1.Get, Int and Text. -/
import Derived.Test.YtmamgaifpjgfkaaVSame2
import Derived.Laws.Rows
namespace Go.Proofs.Ytmamgaifpjgfkaa
open Go.RowKit

/-- The value that is none. -/
def VT.zero : VT := .mk 0 0 ⟨#[]⟩ .nil .nil
/-- The first member's of that name. -/
def getM : VM → ByteArray → VT × Bool
  | .nil, _ => (.zero, false)
  | .cons nm v t, s => if nm = s then (v, true) else getM t s
def VM.drop : VM → Nat → VM
  | m, 0 => m
  | .nil, _ + 1 => .nil
  | .cons _ _ t, j + 1 => t.drop j
theorem VM.drop_get : ∀ {m : VM} {j : Nat} {nm : ByteArray} {v : VT}, m.get j = some (nm, v) → m.drop j = .cons nm v (m.drop (j + 1))
  | .nil, _, _, _, h => by simp [VM.get] at h
  | .cons x u t, 0, nm, v, h => by
    have : x = nm ∧ u = v := by simpa [VM.get] using h
    obtain ⟨rfl, rfl⟩ := this
    cases t <;> rfl
  | .cons x u t, j + 1, nm, v, h => by
    have := VM.drop_get (m := t) (j := j) (nm := nm) (v := v) h
    exact this
theorem VM.drop_all : ∀ (m : VM), m.drop m.len = .nil
  | .nil => rfl
  | .cons _ _ t => VM.drop_all t
theorem VM.drop_zero (m : VM) : m.drop 0 = m := by cases m <;> rfl
theorem zeroAt (w : World) (B : Nat) : VAt w B .zero (.int .i64 0) (.int .i64 0) (.string ⟨#[]⟩) (.slice none 0 0) (.slice none 0 0) := by
  unfold VT.zero VAt
  exact ⟨rfl, rfl, rfl, Nat.zero_le _, ⟨none, 0, rfl, by simp [VL.len], by unfold LAt; trivial⟩, none, 0, rfl, by simp [VM.len], by unfold MAt; trivial⟩
theorem intAt (w : World) (B : Nat) (z : Int) : VAt w B (.mk 2 z ⟨#[]⟩ .nil .nil) (.int .i64 2) (.int .i64 z) (.string ⟨#[]⟩) (.slice none 0 0) (.slice none 0 0) := by
  unfold VAt
  exact ⟨rfl, rfl, rfl, Nat.zero_le _, ⟨none, 0, rfl, by simp [VL.len], by unfold LAt; trivial⟩, none, 0, rfl, by simp [VM.len], by unfold MAt; trivial⟩
theorem textAt (w : World) (B : Nat) (s : ByteArray) (hs : s.size ≤ 9223372036854775807) : VAt w B (.mk 4 0 s .nil .nil) (.int .i64 4) (.int .i64 0) (.string s) (.slice none 0 0) (.slice none 0 0) := by
  unfold VAt
  exact ⟨rfl, rfl, rfl, hs, ⟨none, 0, rfl, by simp [VL.len], by unfold LAt; trivial⟩, none, 0, rfl, by simp [VM.len], by unfold MAt; trivial⟩

/-- The end of a function that answers a value out of a cell, and one that answers a Boolean beside it. -/
theorem ret_v1 {R : Ending → World → Prop} {fn : Func} {a : Act} {W : World} {c0 c1 c2 c3 c4 : Value} {p b : Nat} (hf : fn.results = #[.cell p 65]) (h2 : a.tmps.getD p undef = .pointer (some ⟨b, 0, none⟩)) (hd : a.defers = [])
    (hc : W.heap[b]? = some (.cells #[c0, c1, c2, c3, c4] 65 (0, 0))) (hR : R (.returned (.agg #[c0, c1, c2, c3, c4])) W) : bodyPost Try.prog fn R .ret a W := by
  have hl : (loadVar 65 ⟨b, 0, none⟩).run Try.prog W = .ok (.agg #[c0, c1, c2, c3, c4]) W :=
    run_loadVar_row W b 65 65 #[c0, c1, c2, c3, c4] (0, 0) _ hc Try.underlying65 rfl (by kernel_rfl)
  refine bodyPost_ret ?_ hd hR
  have h2' : a.tmps[p]?.getD undef = .pointer (some ⟨b, 0, none⟩) := by rw [← h2]; simp
  simp [results, hf, h2', asAddr, hl]
theorem ret_v2 {R : Ending → World → Prop} {fn : Func} {a : Act} {W : World} {c0 c1 c2 c3 c4 : Value} {p u b : Nat} (hf : fn.results = #[.cell p 65, .tmp u]) (h2 : a.tmps.getD p undef = .pointer (some ⟨b, 0, none⟩)) (hd : a.defers = [])
    (hc : W.heap[b]? = some (.cells #[c0, c1, c2, c3, c4] 65 (0, 0))) (hR : R (.returned (.tuple #[.agg #[c0, c1, c2, c3, c4], a.tmps.getD u undef])) W) : bodyPost Try.prog fn R .ret a W := by
  have hl : (loadVar 65 ⟨b, 0, none⟩).run Try.prog W = .ok (.agg #[c0, c1, c2, c3, c4]) W :=
    run_loadVar_row W b 65 65 #[c0, c1, c2, c3, c4] (0, 0) _ hc Try.underlying65 rfl (by kernel_rfl)
  refine bodyPost_ret ?_ hd hR
  have h2' : a.tmps[p]?.getD undef = .pointer (some ⟨b, 0, none⟩) := by rw [← h2]; simp
  simp [results, hf, h2', asAddr, hl]

theorem got {B : Nat} {w w' : World} {x : VT × Bool} {c0 c1 c2 c3 c4 : Value} {b : Bool} (hb : b = x.2) (h : VAt w' B x.1 c0 c1 c2 c3 c4) (hw : Below w.heap.size w w') :
    ∃ d0 d1 d2 d3 d4, Ending.returned (.tuple #[.agg #[c0, c1, c2, c3, c4], .bool b]) = .returned (.tuple #[.agg #[d0, d1, d2, d3, d4], .bool x.2]) ∧ VAt w' B x.1 d0 d1 d2 d3 d4 ∧ Below w.heap.size w w' := ⟨c0, c1, c2, c3, c4, by rw [hb], h, hw⟩
end Go.Proofs.Ytmamgaifpjgfkaa
