/- The walks of seineref1.Get, Int and Text. -/
import Derived.Test.YtcdcfhplkimecaaDoorVSame2
import Derived.Laws.Rows
namespace Go.Proofs.YtcdcfhplkimecaaDoor
open Go.RowKit

/-- The value that is none. -/
def VT.zero : VT := .mk 0 0 ⟨#[]⟩ .nil .nil
/-- The first member's of that name. -/
def getM : VM → ByteArray → VT × Bool
  | .nil, _ => (.zero, false)
  | .cons nm v t, s => if nm = s then (v, true) else getM t s
def VM.drop : VM → Nat → VM
  | m, 0 => m
  | .nil, _ + 1 => .nil
  | .cons _ _ t, j + 1 => t.drop j
theorem VM.drop_get : ∀ {m : VM} {j : Nat} {nm : ByteArray} {v : VT}, m.get j = some (nm, v) → m.drop j = .cons nm v (m.drop (j + 1))
  | .nil, _, _, _, h => by simp [VM.get] at h
  | .cons x u t, 0, nm, v, h => by
    have : x = nm ∧ u = v := by simpa [VM.get] using h
    obtain ⟨rfl, rfl⟩ := this
    cases t <;> rfl
  | .cons x u t, j + 1, nm, v, h => by
    have := VM.drop_get (m := t) (j := j) (nm := nm) (v := v) h
    exact this
theorem VM.drop_all : ∀ (m : VM), m.drop m.len = .nil
  | .nil => rfl
  | .cons _ _ t => VM.drop_all t
theorem VM.drop_zero (m : VM) : m.drop 0 = m := by cases m <;> rfl
theorem zeroAt (w : World) (B : Nat) : VAt w B .zero (.int .i64 0) (.int .i64 0) (.string ⟨#[]⟩) (.slice none 0 0) (.slice none 0 0) := by
  unfold VT.zero VAt
  exact ⟨rfl, rfl, rfl, Nat.zero_le _, ⟨none, 0, rfl, by simp [VL.len], by unfold LAt; trivial⟩, none, 0, rfl, by simp [VM.len], by unfold MAt; trivial⟩
theorem intAt (w : World) (B : Nat) (z : Int) : VAt w B (.mk 2 z ⟨#[]⟩ .nil .nil) (.int .i64 2) (.int .i64 z) (.string ⟨#[]⟩) (.slice none 0 0) (.slice none 0 0) := by
  unfold VAt
  exact ⟨rfl, rfl, rfl, Nat.zero_le _, ⟨none, 0, rfl, by simp [VL.len], by unfold LAt; trivial⟩, none, 0, rfl, by simp [VM.len], by unfold MAt; trivial⟩
theorem textAt (w : World) (B : Nat) (s : ByteArray) (hs : s.size ≤ 9223372036854775807) : VAt w B (.mk 4 0 s .nil .nil) (.int .i64 4) (.int .i64 0) (.string s) (.slice none 0 0) (.slice none 0 0) := by
  unfold VAt
  exact ⟨rfl, rfl, rfl, hs, ⟨none, 0, rfl, by simp [VL.len], by unfold LAt; trivial⟩, none, 0, rfl, by simp [VM.len], by unfold MAt; trivial⟩

/-- The end of a function that answers a value out of a cell, and one that answers a Boolean beside it. -/
theorem ret_v1 {R : Ending → World → Prop} {fn : Func} {a : Act} {W : World} {c0 c1 c2 c3 c4 : Value} {p b : Nat} (hf : fn.results = #[.cell p 25]) (h2 : a.tmps.getD p undef = .pointer (some ⟨b, 0, none⟩)) (hd : a.defers = [])
    (hc : W.heap[b]? = some (.cells #[c0, c1, c2, c3, c4] 25 (0, 0))) (hR : R (.returned (.agg #[c0, c1, c2, c3, c4])) W) : bodyPost Tryd.prog fn R .ret a W := by
  have hl : (loadVar 25 ⟨b, 0, none⟩).run Tryd.prog W = .ok (.agg #[c0, c1, c2, c3, c4]) W :=
    run_loadVar_row W b 25 25 #[c0, c1, c2, c3, c4] (0, 0) _ hc Tryd.underlying25 rfl (by kernel_rfl)
  refine bodyPost_ret ?_ hd hR
  have h2' : a.tmps[p]?.getD undef = .pointer (some ⟨b, 0, none⟩) := by rw [← h2]; simp
  simp [results, hf, h2', asAddr, hl]
theorem ret_v2 {R : Ending → World → Prop} {fn : Func} {a : Act} {W : World} {c0 c1 c2 c3 c4 : Value} {p u b : Nat} (hf : fn.results = #[.cell p 25, .tmp u]) (h2 : a.tmps.getD p undef = .pointer (some ⟨b, 0, none⟩)) (hd : a.defers = [])
    (hc : W.heap[b]? = some (.cells #[c0, c1, c2, c3, c4] 25 (0, 0))) (hR : R (.returned (.tuple #[.agg #[c0, c1, c2, c3, c4], a.tmps.getD u undef])) W) : bodyPost Tryd.prog fn R .ret a W := by
  have hl : (loadVar 25 ⟨b, 0, none⟩).run Tryd.prog W = .ok (.agg #[c0, c1, c2, c3, c4]) W :=
    run_loadVar_row W b 25 25 #[c0, c1, c2, c3, c4] (0, 0) _ hc Tryd.underlying25 rfl (by kernel_rfl)
  refine bodyPost_ret ?_ hd hR
  have h2' : a.tmps[p]?.getD undef = .pointer (some ⟨b, 0, none⟩) := by rw [← h2]; simp
  simp [results, hf, h2', asAddr, hl]

set_option maxRecDepth 100000 in
set_option maxHeartbeats 4000000 in
theorem rint_any (z : Int) (w : World) :
    Calls Tryd.prog 28 #[.int .i64 z] w fun e w' => e = .returned (.agg #[.int .i64 2, .int .i64 z, .string ⟨#[]⟩, .slice none 0 0, .slice none 0 0]) ∧ Below w.heap.size w w' := by
  go_enter Tryd.func28, Tryd.ntmps28
  go_wp2_with fail
  exact ret_v1 rfl rfl rfl (heap_alloc_new _ _) ⟨rfl, (Below.refl _ _).alloc (Nat.le_refl _) _⟩
set_option maxRecDepth 100000 in
set_option maxHeartbeats 4000000 in
theorem rtext_any (s : ByteArray) (w : World) :
    Calls Tryd.prog 30 #[.string s] w fun e w' => e = .returned (.agg #[.int .i64 4, .int .i64 0, .string s, .slice none 0 0, .slice none 0 0]) ∧ Below w.heap.size w w' := by
  go_enter Tryd.func30, Tryd.ntmps30
  go_wp2_with fail
  exact ret_v1 rfl rfl rfl (heap_alloc_new _ _) ⟨rfl, (Below.refl _ _).alloc (Nat.le_refl _) _⟩
theorem got {B : Nat} {w w' : World} {x : VT × Bool} {c0 c1 c2 c3 c4 : Value} {b : Bool} (hb : b = x.2) (h : VAt w' B x.1 c0 c1 c2 c3 c4) (hw : Below w.heap.size w w') :
    ∃ d0 d1 d2 d3 d4, Ending.returned (.tuple #[.agg #[c0, c1, c2, c3, c4], .bool b]) = .returned (.tuple #[.agg #[d0, d1, d2, d3, d4], .bool x.2]) ∧ VAt w' B x.1 d0 d1 d2 d3 d4 ∧ Below w.heap.size w w' := ⟨c0, c1, c2, c3, c4, by rw [hb], h, hw⟩
set_option maxRecDepth 100000 in
set_option maxHeartbeats 4000000 in
theorem rget_any (s : ByteArray) (m : VM) (A : Option Addr) (c : Nat) (w : World) (B : Nat) (hB : B ≤ w.heap.size) (hm : m.len ≤ 9223372036854775807) (hM : MAt w B m A 0) :
    Calls Tryd.prog 26 #[.string s, .slice A m.len c] w fun e w' => ∃ d0 d1 d2 d3 d4, e = .returned (.tuple #[.agg #[d0, d1, d2, d3, d4], .bool (getM m s).2]) ∧ VAt w' B (getM m s).1 d0 d1 d2 d3 d4 ∧ Below w.heap.size w w' := by
  have HM := Lib.hid hM
  have HB0 := Lib.hid hB
  clear hM hB
  have hbn : Hid (∀ o, Below w.heap.size w (w.alloc o)) := Lib.hid (fun o => (Below.refl _ _).alloc (Nat.le_refl _) _)
  go_enter Tryd.func26, Tryd.ntmps26
  go_wp2_with fail
  go_loopg [6] m.len (fun g i wx => ∃ q : Nat, q + g = m.len ∧ i = .int .i64 q ∧ Aside (getM (m.drop q) s = getM m s) ∧ w.alloc (.cells #[.int .i64 0, .int .i64 0, .string ⟨#[]⟩, .slice none 0 0, .slice none 0 0] 25) = wx)
  case atStart => exact ⟨0, by omega, rfl, vaside (by rw [VM.drop_zero]), rfl⟩
  case round =>
    obtain ⟨q, hq, rfl, HA, rfl⟩ := hrel
    cases gk with
    | zero =>
      obtain rfl : q = m.len := by omega
      have hG : Hid (getM m s = (.zero, false)) := Lib.hid (by rw [← HA, VM.drop_all]; rfl)
      clear HA
      go_wp2_with fail
      refine ret_v2 rfl rfl rfl (heap_alloc_new _ _) ?_
      rw [hG.out]
      exact got rfl (zeroAt _ _) (hbn.out _)
    | succ g =>
      have hqn : q < m.len := by omega
      have hqn' : (q : Int) < (m.len : Int) := by omega
      obtain ⟨⟨nm, v⟩, hv⟩ := VM.get_lt hqn
      have hbW : Hid (Below w.heap.size w (w.alloc (.cells #[.int .i64 0, .int .i64 0, .string ⟨#[]⟩, .slice none 0 0, .slice none 0 0] 25))) := Lib.hid (hbn.out _)
      obtain ⟨b, o, d0, d1, d2, d3, d4, rfl, hblt, hnm, hns, hF, hV⟩ := MAt.at HM.out hv
      rw [Nat.zero_add] at hF hnm
      replace hF := hF.below hbW.out (Nat.lt_of_lt_of_le hblt HB0.out)
      replace hnm := (hbW.out.cell (p := ⟨b, _, none⟩) (Nat.lt_of_lt_of_le hblt HB0.out)).trans hnm
      obtain ⟨g0, g1, g2, g3, g4⟩ := hF
      have hd := Lib.hid (VM.drop_get hv)
      clear hv
      by_cases hnn : nm = s
      · subst hnn
        have e1 : (nm.toList != nm.toList) = false := by simp
        have e1' : (nm.toList == nm.toList) = true := by simp
        have hG : Hid (getM m nm = (v, true)) := Lib.hid (by rw [← HA, hd.out, getM, if_pos rfl])
        have HV := Lib.hid hV
        obtain ⟨vk, vn, vs, vl, vm⟩ := v
        unfold VAt at hV
        obtain ⟨rfl, rfl, rfl, _, ⟨A3, c3', rfl, _, _⟩, A4, c4', rfl, _, _⟩ := hV
        clear HA
        go_wp2_with fail
        refine ret_v2 rfl rfl rfl (heap_alloc_new _ _) ?_
        rw [hG.out]
        exact got rfl (VAt.below ((hbn.out _).mono HB0.out) _ _ _ _ _ _ HV.out) (hbn.out _)
      · have hne : nm.toList ≠ s.toList := fun h => hnn (by
          rw [ByteArray.toList_eq, ByteArray.toList_eq] at h
          exact ByteArray.ext (Array.toList_inj.1 h))
        have e1 : (nm.toList != s.toList) = true := by simpa using hne
        have e1' : (nm.toList == s.toList) = false := by simpa using hne
        have hN : Hid (getM (m.drop (q + 1)) s = getM m s) := Lib.hid (by rw [← HA, hd.out, getM, if_neg hnn])
        clear HA hne hnn hV
        go_wp2_with fail
        go_roundg g
        case measure => omega
        case rel => exact ⟨q + 1, by omega, by go_num, vaside hN.out, rfl⟩
end Go.Proofs.YtcdcfhplkimecaaDoor
