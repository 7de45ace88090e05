/- The walk of the document's own Lines: new memory that reads as the lines of the text. -/
import Derived.Test.YtfinboplkjijhaaGreatDoorStrs
namespace Go.Proofs.YtfinboplkjijhaaGreatDoor.Blk
open Go.RowKit

def linesB (l : List UInt8) : List ByteArray := (linesL l).map fun x => ⟨x.toArray⟩
theorem ne_lit {b c : UInt8} (h : b ≠ c) : (b.toNat : Int) ≠ (c.toNat : Int) := fun e => h (UInt8.toNat_inj.1 (by omega))
theorem beq_ne {b : UInt8} {z : Int} (h : (b.toNat : Int) ≠ z) : ((b.toNat : Int) == z) = false := by simp [h]
theorem bne_ne {b : UInt8} {z : Int} (h : (b.toNat : Int) ≠ z) : ((b.toNat : Int) != z) = true := by simp [h]
theorem drop_at (s : ByteArray) (f k : Nat) (hf : f ≤ k) (hk : k < s.size) : s.data.toList.drop f = (s.data.toList.drop f).take (k - f) ++ s[k] :: s.data.toList.drop (k + 1) := by
  have hl : s.data.toList.length = s.size := Array.length_toList
  have e := (List.take_append_drop (k - f) (s.data.toList.drop f)).symm
  rw [List.drop_drop, show f + (k - f) = k from by omega, List.drop_eq_getElem_cons (i := k) (by omega)] at e
  exact e
theorem plain_more {s : ByteArray} {f k : Nat} (hf : f ≤ k) (hk : k < s.size) (h : plainL ((s.data.toList.drop f).take (k - f))) (hc : eolB s[k] = false) : plainL ((s.data.toList.drop f).take (k + 1 - f)) := by
  have hl : s.data.toList.length = s.size := Array.length_toList
  have e : (s.data.toList.drop f).take (k + 1 - f) = (s.data.toList.drop f).take (k - f) ++ [s[k]] := by
    rw [show k + 1 - f = (k - f) + 1 from by omega, List.take_add_one, List.getElem?_drop, show f + (k - f) = k from by omega, List.getElem?_eq_getElem (by omega)]
    rfl
  rw [e]
  intro c hc'
  rw [List.mem_append] at hc'
  rcases hc' with h' | h'
  · exact h c h'
  · simp only [List.mem_cons, List.not_mem_nil, or_false] at h'
    rw [h']; exact hc
/-- So far these lines; the rest from f on is still to come, and no line's end stands between f and k. -/
def LinesTo (s : ByteArray) (f k : Nat) (done : List ByteArray) : Prop := done ++ linesB (s.data.toList.drop f) = linesB s.data.toList ∧ plainL ((s.data.toList.drop f).take (k - f))
theorem mk_of {S : ByteArray} {a : List UInt8} (h : S.data.toList = a) : (⟨a.toArray⟩ : ByteArray) = S := by subst h; simp
theorem extract_list (s : ByteArray) (f k : Nat) : (s.extract f k).data.toList = (s.data.toList.drop f).take (k - f) := by
  rw [ByteArray.data_extract, Array.toList_extract, List.extract]
theorem LinesTo.ten {s : ByteArray} {f k : Nat} {done : List ByteArray} (h : LinesTo s f k done) (hf : f ≤ k) (hk : k < s.size) (hc : s[k] = 10) : LinesTo s (k + 1) (k + 1) (done ++ [s.extract f k]) := by
  obtain ⟨h1, h2⟩ := h
  rw [drop_at s f k hf hk, hc] at h1
  unfold linesB at h1
  rw [linesL_ten h2, List.map_cons, mk_of (extract_list s f k)] at h1
  exact ⟨by unfold linesB; rw [← h1]; simp, by simp [plainL]⟩
theorem LinesTo.both {s : ByteArray} {f k : Nat} {done : List ByteArray} (h : LinesTo s f k done) (hf : f ≤ k) (hk : k + 1 < s.size) (hc : s[k] = 13) (hd : s[k + 1] = 10) : LinesTo s (k + 2) (k + 2) (done ++ [s.extract f k]) := by
  obtain ⟨h1, h2⟩ := h
  have hl : s.data.toList.length = s.size := Array.length_toList
  have e : s.data.toList.drop (k + 1) = s[k + 1] :: s.data.toList.drop (k + 2) := List.drop_eq_getElem_cons (by omega)
  rw [drop_at s f k hf (by omega), hc, e, hd] at h1
  unfold linesB at h1
  rw [linesL_both h2, List.map_cons, mk_of (extract_list s f k)] at h1
  exact ⟨by unfold linesB; rw [← h1]; simp, by simp [plainL]⟩
theorem LinesTo.cr {s : ByteArray} {f k : Nat} {done : List ByteArray} (h : LinesTo s f k done) (hf : f ≤ k) (hk : k < s.size) (hc : s[k] = 13) (hd : ∀ (h : k + 1 < s.size), s[k + 1] ≠ 10) : LinesTo s (k + 1) (k + 1) (done ++ [s.extract f k]) := by
  obtain ⟨h1, h2⟩ := h
  have hl : s.data.toList.length = s.size := Array.length_toList
  have hr : (s.data.toList.drop (k + 1)).head? ≠ some 10 := by
    rw [List.head?_drop]
    by_cases hk1 : k + 1 < s.size
    · rw [List.getElem?_eq_getElem (by omega)]
      intro e
      injection e with e
      exact hd hk1 e
    · rw [List.getElem?_eq_none (by omega)]
      intro e; cases e
  rw [drop_at s f k hf hk, hc] at h1
  unfold linesB at h1
  rw [linesL_cr h2 hr, List.map_cons, mk_of (extract_list s f k)] at h1
  exact ⟨by unfold linesB; rw [← h1]; simp, by simp [plainL]⟩
theorem LinesTo.done {s : ByteArray} {f : Nat} {done : List ByteArray} (h : LinesTo s f s.size done) : linesB s.data.toList = done ++ [s.extract f s.size] := by
  obtain ⟨h1, h2⟩ := h
  have hl : s.data.toList.length = s.size := Array.length_toList
  rw [List.take_of_length_le (by rw [List.length_drop]; omega)] at h2
  rw [← h1]
  unfold linesB
  rw [linesL_one h2]
  have := mk_of (extract_list s f s.size)
  rw [List.take_of_length_le (by rw [List.length_drop]; omega)] at this
  simp [this]

theorem info_str : ∃ i0, Tryz.prog.info? 9 = some i0 ∧ i0.zero = some (.string ByteArray.empty) ∧ i0.size = 1 ∧ i0.bytes = 16 := by
  have hi9 : (Tryz.prog.info? 9).map (fun i => (i.zero, i.size, i.bytes)) = some (some (.string ByteArray.empty), 1, 16) := by kernel_rfl
  obtain ⟨i0, hi, hx⟩ := Option.map_eq_some_iff.1 hi9
  simp only [Prod.mk.injEq] at hx
  exact ⟨i0, hi, hx.1, hx.2.1, hx.2.2⟩

set_option maxRecDepth 100000 in
set_option maxHeartbeats 1000000 in
theorem rlines_any (s : ByteArray) (w : World) (hs : s.size ≤ 9000) :
    Calls Tryz.prog 94 #[.string s] w fun e w' => ∃ A cap, e = .returned (.slice A (linesB s.data.toList).length cap) ∧ w'.ownsRow w.heap.size 9 1 (.slice A (linesB s.data.toList).length cap) (linesB s.data.toList).length ((linesB s.data.toList).map Value.string) ∧ Below w.heap.size w w' := by
  obtain ⟨i0, hi, hz0, hz1, hz2⟩ := info_str
  go_enter Tryz.func94, Tryz.ntmps94
  go_wp2
  go_loopg [3, 4, 5] s.size (fun g out fr i wx => ∃ (k f : Nat) (done : List ByteArray), f ≤ k ∧ k + g = s.size ∧ i = .int .i64 k ∧ fr = .int .i64 f ∧ done.length ≤ k ∧ Aside (LinesTo s f k done) ∧ wx.ownsRow w.heap.size 9 1 out done.length (done.map Value.string) ∧ Below w.heap.size w wx)
  case atStart => exact ⟨0, 0, [], by omega, by omega, rfl, rfl, by simp, Aside.intro ⟨by simp, by simp [plainL]⟩, World.ownsRow_nil _ _ _ _, Below.refl _ _⟩
  case round =>
    obtain ⟨k, f, done, hfk, hk, rfl, rfl, hdl, H, hown, hb⟩ := hrel
    obtain ⟨A, cap, rfl⟩ := own_form hown
    have hf0 : (0 : Int) ≤ (f : Int) := by omega
    have hfk' : (f : Int) ≤ (k : Int) := by omega
    have hks : (k : Int) ≤ (s.size : Int) := by omega
    have HB := Lib.hid hb
    have hbs := hb.size
    clear hb
    cases gk with
    | zero =>
      obtain rfl : k = s.size := by omega
      have hdone := Lib.hid (H.out.done)
      clear H
      go_wp2_with (at_builtin; refine wpList_append_own _ rfl _ _ 90 rfl w.heap.size 9 i0 (.string ByteArray.empty) 1 16 Tryz.underlying90 hi hz0 hz1 hz2 rfl (by decide) _ _ _ rfl (hown.alloc _) ⟨wr.heap.size, 0, none⟩ 1 1 [.string (s.extract f s.size)] rfl rfl (cell_one_new _ _ _) (by intro x hx; simp at hx; rcases hx with rfl; rfl) (by unfold maxLen; omega) (by omega) (by simp; omega) ?_; intro v' w3 hown' hgrow _; obtain ⟨A', cap', rfl⟩ := own_form hown'; have HG := Lib.hid hgrow; have HO := Lib.hid hown'; have HW := Lib.hid hown; clear hgrow hown' hown)
      go_ret
      refine ⟨A', cap', ?_, ?_, (HB.out.alloc HB.out.size _).grown HG.out (by simp; omega) (fun q hq => (HW.out.lt q hq).1)⟩
      · rw [hdone.out, List.length_append]; rfl
      · rw [hdone.out, List.map_append, List.length_append]; exact HO.out
    | succ g =>
      have hlt : k < s.size := by omega
      have hlt' : (k : Int) < (s.size : Int) := by omega
      by_cases c10 : s[k] = 10
      · have n10 : ((s[k].toNat : Int) != 10) = false := by rw [c10]; rfl
        have n13 : ((s[k].toNat : Int) == 13) = false := by rw [c10]; rfl
        have hT := Lib.hid (H.out.ten hfk hlt c10)
        clear H c10
        go_wp2_with (at_builtin; refine wpList_append_own _ rfl _ _ 90 rfl w.heap.size 9 i0 (.string ByteArray.empty) 1 16 Tryz.underlying90 hi hz0 hz1 hz2 rfl (by decide) _ _ _ rfl (hown.alloc _) ⟨wr.heap.size, 0, none⟩ 1 1 [.string (s.extract f k)] rfl rfl (cell_one_new _ _ _) (by intro x hx; simp at hx; rcases hx with rfl; rfl) (by unfold maxLen; omega) (by omega) (by simp; omega) ?_; intro v' w3 hown' hgrow _; obtain ⟨A', cap', rfl⟩ := own_form hown'; have HG := Lib.hid hgrow; have HO := Lib.hid hown'; have HW := Lib.hid hown; clear hgrow hown' hown)
        go_roundg g
        case measure => omega
        case rel => exact ⟨k + 1, k + 1, done ++ [s.extract f k], by omega, by omega, by go_num, by go_num, by simp; omega, Aside.intro hT.out, by rw [List.map_append, List.length_append]; exact HO.out, (HB.out.alloc HB.out.size _).grown HG.out (by simp; omega) (fun q hq => (HW.out.lt q hq).1)⟩
      by_cases c13 : s[k] = 13
      · have n10 : ((s[k].toNat : Int) != 10) = true := by rw [c13]; rfl
        have n13 : ((s[k].toNat : Int) != 13) = false := by rw [c13]; rfl
        have m13 : ((s[k].toNat : Int) == 13) = true := by rw [c13]; rfl
        by_cases hk1 : k + 1 < s.size
        · have hk1' : (k : Int) + 1 < (s.size : Int) := by omega
          by_cases d10 : s[k + 1] = 10
          · have m10 : ((s[k + 1].toNat : Int) == 10) = true := by rw [d10]; rfl
            have hT := Lib.hid (H.out.both hfk hk1 c13 d10)
            clear H c10 c13 d10
            go_wp2_with (at_builtin; refine wpList_append_own _ rfl _ _ 90 rfl w.heap.size 9 i0 (.string ByteArray.empty) 1 16 Tryz.underlying90 hi hz0 hz1 hz2 rfl (by decide) _ _ _ rfl (hown.alloc _) ⟨wr.heap.size, 0, none⟩ 1 1 [.string (s.extract f k)] rfl rfl (cell_one_new _ _ _) (by intro x hx; simp at hx; rcases hx with rfl; rfl) (by unfold maxLen; omega) (by omega) (by simp; omega) ?_; intro v' w3 hown' hgrow _; obtain ⟨A', cap', rfl⟩ := own_form hown'; have HG := Lib.hid hgrow; have HO := Lib.hid hown'; have HW := Lib.hid hown; clear hgrow hown' hown)
            go_roundg (s.size - (k + 2))
            case measure => omega
            case rel => exact ⟨k + 2, k + 2, done ++ [s.extract f k], by omega, by omega, by go_num, by go_num, by simp; omega, Aside.intro hT.out, by rw [List.map_append, List.length_append]; exact HO.out, (HB.out.alloc HB.out.size _).grown HG.out (by simp; omega) (fun q hq => (HW.out.lt q hq).1)⟩
          · have m10 : ((s[k + 1].toNat : Int) == 10) = false := beq_ne (ne_lit d10)
            have hT := Lib.hid (H.out.cr hfk hlt c13 (fun _ => d10))
            clear H c10 c13 d10
            go_wp2_with (at_builtin; refine wpList_append_own _ rfl _ _ 90 rfl w.heap.size 9 i0 (.string ByteArray.empty) 1 16 Tryz.underlying90 hi hz0 hz1 hz2 rfl (by decide) _ _ _ rfl (hown.alloc _) ⟨wr.heap.size, 0, none⟩ 1 1 [.string (s.extract f k)] rfl rfl (cell_one_new _ _ _) (by intro x hx; simp at hx; rcases hx with rfl; rfl) (by unfold maxLen; omega) (by omega) (by simp; omega) ?_; intro v' w3 hown' hgrow _; obtain ⟨A', cap', rfl⟩ := own_form hown'; have HG := Lib.hid hgrow; have HO := Lib.hid hown'; have HW := Lib.hid hown; clear hgrow hown' hown)
            go_roundg g
            case measure => omega
            case rel => exact ⟨k + 1, k + 1, done ++ [s.extract f k], by omega, by omega, by go_num, by go_num, by simp; omega, Aside.intro hT.out, by rw [List.map_append, List.length_append]; exact HO.out, (HB.out.alloc HB.out.size _).grown HG.out (by simp; omega) (fun q hq => (HW.out.lt q hq).1)⟩
        · have hk1' : ¬ ((k : Int) + 1 < (s.size : Int)) := by omega
          have hT := Lib.hid (H.out.cr hfk hlt c13 (fun h => absurd h hk1))
          clear H c10 c13
          go_wp2_with (at_builtin; refine wpList_append_own _ rfl _ _ 90 rfl w.heap.size 9 i0 (.string ByteArray.empty) 1 16 Tryz.underlying90 hi hz0 hz1 hz2 rfl (by decide) _ _ _ rfl (hown.alloc _) ⟨wr.heap.size, 0, none⟩ 1 1 [.string (s.extract f k)] rfl rfl (cell_one_new _ _ _) (by intro x hx; simp at hx; rcases hx with rfl; rfl) (by unfold maxLen; omega) (by omega) (by simp; omega) ?_; intro v' w3 hown' hgrow _; obtain ⟨A', cap', rfl⟩ := own_form hown'; have HG := Lib.hid hgrow; have HO := Lib.hid hown'; have HW := Lib.hid hown; clear hgrow hown' hown)
          go_roundg g
          case measure => omega
          case rel => exact ⟨k + 1, k + 1, done ++ [s.extract f k], by omega, by omega, by go_num, by go_num, by simp; omega, Aside.intro hT.out, by rw [List.map_append, List.length_append]; exact HO.out, (HB.out.alloc HB.out.size _).grown HG.out (by simp; omega) (fun q hq => (HW.out.lt q hq).1)⟩
      · have n10 : ((s[k].toNat : Int) != 10) = true := bne_ne (ne_lit c10)
        have n13 : ((s[k].toNat : Int) != 13) = true := bne_ne (ne_lit c13)
        have hT : Hid (LinesTo s f (k + 1) done) := Lib.hid ⟨H.out.1, plain_more hfk hlt H.out.2 (by simp [eolB, c10, c13])⟩
        clear H c10 c13
        go_wp2
        go_roundg g
        case measure => omega
        case rel => exact ⟨k + 1, f, done, by omega, by omega, by go_num, rfl, by omega, Aside.intro hT.out, hown, HB.out⟩
end Go.Proofs.YtfinboplkjijhaaGreatDoor.Blk
