/- The walk of the landed Lines: new memory that reads as the lines of the text. -/
import Derived.Test.YtaohniiemhahdaaGreatDoorQb21
import Derived.Outline
namespace Go.Proofs.YtaohniiemhahdaaGreatDoor.Blk
open Go.RowKit

set_option maxRecDepth 100000 in
set_option maxHeartbeats 1000000 in
theorem plines_any (s : ByteArray) (w : World) (hs : s.size ≤ 13000) :
    Calls Tryz.prog 186 #[.string s] w fun e w' => ∃ A cap, e = .returned (.slice A (linesB s.data.toList).length cap) ∧ w'.ownsRow w.heap.size 9 1 (.slice A (linesB s.data.toList).length cap) (linesB s.data.toList).length ((linesB s.data.toList).map Value.string) ∧ Below w.heap.size w w' := by
  obtain ⟨i0, hi, hz0, hz1, hz2⟩ := info_str
  go_enter Tryz.func186, Tryz.ntmps186
  go_wp2
  go_loopg [3, 4, 5] s.size (fun g out fr i wx => ∃ (k f : Nat) (done : List ByteArray), f ≤ k ∧ k + g = s.size ∧ i = .int .i64 k ∧ fr = .int .i64 f ∧ done.length ≤ k ∧ Aside (LinesTo s f k done) ∧ wx.ownsRow w.heap.size 9 1 out done.length (done.map Value.string) ∧ Below w.heap.size w wx)
  case atStart => exact ⟨0, 0, [], by omega, by omega, rfl, rfl, by simp, Aside.intro ⟨by simp, by simp [plainL]⟩, World.ownsRow_nil _ _ _ _, Below.refl _ _⟩
  case round =>
    obtain ⟨k, f, done, hfk, hk, rfl, rfl, hdl, H, hown, hb⟩ := hrel
    obtain ⟨A, cap, rfl⟩ := own_form hown
    have hf0 : (0 : Int) ≤ (f : Int) := by omega
    have hfk' : (f : Int) ≤ (k : Int) := by omega
    have hks : (k : Int) ≤ (s.size : Int) := by omega
    have HB := Lib.hid hb
    have hbs := hb.size
    clear hb
    cases gk with
    | zero =>
      obtain rfl : k = s.size := by omega
      have hdone := Lib.hid (H.out.done)
      clear H
      go_wp2_with (at_builtin; refine wpList_append_own _ rfl _ _ 56 rfl w.heap.size 9 i0 (.string ByteArray.empty) 1 16 Tryz.underlying56 hi hz0 hz1 hz2 rfl (by decide) _ _ _ rfl (hown.alloc _) ⟨wr.heap.size, 0, none⟩ 1 1 [.string (s.extract f s.size)] rfl rfl (cell_one_new _ _ _) (by intro x hx; simp at hx; rcases hx with rfl; rfl) (by unfold maxLen; omega) (by omega) (by simp; omega) ?_; intro v' w3 hown' hgrow _; obtain ⟨A', cap', rfl⟩ := own_form hown'; have HG := Lib.hid hgrow; have HO := Lib.hid hown'; have HW := Lib.hid hown; clear hgrow hown' hown)
      go_ret
      refine ⟨A', cap', ?_, ?_, (HB.out.alloc HB.out.size _).grown HG.out (by simp; omega) (fun q hq => (HW.out.lt q hq).1)⟩
      · rw [hdone.out, List.length_append]; rfl
      · rw [hdone.out, List.map_append, List.length_append]; exact HO.out
    | succ g =>
      have hlt : k < s.size := by omega
      have hlt' : (k : Int) < (s.size : Int) := by omega
      by_cases c10 : s[k] = 10
      · have n10 : ((s[k].toNat : Int) != 10) = false := by rw [c10]; rfl
        have n13 : ((s[k].toNat : Int) == 13) = false := by rw [c10]; rfl
        have hT := Lib.hid (H.out.ten hfk hlt c10)
        clear H c10
        go_wp2_with (at_builtin; refine wpList_append_own _ rfl _ _ 56 rfl w.heap.size 9 i0 (.string ByteArray.empty) 1 16 Tryz.underlying56 hi hz0 hz1 hz2 rfl (by decide) _ _ _ rfl (hown.alloc _) ⟨wr.heap.size, 0, none⟩ 1 1 [.string (s.extract f k)] rfl rfl (cell_one_new _ _ _) (by intro x hx; simp at hx; rcases hx with rfl; rfl) (by unfold maxLen; omega) (by omega) (by simp; omega) ?_; intro v' w3 hown' hgrow _; obtain ⟨A', cap', rfl⟩ := own_form hown'; have HG := Lib.hid hgrow; have HO := Lib.hid hown'; have HW := Lib.hid hown; clear hgrow hown' hown)
        go_roundg g
        case measure => omega
        case rel => exact ⟨k + 1, k + 1, done ++ [s.extract f k], by omega, by omega, by go_num, by go_num, by simp; omega, Aside.intro hT.out, by rw [List.map_append, List.length_append]; exact HO.out, (HB.out.alloc HB.out.size _).grown HG.out (by simp; omega) (fun q hq => (HW.out.lt q hq).1)⟩
      by_cases c13 : s[k] = 13
      · have n10 : ((s[k].toNat : Int) != 10) = true := by rw [c13]; rfl
        have n13 : ((s[k].toNat : Int) != 13) = false := by rw [c13]; rfl
        have m13 : ((s[k].toNat : Int) == 13) = true := by rw [c13]; rfl
        by_cases hk1 : k + 1 < s.size
        · have hk1' : (k : Int) + 1 < (s.size : Int) := by omega
          by_cases d10 : s[k + 1] = 10
          · have m10 : ((s[k + 1].toNat : Int) == 10) = true := by rw [d10]; rfl
            have hT := Lib.hid (H.out.both hfk hk1 c13 d10)
            clear H c10 c13 d10
            go_wp2_with (at_builtin; refine wpList_append_own _ rfl _ _ 56 rfl w.heap.size 9 i0 (.string ByteArray.empty) 1 16 Tryz.underlying56 hi hz0 hz1 hz2 rfl (by decide) _ _ _ rfl (hown.alloc _) ⟨wr.heap.size, 0, none⟩ 1 1 [.string (s.extract f k)] rfl rfl (cell_one_new _ _ _) (by intro x hx; simp at hx; rcases hx with rfl; rfl) (by unfold maxLen; omega) (by omega) (by simp; omega) ?_; intro v' w3 hown' hgrow _; obtain ⟨A', cap', rfl⟩ := own_form hown'; have HG := Lib.hid hgrow; have HO := Lib.hid hown'; have HW := Lib.hid hown; clear hgrow hown' hown)
            go_roundg (s.size - (k + 2))
            case measure => omega
            case rel => exact ⟨k + 2, k + 2, done ++ [s.extract f k], by omega, by omega, by go_num, by go_num, by simp; omega, Aside.intro hT.out, by rw [List.map_append, List.length_append]; exact HO.out, (HB.out.alloc HB.out.size _).grown HG.out (by simp; omega) (fun q hq => (HW.out.lt q hq).1)⟩
          · have m10 : ((s[k + 1].toNat : Int) == 10) = false := beq_ne (ne_lit d10)
            have hT := Lib.hid (H.out.cr hfk hlt c13 (fun _ => d10))
            clear H c10 c13 d10
            go_wp2_with (at_builtin; refine wpList_append_own _ rfl _ _ 56 rfl w.heap.size 9 i0 (.string ByteArray.empty) 1 16 Tryz.underlying56 hi hz0 hz1 hz2 rfl (by decide) _ _ _ rfl (hown.alloc _) ⟨wr.heap.size, 0, none⟩ 1 1 [.string (s.extract f k)] rfl rfl (cell_one_new _ _ _) (by intro x hx; simp at hx; rcases hx with rfl; rfl) (by unfold maxLen; omega) (by omega) (by simp; omega) ?_; intro v' w3 hown' hgrow _; obtain ⟨A', cap', rfl⟩ := own_form hown'; have HG := Lib.hid hgrow; have HO := Lib.hid hown'; have HW := Lib.hid hown; clear hgrow hown' hown)
            go_roundg g
            case measure => omega
            case rel => exact ⟨k + 1, k + 1, done ++ [s.extract f k], by omega, by omega, by go_num, by go_num, by simp; omega, Aside.intro hT.out, by rw [List.map_append, List.length_append]; exact HO.out, (HB.out.alloc HB.out.size _).grown HG.out (by simp; omega) (fun q hq => (HW.out.lt q hq).1)⟩
        · have hk1' : ¬ ((k : Int) + 1 < (s.size : Int)) := by omega
          have hT := Lib.hid (H.out.cr hfk hlt c13 (fun h => absurd h hk1))
          clear H c10 c13
          go_wp2_with (at_builtin; refine wpList_append_own _ rfl _ _ 56 rfl w.heap.size 9 i0 (.string ByteArray.empty) 1 16 Tryz.underlying56 hi hz0 hz1 hz2 rfl (by decide) _ _ _ rfl (hown.alloc _) ⟨wr.heap.size, 0, none⟩ 1 1 [.string (s.extract f k)] rfl rfl (cell_one_new _ _ _) (by intro x hx; simp at hx; rcases hx with rfl; rfl) (by unfold maxLen; omega) (by omega) (by simp; omega) ?_; intro v' w3 hown' hgrow _; obtain ⟨A', cap', rfl⟩ := own_form hown'; have HG := Lib.hid hgrow; have HO := Lib.hid hown'; have HW := Lib.hid hown; clear hgrow hown' hown)
          go_roundg g
          case measure => omega
          case rel => exact ⟨k + 1, k + 1, done ++ [s.extract f k], by omega, by omega, by go_num, by go_num, by simp; omega, Aside.intro hT.out, by rw [List.map_append, List.length_append]; exact HO.out, (HB.out.alloc HB.out.size _).grown HG.out (by simp; omega) (fun q hq => (HW.out.lt q hq).1)⟩
      · have n10 : ((s[k].toNat : Int) != 10) = true := bne_ne (ne_lit c10)
        have n13 : ((s[k].toNat : Int) != 13) = true := bne_ne (ne_lit c13)
        have hT : Hid (LinesTo s f (k + 1) done) := Lib.hid ⟨H.out.1, plain_more hfk hlt H.out.2 (by simp [eolB, c10, c13])⟩
        clear H c10 c13
        go_wp2
        go_roundg g
        case measure => omega
        case rel => exact ⟨k + 1, f, done, by omega, by omega, by go_num, rfl, by omega, Aside.intro hT.out, hown, HB.out⟩

end Go.Proofs.YtaohniiemhahdaaGreatDoor.Blk
/- The walks of the document's own lead, blank and Indent. They only read. -/
namespace Go.Proofs.YtaohniiemhahdaaGreatDoor.Blk
open Go.RowKit

theorem lead_at {l : List UInt8} {k : Nat} {c : UInt8} (h : (l.take k).all blankB = true) (hc : l[k]? = some c) (hn : blankB c = false) : leadN l = k ∧ inkB l = true := by
  obtain ⟨hk, rfl⟩ := List.getElem?_eq_some_iff.1 hc
  have e : l = l.take k ++ l[k] :: l.drop (k + 1) := by rw [← List.drop_eq_getElem_cons hk, List.take_append_drop]
  have hl : (l.take k).length = k := by rw [List.length_take]; omega
  constructor
  · unfold leadN
    have ht : ∀ (a r : List UInt8) (d : UInt8), a.all blankB = true → blankB d = false → (a ++ d :: r).takeWhile blankB = a := by
      intro a r d ha hd
      induction a with
      | nil => simp [hd]
      | cons x a ih =>
        rw [List.all_cons, Bool.and_eq_true] at ha
        rw [List.cons_append, List.takeWhile_cons, ha.1]
        simp only [if_true]
        rw [ih ha.2]
    rw [e, ht _ _ _ h hn, hl]
  · unfold inkB
    rw [List.any_eq_true]
    exact ⟨l[k], List.getElem_mem hk, by simp [hn]⟩
theorem lead_end {l : List UInt8} (h : l.all blankB = true) : leadN l = l.length ∧ inkB l = false := by
  constructor
  · unfold leadN
    have ht : ∀ (a : List UInt8), a.all blankB = true → a.takeWhile blankB = a := by
      intro a ha
      induction a with
      | nil => rfl
      | cons x a ih =>
        rw [List.all_cons, Bool.and_eq_true] at ha
        rw [List.takeWhile_cons, ha.1]
        simp only [if_true]
        rw [ih ha.2]
    rw [ht l h]
  · unfold inkB
    rw [List.any_eq_false]
    intro c hc
    have := List.all_eq_true.1 h c hc
    simp [this]
theorem leadN_le (l : List UInt8) : leadN l ≤ l.length := by
  unfold leadN
  induction l with
  | nil => simp
  | cons c t ih => rw [List.takeWhile_cons]; split <;> simp <;> omega
theorem blank_more {s : ByteArray} {k : Nat} (hk : k < s.size) (h : (s.data.toList.take k).all blankB = true) (hc : blankB s[k] = true) : (s.data.toList.take (k + 1)).all blankB = true := by
  have hl : s.data.toList.length = s.size := Array.length_toList
  rw [List.take_add_one, List.getElem?_eq_getElem (by omega), List.all_append, h]
  simp only [Option.toList, List.all_cons, List.all_nil, Bool.and_true, Bool.true_and]
  exact hc
/-- The bytes of each. -/
def bytesL (xs : List ByteArray) : List (List UInt8) := xs.map fun x => x.data.toList
def indTo (xs : List ByteArray) (k : Nat) : Int := (((bytesL xs).drop 1).take (k - 1)).foldl stepI (-1)
theorem indTo_succ {xs : List ByteArray} {k : Nat} {x : ByteArray} (hk : 1 ≤ k) (hx : xs[k]? = some x) : indTo xs (k + 1) = stepI (indTo xs k) x.data.toList := by
  unfold indTo
  rw [show k + 1 - 1 = (k - 1) + 1 from by omega, List.take_add_one, List.getElem?_drop, show 1 + (k - 1) = k from by omega]
  unfold bytesL
  rw [List.getElem?_map, hx]
  simp [List.foldl_append]
theorem indTo_all {xs : List ByteArray} {k : Nat} (hk : xs.length ≤ k) : indTo xs k = indentL (bytesL xs) := by
  unfold indTo indentL
  rw [List.take_of_length_le (by simp [bytesL]; omega)]
theorem indTo_bd (xs : List ByteArray) (hx : ∀ x ∈ xs, x.size ≤ 100000) : ∀ k, -1 ≤ indTo xs k ∧ indTo xs k ≤ 100000 := by
  have hf : ∀ (ls : List (List UInt8)) (o : Int), (∀ l ∈ ls, l.length ≤ 100000) → -1 ≤ o → o ≤ 100000 → -1 ≤ ls.foldl stepI o ∧ ls.foldl stepI o ≤ 100000 := by
    intro ls
    induction ls with
    | nil => intro o _ h1 h2; exact ⟨h1, h2⟩
    | cons l ls ih =>
      intro o hl h1 h2
      rw [List.foldl_cons]
      have := leadN_le l
      have hll := hl l (by simp)
      refine ih _ (fun l' hl' => hl l' (by simp [hl'])) ?_ ?_
      · unfold stepI; split <;> omega
      · unfold stepI; split <;> omega
  intro k
  refine hf _ _ (fun l hl => ?_) (by omega) (by omega)
  have h1 := List.mem_of_mem_take hl
  have h2 := List.mem_of_mem_drop h1
  obtain ⟨x, hx', rfl⟩ := List.mem_map.1 h2
  have := hx x hx'
  rw [Lib.size_eq] at this
  exact this

end Go.Proofs.YtaohniiemhahdaaGreatDoor.Blk
/- The walks of the landed blank and bare. They only read. -/
namespace Go.Proofs.YtaohniiemhahdaaGreatDoor.Blk
open Go.RowKit

theorem blankB_int (c : UInt8) : blankB c = (((c.toNat : Int) == 9) || ((c.toNat : Int) == 32)) := by
  unfold blankB
  by_cases h9 : c = 9
  · subst h9; rfl
  by_cases h32 : c = 32
  · subst h32; rfl
  have e9 : ((c.toNat : Int) == 9) = false := beq_ne (ne_lit h9)
  have e32 : ((c.toNat : Int) == 32) = false := beq_ne (ne_lit h32)
  rw [e9, e32]
  simp [h9, h32]
theorem pblank_any (c : UInt8) (w : World) : Calls Tryz.prog 214 #[.int .u8 (c.toNat : Int)] w fun e w' => e = .returned (.bool (blankB c)) ∧ w = w' := by
  have H := Lib.hid (blankB_int c)
  by_cases h9 : c = 9
  · subst h9
    go_enter Tryz.func214, Tryz.ntmps214
    go_wp2
    go_ret
    exact ⟨rfl, rfl⟩
  · have n9 : ((c.toNat : Int) == 9) = false := beq_ne (ne_lit h9)
    by_cases h32 : c = 32
    · subst h32
      go_enter Tryz.func214, Tryz.ntmps214
      go_wp2
      go_ret
      exact ⟨rfl, rfl⟩
    · have n32 : ((c.toNat : Int) == 32) = false := beq_ne (ne_lit h32)
      have hf : Hid (blankB c = false) := Lib.hid (by rw [H.out, n9, n32]; rfl)
      go_enter Tryz.func214, Tryz.ntmps214
      go_wp2
      go_ret
      exact ⟨ret_bool hf.out.symm, rfl⟩

set_option maxRecDepth 100000 in
theorem pbare_any (s : ByteArray) (w : World) (hs : s.size ≤ 100000) : Calls Tryz.prog 188 #[.string s] w fun e w' => e = .returned (.bool (!inkB s.data.toList)) ∧ w = w' := by
  have HL : Hid (s.data.toList.length = s.size) := Lib.hid Array.length_toList
  go_enter Tryz.func188, Tryz.ntmps188
  go_wp2_with fail
  go_loopg [6] s.size (fun g i wx => ∃ k : Nat, k + g = s.size ∧ i = .int .i64 k ∧ Aside ((s.data.toList.take k).all blankB = true) ∧ w = wx)
  case atStart => exact ⟨0, by omega, rfl, Aside.intro (by simp), rfl⟩
  case round =>
    obtain ⟨k, hk, rfl, H, rfl⟩ := hrel
    cases gk with
    | zero =>
      obtain rfl : k = s.size := by omega
      have he := H.out
      rw [List.take_of_length_le (by rw [HL.out]; omega)] at he
      have h2 := Lib.hid (lead_end he).2
      clear he H
      go_wp2_with fail
      go_ret
      exact ⟨ret_bool (by rw [h2.out]; rfl), rfl⟩
    | succ g =>
      have hlt : k < s.size := by omega
      have hlt' : (k : Int) < (s.size : Int) := by omega
      have HB := Lib.hid (fun w => pblank_any s[k] w)
      cases hb : blankB s[k]
      · have hT := Lib.hid (lead_at H.out (by rw [List.getElem?_eq_getElem (by rw [HL.out]; exact hlt)]; rfl) hb).2
        have hB := Lib.hid hb
        clear H hb
        go_wp2_with fail
        refine (HB.out _).mono ?_
        rintro e w1 ⟨rfl, rfl⟩
        rw [hB.out]
        go_wp2_with fail
        go_ret
        exact ⟨ret_bool (by rw [hT.out]; rfl), rfl⟩
      · have hT := Lib.hid (blank_more hlt H.out hb)
        have hB := Lib.hid hb
        clear H hb
        go_wp2_with fail
        refine (HB.out _).mono ?_
        rintro e w1 ⟨rfl, rfl⟩
        rw [hB.out]
        go_wp2_with fail
        go_roundg g
        case measure => omega
        case rel => exact ⟨k + 1, by omega, by go_num, Aside.intro hT.out, rfl⟩
end Go.Proofs.YtaohniiemhahdaaGreatDoor.Blk
