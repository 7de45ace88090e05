/- The walk of the landed Lines: new memory that reads as the lines of the text. -/
import Derived.Test.YtpkmbhnikilihaaGreatDoorQj21
import Derived.Outline
import Derived.Shelf.Strings.OnBuilder
import Derived.StillTailTactics
import Derived.Deep.CutBlock
namespace Go.Proofs.YtpkmbhnikilihaaGreatDoor.Blk
open Go.RowKit

set_option maxRecDepth 100000 in
set_option maxHeartbeats 1000000 in
theorem plines_any (s : ByteArray) (w : World) (hs : s.size ≤ 13000) :
    Calls Tryz.prog 285 #[.string s] w fun e w' => ∃ A cap, e = .returned (.slice A (linesB s.data.toList).length cap) ∧ w'.ownsRow w.heap.size 9 1 (.slice A (linesB s.data.toList).length cap) (linesB s.data.toList).length ((linesB s.data.toList).map Value.string) ∧ Below w.heap.size w w' := by
  obtain ⟨i0, hi, hz0, hz1, hz2⟩ := info_str
  go_enter Tryz.func285, Tryz.ntmps285
  go_wp2
  go_loopg [3, 4, 5] s.size (fun g out fr i wx => ∃ (k f : Nat) (done : List ByteArray), f ≤ k ∧ k + g = s.size ∧ i = .int .i64 k ∧ fr = .int .i64 f ∧ done.length ≤ k ∧ Aside (LinesTo s f k done) ∧ wx.ownsRow w.heap.size 9 1 out done.length (done.map Value.string) ∧ Below w.heap.size w wx)
  case atStart => exact ⟨0, 0, [], by omega, by omega, rfl, rfl, by simp, Aside.intro ⟨by simp, by simp [plainL]⟩, World.ownsRow_nil _ _ _ _, Below.refl _ _⟩
  case round =>
    obtain ⟨k, f, done, hfk, hk, rfl, rfl, hdl, H, hown, hb⟩ := hrel
    obtain ⟨A, cap, rfl⟩ := own_form hown
    have hf0 : (0 : Int) ≤ (f : Int) := by omega
    have hfk' : (f : Int) ≤ (k : Int) := by omega
    have hks : (k : Int) ≤ (s.size : Int) := by omega
    have HB := Lib.hid hb
    have hbs := hb.size
    clear hb
    cases gk with
    | zero =>
      obtain rfl : k = s.size := by omega
      have hdone := Lib.hid (H.out.done)
      clear H
      go_wp2_with (at_builtin; refine wpList_append_own _ rfl _ _ 51 rfl w.heap.size 9 i0 (.string ByteArray.empty) 1 16 Tryz.underlying51 hi hz0 hz1 hz2 rfl (by decide) _ _ _ rfl (hown.alloc _) ⟨wr.heap.size, 0, none⟩ 1 1 [.string (s.extract f s.size)] rfl rfl (cell_one_new _ _ _) (by intro x hx; simp at hx; rcases hx with rfl; rfl) (by unfold maxLen; omega) (by omega) (by simp; omega) ?_; intro v' w3 hown' hgrow _; obtain ⟨A', cap', rfl⟩ := own_form hown'; have HG := Lib.hid hgrow; have HO := Lib.hid hown'; have HW := Lib.hid hown; clear hgrow hown' hown)
      go_ret
      refine ⟨A', cap', ?_, ?_, (HB.out.alloc HB.out.size _).grown HG.out (by simp; omega) (fun q hq => (HW.out.lt q hq).1)⟩
      · rw [hdone.out, List.length_append]; rfl
      · rw [hdone.out, List.map_append, List.length_append]; exact HO.out
    | succ g =>
      have hlt : k < s.size := by omega
      have hlt' : (k : Int) < (s.size : Int) := by omega
      by_cases c10 : s[k] = 10
      · have n10 : ((s[k].toNat : Int) != 10) = false := by rw [c10]; rfl
        have n13 : ((s[k].toNat : Int) == 13) = false := by rw [c10]; rfl
        have hT := Lib.hid (H.out.ten hfk hlt c10)
        clear H c10
        go_wp2_with (at_builtin; refine wpList_append_own _ rfl _ _ 51 rfl w.heap.size 9 i0 (.string ByteArray.empty) 1 16 Tryz.underlying51 hi hz0 hz1 hz2 rfl (by decide) _ _ _ rfl (hown.alloc _) ⟨wr.heap.size, 0, none⟩ 1 1 [.string (s.extract f k)] rfl rfl (cell_one_new _ _ _) (by intro x hx; simp at hx; rcases hx with rfl; rfl) (by unfold maxLen; omega) (by omega) (by simp; omega) ?_; intro v' w3 hown' hgrow _; obtain ⟨A', cap', rfl⟩ := own_form hown'; have HG := Lib.hid hgrow; have HO := Lib.hid hown'; have HW := Lib.hid hown; clear hgrow hown' hown)
        go_roundg g
        case measure => omega
        case rel => exact ⟨k + 1, k + 1, done ++ [s.extract f k], by omega, by omega, by go_num, by go_num, by simp; omega, Aside.intro hT.out, by rw [List.map_append, List.length_append]; exact HO.out, (HB.out.alloc HB.out.size _).grown HG.out (by simp; omega) (fun q hq => (HW.out.lt q hq).1)⟩
      by_cases c13 : s[k] = 13
      · have n10 : ((s[k].toNat : Int) != 10) = true := by rw [c13]; rfl
        have n13 : ((s[k].toNat : Int) != 13) = false := by rw [c13]; rfl
        have m13 : ((s[k].toNat : Int) == 13) = true := by rw [c13]; rfl
        by_cases hk1 : k + 1 < s.size
        · have hk1' : (k : Int) + 1 < (s.size : Int) := by omega
          by_cases d10 : s[k + 1] = 10
          · have m10 : ((s[k + 1].toNat : Int) == 10) = true := by rw [d10]; rfl
            have hT := Lib.hid (H.out.both hfk hk1 c13 d10)
            clear H c10 c13 d10
            go_wp2_with (at_builtin; refine wpList_append_own _ rfl _ _ 51 rfl w.heap.size 9 i0 (.string ByteArray.empty) 1 16 Tryz.underlying51 hi hz0 hz1 hz2 rfl (by decide) _ _ _ rfl (hown.alloc _) ⟨wr.heap.size, 0, none⟩ 1 1 [.string (s.extract f k)] rfl rfl (cell_one_new _ _ _) (by intro x hx; simp at hx; rcases hx with rfl; rfl) (by unfold maxLen; omega) (by omega) (by simp; omega) ?_; intro v' w3 hown' hgrow _; obtain ⟨A', cap', rfl⟩ := own_form hown'; have HG := Lib.hid hgrow; have HO := Lib.hid hown'; have HW := Lib.hid hown; clear hgrow hown' hown)
            go_roundg (s.size - (k + 2))
            case measure => omega
            case rel => exact ⟨k + 2, k + 2, done ++ [s.extract f k], by omega, by omega, by go_num, by go_num, by simp; omega, Aside.intro hT.out, by rw [List.map_append, List.length_append]; exact HO.out, (HB.out.alloc HB.out.size _).grown HG.out (by simp; omega) (fun q hq => (HW.out.lt q hq).1)⟩
          · have m10 : ((s[k + 1].toNat : Int) == 10) = false := beq_ne (ne_lit d10)
            have hT := Lib.hid (H.out.cr hfk hlt c13 (fun _ => d10))
            clear H c10 c13 d10
            go_wp2_with (at_builtin; refine wpList_append_own _ rfl _ _ 51 rfl w.heap.size 9 i0 (.string ByteArray.empty) 1 16 Tryz.underlying51 hi hz0 hz1 hz2 rfl (by decide) _ _ _ rfl (hown.alloc _) ⟨wr.heap.size, 0, none⟩ 1 1 [.string (s.extract f k)] rfl rfl (cell_one_new _ _ _) (by intro x hx; simp at hx; rcases hx with rfl; rfl) (by unfold maxLen; omega) (by omega) (by simp; omega) ?_; intro v' w3 hown' hgrow _; obtain ⟨A', cap', rfl⟩ := own_form hown'; have HG := Lib.hid hgrow; have HO := Lib.hid hown'; have HW := Lib.hid hown; clear hgrow hown' hown)
            go_roundg g
            case measure => omega
            case rel => exact ⟨k + 1, k + 1, done ++ [s.extract f k], by omega, by omega, by go_num, by go_num, by simp; omega, Aside.intro hT.out, by rw [List.map_append, List.length_append]; exact HO.out, (HB.out.alloc HB.out.size _).grown HG.out (by simp; omega) (fun q hq => (HW.out.lt q hq).1)⟩
        · have hk1' : ¬ ((k : Int) + 1 < (s.size : Int)) := by omega
          have hT := Lib.hid (H.out.cr hfk hlt c13 (fun h => absurd h hk1))
          clear H c10 c13
          go_wp2_with (at_builtin; refine wpList_append_own _ rfl _ _ 51 rfl w.heap.size 9 i0 (.string ByteArray.empty) 1 16 Tryz.underlying51 hi hz0 hz1 hz2 rfl (by decide) _ _ _ rfl (hown.alloc _) ⟨wr.heap.size, 0, none⟩ 1 1 [.string (s.extract f k)] rfl rfl (cell_one_new _ _ _) (by intro x hx; simp at hx; rcases hx with rfl; rfl) (by unfold maxLen; omega) (by omega) (by simp; omega) ?_; intro v' w3 hown' hgrow _; obtain ⟨A', cap', rfl⟩ := own_form hown'; have HG := Lib.hid hgrow; have HO := Lib.hid hown'; have HW := Lib.hid hown; clear hgrow hown' hown)
          go_roundg g
          case measure => omega
          case rel => exact ⟨k + 1, k + 1, done ++ [s.extract f k], by omega, by omega, by go_num, by go_num, by simp; omega, Aside.intro hT.out, by rw [List.map_append, List.length_append]; exact HO.out, (HB.out.alloc HB.out.size _).grown HG.out (by simp; omega) (fun q hq => (HW.out.lt q hq).1)⟩
      · have n10 : ((s[k].toNat : Int) != 10) = true := bne_ne (ne_lit c10)
        have n13 : ((s[k].toNat : Int) != 13) = true := bne_ne (ne_lit c13)
        have hT : Hid (LinesTo s f (k + 1) done) := Lib.hid ⟨H.out.1, plain_more hfk hlt H.out.2 (by simp [eolB, c10, c13])⟩
        clear H c10 c13
        go_wp2
        go_roundg g
        case measure => omega
        case rel => exact ⟨k + 1, f, done, by omega, by omega, by go_num, rfl, by omega, Aside.intro hT.out, hown, HB.out⟩

end Go.Proofs.YtpkmbhnikilihaaGreatDoor.Blk
/- The walks of the document's own lead, blank and Indent. They only read. -/
namespace Go.Proofs.YtpkmbhnikilihaaGreatDoor.Blk
open Go.RowKit

theorem lead_at {l : List UInt8} {k : Nat} {c : UInt8} (h : (l.take k).all blankB = true) (hc : l[k]? = some c) (hn : blankB c = false) : leadN l = k ∧ inkB l = true := by
  obtain ⟨hk, rfl⟩ := List.getElem?_eq_some_iff.1 hc
  have e : l = l.take k ++ l[k] :: l.drop (k + 1) := by rw [← List.drop_eq_getElem_cons hk, List.take_append_drop]
  have hl : (l.take k).length = k := by rw [List.length_take]; omega
  constructor
  · unfold leadN
    have ht : ∀ (a r : List UInt8) (d : UInt8), a.all blankB = true → blankB d = false → (a ++ d :: r).takeWhile blankB = a := by
      intro a r d ha hd
      induction a with
      | nil => simp [hd]
      | cons x a ih =>
        rw [List.all_cons, Bool.and_eq_true] at ha
        rw [List.cons_append, List.takeWhile_cons, ha.1]
        simp only [if_true]
        rw [ih ha.2]
    rw [e, ht _ _ _ h hn, hl]
  · unfold inkB
    rw [List.any_eq_true]
    exact ⟨l[k], List.getElem_mem hk, by simp [hn]⟩
theorem lead_end {l : List UInt8} (h : l.all blankB = true) : leadN l = l.length ∧ inkB l = false := by
  constructor
  · unfold leadN
    have ht : ∀ (a : List UInt8), a.all blankB = true → a.takeWhile blankB = a := by
      intro a ha
      induction a with
      | nil => rfl
      | cons x a ih =>
        rw [List.all_cons, Bool.and_eq_true] at ha
        rw [List.takeWhile_cons, ha.1]
        simp only [if_true]
        rw [ih ha.2]
    rw [ht l h]
  · unfold inkB
    rw [List.any_eq_false]
    intro c hc
    have := List.all_eq_true.1 h c hc
    simp [this]
theorem leadN_le (l : List UInt8) : leadN l ≤ l.length := by
  unfold leadN
  induction l with
  | nil => simp
  | cons c t ih => rw [List.takeWhile_cons]; split <;> simp <;> omega
theorem blank_more {s : ByteArray} {k : Nat} (hk : k < s.size) (h : (s.data.toList.take k).all blankB = true) (hc : blankB s[k] = true) : (s.data.toList.take (k + 1)).all blankB = true := by
  have hl : s.data.toList.length = s.size := Array.length_toList
  rw [List.take_add_one, List.getElem?_eq_getElem (by omega), List.all_append, h]
  simp only [Option.toList, List.all_cons, List.all_nil, Bool.and_true, Bool.true_and]
  exact hc
/-- The bytes of each. -/
def bytesL (xs : List ByteArray) : List (List UInt8) := xs.map fun x => x.data.toList
def indTo (xs : List ByteArray) (k : Nat) : Int := (((bytesL xs).drop 1).take (k - 1)).foldl stepI (-1)
theorem indTo_succ {xs : List ByteArray} {k : Nat} {x : ByteArray} (hk : 1 ≤ k) (hx : xs[k]? = some x) : indTo xs (k + 1) = stepI (indTo xs k) x.data.toList := by
  unfold indTo
  rw [show k + 1 - 1 = (k - 1) + 1 from by omega, List.take_add_one, List.getElem?_drop, show 1 + (k - 1) = k from by omega]
  unfold bytesL
  rw [List.getElem?_map, hx]
  simp [List.foldl_append]
theorem indTo_all {xs : List ByteArray} {k : Nat} (hk : xs.length ≤ k) : indTo xs k = indentL (bytesL xs) := by
  unfold indTo indentL
  rw [List.take_of_length_le (by simp [bytesL]; omega)]
theorem indTo_bd (xs : List ByteArray) (hx : ∀ x ∈ xs, x.size ≤ 100000) : ∀ k, -1 ≤ indTo xs k ∧ indTo xs k ≤ 100000 := by
  have hf : ∀ (ls : List (List UInt8)) (o : Int), (∀ l ∈ ls, l.length ≤ 100000) → -1 ≤ o → o ≤ 100000 → -1 ≤ ls.foldl stepI o ∧ ls.foldl stepI o ≤ 100000 := by
    intro ls
    induction ls with
    | nil => intro o _ h1 h2; exact ⟨h1, h2⟩
    | cons l ls ih =>
      intro o hl h1 h2
      rw [List.foldl_cons]
      have := leadN_le l
      have hll := hl l (by simp)
      refine ih _ (fun l' hl' => hl l' (by simp [hl'])) ?_ ?_
      · unfold stepI; split <;> omega
      · unfold stepI; split <;> omega
  intro k
  refine hf _ _ (fun l hl => ?_) (by omega) (by omega)
  have h1 := List.mem_of_mem_take hl
  have h2 := List.mem_of_mem_drop h1
  obtain ⟨x, hx', rfl⟩ := List.mem_map.1 h2
  have := hx x hx'
  rw [Lib.size_eq] at this
  exact this

end Go.Proofs.YtpkmbhnikilihaaGreatDoor.Blk
/- The walks of the landed blank and bare. They only read. -/
namespace Go.Proofs.YtpkmbhnikilihaaGreatDoor.Blk
open Go.RowKit

theorem blankB_int (c : UInt8) : blankB c = (((c.toNat : Int) == 9) || ((c.toNat : Int) == 32)) := by
  unfold blankB
  by_cases h9 : c = 9
  · subst h9; rfl
  by_cases h32 : c = 32
  · subst h32; rfl
  have e9 : ((c.toNat : Int) == 9) = false := beq_ne (ne_lit h9)
  have e32 : ((c.toNat : Int) == 32) = false := beq_ne (ne_lit h32)
  rw [e9, e32]
  simp [h9, h32]
theorem pblank_any (c : UInt8) (w : World) : Calls Tryz.prog 302 #[.int .u8 (c.toNat : Int)] w fun e w' => e = .returned (.bool (blankB c)) ∧ w = w' := by
  have H := Lib.hid (blankB_int c)
  by_cases h9 : c = 9
  · subst h9
    go_enter Tryz.func302, Tryz.ntmps302
    go_wp2
    go_ret
    exact ⟨rfl, rfl⟩
  · have n9 : ((c.toNat : Int) == 9) = false := beq_ne (ne_lit h9)
    by_cases h32 : c = 32
    · subst h32
      go_enter Tryz.func302, Tryz.ntmps302
      go_wp2
      go_ret
      exact ⟨rfl, rfl⟩
    · have n32 : ((c.toNat : Int) == 32) = false := beq_ne (ne_lit h32)
      have hf : Hid (blankB c = false) := Lib.hid (by rw [H.out, n9, n32]; rfl)
      go_enter Tryz.func302, Tryz.ntmps302
      go_wp2
      go_ret
      exact ⟨ret_bool hf.out.symm, rfl⟩

set_option maxRecDepth 100000 in
theorem pbare_any (s : ByteArray) (w : World) (hs : s.size ≤ 100000) : Calls Tryz.prog 287 #[.string s] w fun e w' => e = .returned (.bool (!inkB s.data.toList)) ∧ w = w' := by
  have HL : Hid (s.data.toList.length = s.size) := Lib.hid Array.length_toList
  go_enter Tryz.func287, Tryz.ntmps287
  go_wp2_with fail
  go_loopg [6] s.size (fun g i wx => ∃ k : Nat, k + g = s.size ∧ i = .int .i64 k ∧ Aside ((s.data.toList.take k).all blankB = true) ∧ w = wx)
  case atStart => exact ⟨0, by omega, rfl, Aside.intro (by simp), rfl⟩
  case round =>
    obtain ⟨k, hk, rfl, H, rfl⟩ := hrel
    cases gk with
    | zero =>
      obtain rfl : k = s.size := by omega
      have he := H.out
      rw [List.take_of_length_le (by rw [HL.out]; omega)] at he
      have h2 := Lib.hid (lead_end he).2
      clear he H
      go_wp2_with fail
      go_ret
      exact ⟨ret_bool (by rw [h2.out]; rfl), rfl⟩
    | succ g =>
      have hlt : k < s.size := by omega
      have hlt' : (k : Int) < (s.size : Int) := by omega
      have HB := Lib.hid (fun w => pblank_any s[k] w)
      cases hb : blankB s[k]
      · have hT := Lib.hid (lead_at H.out (by rw [List.getElem?_eq_getElem (by rw [HL.out]; exact hlt)]; rfl) hb).2
        have hB := Lib.hid hb
        clear H hb
        go_wp2_with fail
        refine (HB.out _).mono ?_
        rintro e w1 ⟨rfl, rfl⟩
        rw [hB.out]
        go_wp2_with fail
        go_ret
        exact ⟨ret_bool (by rw [hT.out]; rfl), rfl⟩
      · have hT := Lib.hid (blank_more hlt H.out hb)
        have hB := Lib.hid hb
        clear H hb
        go_wp2_with fail
        refine (HB.out _).mono ?_
        rintro e w1 ⟨rfl, rfl⟩
        rw [hB.out]
        go_wp2_with fail
        go_roundg g
        case measure => omega
        case rel => exact ⟨k + 1, by omega, by go_num, Aside.intro hT.out, rfl⟩
end Go.Proofs.YtpkmbhnikilihaaGreatDoor.Blk
/- The walk of the landed Indent. It only reads. -/
namespace Go.Proofs.YtpkmbhnikilihaaGreatDoor.Blk
open Go.RowKit
set_option maxRecDepth 100000 in
set_option maxHeartbeats 1000000 in
theorem pindent_any (A : Option Addr) (n c : Nat) (xs : List ByteArray) (w : World) (hn : n ≤ 100000) (hz : StrsAt w w.heap.size A n xs) (hx : ∀ x ∈ xs, x.size ≤ 100000) :
    Calls Tryz.prog 286 #[.slice A n c] w fun e w' => e = .returned (.int .i64 (indentL (bytesL xs))) ∧ w = w' := by
  have HZ := Lib.hid hz
  have HX := Lib.hid hx
  clear hz hx
  go_enter Tryz.func286, Tryz.ntmps286
  go_wp2
  go_step3
  go_wp2
  go_step3
  go_wp2
  go_loopg [3, 9] n (fun g out i wx => ∃ k : Nat, k + g = n ∧ i = .int .i64 k ∧ out = .int .i64 (indTo xs k) ∧ w = wx)
  case atStart => exact ⟨0, by omega, rfl, by simp [indTo], rfl⟩
  case round =>
    obtain ⟨k, hkg, rfl, rfl, rfl⟩ := hrel
    have hbd := indTo_bd xs HX.out k
    have hbd1 := hbd.1
    have hbd2 := hbd.2
    clear hbd
    cases gk with
    | zero =>
      obtain rfl : k = n := by omega
      have hfin := Lib.hid (indTo_all (xs := xs) (k := k) (by rw [HZ.out.1]; omega))
      go_wp2_with fail
      try rw [Exit.noGoto_ret]
      go_ret
      exact ⟨ret_int hfin.out, rfl⟩
    | succ g =>
      have hlt' : (k : Int) < (n : Int) := by omega
      obtain ⟨x, hxk⟩ : ∃ x, xs[k]? = some x := ⟨_, List.getElem?_eq_getElem (by rw [HZ.out.1]; omega)⟩
      obtain ⟨b, o, rfl, hblt, hcell⟩ := HZ.out.2 k x hxk
      have hxs : x.size ≤ 100000 := HX.out x (List.mem_of_getElem? hxk)
      have hk0 : (0 : Int) ≤ (k : Int) := by omega
      by_cases hk : k = 0
      · have hs : Hid (indTo xs (k + 1) = indTo xs k) := Lib.hid (by simp [indTo, hk])
        have hkeq : ((k : Int) == 0) = true := by simp; omega
        clear hxk hk
        generalize indTo xs k = v at *
        go_wp2_with fail
        go_roundg g
        case measure => omega
        case rel => exact ⟨k + 1, by omega, by go_num, by rw [hs.out], rfl⟩
      · have hk1 : 1 ≤ k := by omega
        have hkne : ((k : Int) == 0) = false := by simp; omega
        have hs := Lib.hid (indTo_succ hk1 hxk)
        have HXL : Hid (x.data.toList.length = x.size) := Lib.hid Array.length_toList
        clear hxk hk
        generalize indTo xs k = v at *
        go_wp2_with fail
        go_loopg [3, 18] x.size (fun g2 out i wx => ∃ j : Nat, j + g2 = x.size ∧ i = .int .i64 j ∧ out = .int .i64 v ∧ Aside ((x.data.toList.take j).all blankB = true) ∧ w = wx)
        case atStart => exact ⟨0, by omega, rfl, rfl, Aside.intro (by simp), rfl⟩
        case round =>
          obtain ⟨j, hj, rfl, rfl, H, rfl⟩ := hrel
          cases gk with
          | zero =>
            obtain rfl : j = x.size := by omega
            have he := H.out
            rw [List.take_of_length_le (by rw [HXL.out]; omega)] at he
            have h2 := (lead_end he).2
            have hst : Hid (indTo xs (k + 1) = v) := Lib.hid (by rw [hs.out]; unfold stepI; rw [if_neg (by rw [h2]; simp)])
            clear he H h2
            go_wp2_with fail
            go_roundg g
            case measure => omega
            case rel => exact ⟨k + 1, by omega, by go_num, by rw [hst.out], rfl⟩
          | succ g2 =>
            have hlt : j < x.size := by omega
            have hltj : (j : Int) < (x.size : Int) := by omega
            have hj0 : (0 : Int) ≤ (j : Int) := by omega
            have HB := Lib.hid (fun w => pblank_any x[j] w)
            cases hb : blankB x[j]
            · have hx2 := lead_at H.out (by rw [List.getElem?_eq_getElem (by rw [HXL.out]; exact hlt)]; rfl) hb
              have hB := Lib.hid hb
              have hx21 := Lib.hid hx2.1
              have hx22 := Lib.hid hx2.2
              clear H hb hx2
              by_cases hv : v < 0
              · have hst : Hid (indTo xs (k + 1) = (j : Int)) := Lib.hid (by rw [hs.out]; unfold stepI; rw [hx21.out, if_pos ⟨hx22.out, .inl hv⟩])
                go_wp2_with fail
                refine (HB.out _).mono ?_
                rintro e w1 ⟨rfl, rfl⟩
                rw [hB.out]
                go_wp2_with fail
                go_roundg g
                case measure => omega
                case rel => exact ⟨k + 1, by omega, by go_num, by rw [hst.out], rfl⟩
              · have e1 : decide (v < 0) = false := by simp; omega
                by_cases hmv : (j : Int) < v
                · have hst : Hid (indTo xs (k + 1) = (j : Int)) := Lib.hid (by rw [hs.out]; unfold stepI; rw [hx21.out, if_pos ⟨hx22.out, .inr hmv⟩])
                  go_wp2_with fail
                  refine (HB.out _).mono ?_
                  rintro e w1 ⟨rfl, rfl⟩
                  rw [hB.out]
                  go_wp2_with fail
                  go_roundg g
                  case measure => omega
                  case rel => exact ⟨k + 1, by omega, by go_num, by rw [hst.out], rfl⟩
                · have e2 : decide ((j : Int) < v) = false := by simp; omega
                  have hst : Hid (indTo xs (k + 1) = v) := Lib.hid (by rw [hs.out]; unfold stepI; rw [hx21.out, if_neg (by rintro ⟨_, h | h⟩ <;> omega)])
                  go_wp2_with fail
                  refine (HB.out _).mono ?_
                  rintro e w1 ⟨rfl, rfl⟩
                  rw [hB.out]
                  go_wp2_with fail
                  go_roundg g
                  case measure => omega
                  case rel => exact ⟨k + 1, by omega, by go_num, by rw [hst.out], rfl⟩
            · have hT := Lib.hid (blank_more hlt H.out hb)
              have hB := Lib.hid hb
              clear H hb
              go_wp2_with fail
              refine (HB.out _).mono ?_
              rintro e w1 ⟨rfl, rfl⟩
              rw [hB.out]
              go_wp2_with fail
              go_roundg g2
              case measure => omega
              case rel => exact ⟨j + 1, by omega, by go_num, rfl, Aside.intro hT.out, rfl⟩
end Go.Proofs.YtpkmbhnikilihaaGreatDoor.Blk
/- The library's own contract on strings.Join at this translation, laid by hand in plain words. -/
namespace Go.Proofs.YtpkmbhnikilihaaGreatDoor.Blk
open Go.Shelf Go.RowKit
def joinRen : Go.Shelf.Ren := ⟨fun | 156 => 288 | 165 => 303 | 166 => 61 | 169 => 62 | 240 => 139 | 241 => 308 | 276 => 203 | 277 => 310 | n => n, fun | 0 => 0 | 3 => 3 | 4 => 4 | 5 => 5 | 9 => 9 | 20 => 20 | 31 => 51 | 37 => 100 | 70 => 99 | 72 => 102 | 75 => 105 | 76 => 108 | 80 => 110 | 127 => 176 | 164 => 220 | n => n, fun | n => n⟩
theorem joinLays : Go.Proofs.Lays.n156 Tryz.prog joinRen := {
  mixed := by kernel_rfl
  f156 := Tryz.func288.trans (congrArg some (by kernel_rfl))
  f165 := Tryz.func303.trans (congrArg some (by kernel_rfl))
  f166 := Tryz.func61.trans (congrArg some (by kernel_rfl))
  f169 := Tryz.func62.trans (congrArg some (by kernel_rfl))
  f240 := Tryz.func139.trans (congrArg some (by kernel_rfl))
  f241 := Tryz.func308.trans (congrArg some (by kernel_rfl))
  f276 := Tryz.func203.trans (congrArg some (by kernel_rfl))
  f277 := Tryz.func310.trans (congrArg some (by kernel_rfl))
  t0 := Tryz.underlying0
  a0 := Tryz.isAgg0
  z0 := Tryz.sizeOf0
  v0 := Tryz.zeroValue0
  t3 := Tryz.underlying3
  a3 := Tryz.isAgg3
  z3 := Tryz.sizeOf3
  v3 := Tryz.zeroValue3
  t4 := Tryz.underlying4
  a4 := Tryz.isAgg4
  z4 := Tryz.sizeOf4
  v4 := Tryz.zeroValue4
  t9 := Tryz.underlying9
  a9 := Tryz.isAgg9
  z9 := Tryz.sizeOf9
  v9 := Tryz.zeroValue9
  t20 := Tryz.underlying20
  a20 := Tryz.isAgg20
  z20 := Tryz.sizeOf20
  v20 := Tryz.zeroValue20
  t31 := Tryz.underlying51
  a31 := Tryz.isAgg51
  z31 := Tryz.sizeOf51
  v31 := Tryz.zeroValue51
  t37 := Tryz.underlying100
  a37 := Tryz.isAgg100
  z37 := Tryz.sizeOf100
  v37 := Tryz.zeroValue100
  t70 := Tryz.underlying99
  a70 := Tryz.isAgg99
  z70 := Tryz.sizeOf99
  v70 := Tryz.zeroValue99
  t72 := Tryz.underlying102
  a72 := Tryz.isAgg102
  z72 := Tryz.sizeOf102
  v72 := Tryz.zeroValue102
  t75 := Tryz.underlying105
  a75 := Tryz.isAgg105
  z75 := Tryz.sizeOf105
  v75 := Tryz.zeroValue105
  t76 := Tryz.underlying108
  a76 := Tryz.isAgg108
  z76 := Tryz.sizeOf108
  v76 := Tryz.zeroValue108
  t127 := Tryz.underlying176
  a127 := Tryz.isAgg176
  z127 := Tryz.sizeOf176
  v127 := Tryz.zeroValue176
  t164 := Tryz.underlying220
  a164 := Tryz.isAgg220
  z164 := Tryz.sizeOf220
  v164 := Tryz.zeroValue220 }
theorem joinExtra : Builder.Extra Tryz.prog joinRen := {
  sizeBuilder := by kernel_rfl
  liesBuilder := by kernel_rfl
  t5 := Tryz.underlying5
  a5 := Tryz.isAgg5
  z5 := Tryz.sizeOf5
  v5 := Tryz.zeroValue5
  infoByte := by kernel_rfl
  cellsByte := by kernel_rfl
  sizeByte := by kernel_rfl
  neB5 := by decide }
/-- strings.Join, however many elements. -/
theorem pjoin_many (bk o c : Nat) (xs : List ByteArray) (sep : ByteArray) (w : World) (hcells : ∀ (j : Nat) x, xs[j]? = some x → w.cell? ⟨bk, o + j, none⟩ = some (.string x)) (hbk : bk < w.heap.size) (hN : xs.length ≤ 140737488355328) (hcap : xs.length ≤ c) (hlen : (Lib.join (xs.map (·.data.toList)) sep.data.toList).length ≤ 140737488355328) :
    Calls Tryz.prog 288 #[.slice (some ⟨bk, o, none⟩) xs.length c, .string sep] w fun e w' => e = .returned (.string ⟨(Lib.join (xs.map (·.data.toList)) sep.data.toList).toArray⟩) ∧ Below w.heap.size w w' :=
  Any.strings_Join joinLays joinExtra bk o c xs sep w hcells hbk hN hcap hlen
/-- strings.Join of nothing. -/
theorem pjoin_none (a : Option Addr) (c : Nat) (sep : ByteArray) (w : World) :
    Calls Tryz.prog 288 #[.slice a 0 c, .string sep] w fun e w' => e = .returned (.string ⟨#[]⟩) ∧ w' = w :=
  Any.strings_Join_none joinLays joinExtra a c sep w
end Go.Proofs.YtpkmbhnikilihaaGreatDoor.Blk
/- The walk of the document's own Block. -/
namespace Go.Proofs.YtpkmbhnikilihaaGreatDoor.Blk
open Go.RowKit

theorem linesB_bytes (l : List UInt8) : bytesL (linesB l) = linesL l := by
  unfold bytesL linesB
  rw [List.map_map]
  have : ((fun x : ByteArray => x.data.toList) ∘ fun x : List UInt8 => (⟨x.toArray⟩ : ByteArray)) = id := by funext x; simp
  rw [this, List.map_id]
theorem strs_some {w : World} {base n : Nat} {A : Option Addr} {cap : Nat} {xs : List Value} (h : w.ownsRow base 9 1 (.slice A n cap) n xs) (hn : 0 < n) : ∃ g, A = some ⟨g, 0, none⟩ ∧ base ≤ g ∧ g < w.heap.size ∧ n ≤ cap := by
  rcases h.2 with ⟨_, h0⟩ | ⟨g, c, cur, hv, hb, _, hnc, _⟩
  · omega
  · have hv' := hv
    injection hv' with h1 h2 h3
    subst h1
    exact ⟨g, rfl, hb, (h.lt g rfl).2, by omega⟩
theorem after_room {l t : List UInt8} (h : afterL l = some t) : (firstL l).length + 1 + t.length ≤ l.length := by
  have e : (firstL l).length + (l.dropWhile fun c => !eolB c).length = l.length := by
    unfold firstL
    rw [← List.length_append, List.takeWhile_append_dropWhile]
  have : t.length < (l.dropWhile fun c => !eolB c).length := by
    unfold afterL at h
    generalize l.dropWhile (fun c => !eolB c) = r at *
    split at h
    · cases h
    · split at h
      · split at h
        · split at h
          · cases h; simp only [List.length_cons]; omega
          · cases h; simp only [List.length_cons]; omega
        · cases h; simp
      · cases h; simp
  omega
theorem lines_room : ∀ (n : Nat) (l : List UInt8), l.length < n → (linesL l).length ≤ l.length + 1 ∧ (∀ x ∈ linesL l, x.length ≤ l.length) ∧ (joinTen (linesL l)).length ≤ l.length := by
  intro n
  induction n with
  | zero => intro l h; omega
  | succ n ih =>
    intro l hl
    have hf : (firstL l).length ≤ l.length := by
      unfold firstL
      have e : (l.takeWhile fun c => !eolB c).length + (l.dropWhile fun c => !eolB c).length = l.length := by rw [← List.length_append, List.takeWhile_append_dropWhile]
      omega
    rw [linesL_eq]
    cases ha : afterL l with
    | none =>
      refine ⟨by simp, fun x hx => ?_, by simpa [joinTen] using hf⟩
      simp only [List.mem_cons, List.not_mem_nil, or_false] at hx
      rw [hx]; exact hf
    | some t =>
      have hr := after_room ha
      obtain ⟨h1, h2, h3⟩ := ih t (by omega)
      refine ⟨by simp only [List.length_cons]; omega, fun x hx => ?_, ?_⟩
      · simp only [List.mem_cons] at hx
        rcases hx with hx | hx
        · rw [hx]; exact hf
        · have := h2 x hx; omega
      · show (joinTen (firstL l :: linesL t)).length ≤ _
        cases hlt : linesL t with
        | nil => exact absurd hlt (linesL_ne t)
        | cons y r =>
          rw [hlt] at h3
          show (firstL l ++ 10 :: joinTen (y :: r)).length ≤ _
          rw [List.length_append, List.length_cons]
          omega
/-- A line without its first m bytes. -/
def cutS (m : Nat) (x : ByteArray) : ByteArray := x.extract (min m x.size) x.size
/-- The lines, each but the first without its first m bytes, as far as k. -/
def cutB (m k : Nat) (xs : List ByteArray) : List ByteArray := xs.mapIdx fun i x => if 1 ≤ i ∧ i < k then cutS m x else x
theorem cutB_get {m k j : Nat} {xs : List ByteArray} : (cutB m k xs)[j]? = (xs[j]?).map fun x => if 1 ≤ j ∧ j < k then cutS m x else x := by
  unfold cutB; rw [List.getElem?_mapIdx]
theorem cutB_start (m : Nat) (xs : List ByteArray) : cutB m 1 xs = xs := by
  apply List.ext_getElem?
  intro j
  rw [cutB_get]
  cases xs[j]? with
  | none => rfl
  | some x => simp only [Option.map_some]; rw [if_neg (by omega)]
theorem cutB_set {m k : Nat} {xs : List ByteArray} {x : ByteArray} (hk : 1 ≤ k) (hx : xs[k]? = some x) : (cutB m k xs).set k (cutS m x) = cutB m (k + 1) xs := by
  apply List.ext_getElem?
  intro j
  rw [List.getElem?_set, cutB_get, cutB_get]
  by_cases hj : k = j
  · subst hj
    rw [if_pos rfl, hx]
    have : k < (cutB m k xs).length := by
      have := (List.getElem?_eq_some_iff.1 hx).1
      unfold cutB; rw [List.length_mapIdx]; exact this
    rw [if_pos this]
    simp only [Option.map_some]
    rw [if_pos ⟨hk, by omega⟩]
  · rw [if_neg hj]
    cases xs[j]? with
    | none => rfl
    | some y =>
      simp only [Option.map_some]
      by_cases h : 1 ≤ j ∧ j < k
      · rw [if_pos h, if_pos ⟨h.1, by omega⟩]
      · rw [if_neg h, if_neg (by omega)]
theorem cutB_length (m k : Nat) (xs : List ByteArray) : (cutB m k xs).length = xs.length := by unfold cutB; simp
theorem cutS_bytes (m : Nat) (x : ByteArray) : (cutS m x).data.toList = x.data.toList.drop m := by
  unfold cutS
  rw [extract_list, List.take_of_length_le (by rw [List.length_drop, ← Lib.size_eq]; omega)]
  by_cases h : m ≤ x.size
  · rw [Nat.min_eq_left h]
  · rw [Nat.min_eq_right (by omega), List.drop_eq_nil_of_le (by rw [← Lib.size_eq]; omega), List.drop_eq_nil_of_le (by rw [← Lib.size_eq]; omega)]
theorem cutB_bytes (m : Nat) (xs : List ByteArray) : bytesL (cutB m xs.length xs) = cutL m (bytesL xs) := by
  apply List.ext_getElem?
  intro j
  unfold bytesL
  rw [List.getElem?_map, cutB_get]
  cases xs with
  | nil => simp [cutL]
  | cons y t =>
    cases j with
    | zero => simp [cutL]
    | succ j =>
      simp only [List.getElem?_cons_succ, List.map_cons, cutL, List.map_map, List.getElem?_map, List.length_cons, Option.map_map]
      cases h : t[j]? with
      | none => rfl
      | some z =>
        have := (List.getElem?_eq_some_iff.1 h).1
        simp only [Option.map_some, Function.comp]
        rw [if_pos (by omega), cutS_bytes]

theorem strs_of_own' {w : World} {base n : Nat} {A : Option Addr} {cap : Nat} {xs : List ByteArray} (h : w.ownsRow base 9 1 (.slice A n cap) n (xs.map Value.string)) : StrsAt w w.heap.size A n xs := by
  have hl : xs.length = n := by have := h.1; rw [List.length_map] at this; omega
  subst hl
  exact (strs_of_own h).2
theorem dropWhile_all (p : List UInt8 → Bool) : ∀ (a r : List (List UInt8)), a.all p = true → (a ++ r).dropWhile p = r.dropWhile p := by
  intro a r h
  induction a with
  | nil => rfl
  | cons x a ih =>
    rw [List.all_cons, Bool.and_eq_true] at h
    rw [List.cons_append, List.dropWhile_cons, h.1]
    simp only [if_true]
    exact ih h.2
theorem front_end {ls : List (List UInt8)} {f : Nat} (h : (ls.take f).all (fun l => !inkB l) = true) : ls.length ≤ f → frontL ls = [] := by
  intro hf
  rw [List.take_of_length_le hf] at h
  have := dropWhile_all (fun l => !inkB l) ls [] h
  rw [List.append_nil] at this
  exact this
theorem front_stop {ls : List (List UInt8)} {f : Nat} {x : List UInt8} (h : (ls.take f).all (fun l => !inkB l) = true) (hx : ls[f]? = some x) (hi : inkB x = true) : frontL ls = ls.drop f := by
  obtain ⟨hf, rfl⟩ := List.getElem?_eq_some_iff.1 hx
  unfold frontL
  conv => lhs; rw [← List.take_append_drop f ls]
  rw [dropWhile_all _ _ _ h, List.drop_eq_getElem_cons hf, List.dropWhile_cons]
  simp [hi]
theorem blank_next {ls : List (List UInt8)} {f : Nat} {x : List UInt8} (h : (ls.take f).all (fun l => !inkB l) = true) (hx : ls[f]? = some x) (hi : inkB x = false) : (ls.take (f + 1)).all (fun l => !inkB l) = true := by
  rw [List.take_add_one, hx, List.all_append, h]
  simp [hi]
theorem blank_back {ls : List (List UInt8)} {u : Nat} {x : List UInt8} (h : (ls.drop (u + 1)).all (fun l => !inkB l) = true) (hx : ls[u]? = some x) (hi : inkB x = false) : (ls.drop u).all (fun l => !inkB l) = true := by
  obtain ⟨hf, rfl⟩ := List.getElem?_eq_some_iff.1 hx
  rw [List.drop_eq_getElem_cons hf, List.all_cons, h]
  simp [hi]
theorem back_of {ls a b : List (List UInt8)} {f : Nat} (hF : frontL ls = ls.drop f) (he : ls.drop f = a ++ b) (hb : b.all (fun l => !inkB l) = true) (ha : a.reverse.dropWhile (fun l => !inkB l) = a.reverse) : trimL ls = a := by
  unfold trimL
  rw [hF, he, List.reverse_append]
  unfold frontL
  rw [dropWhile_all _ _ _ (by rw [List.all_reverse]; exact hb), ha, List.reverse_reverse]
theorem back_end {ls : List (List UInt8)} {f : Nat} (hF : frontL ls = ls.drop f) (h : (ls.drop f).all (fun l => !inkB l) = true) : trimL ls = (ls.drop f).take (f - f) := by
  rw [back_of (a := []) hF rfl h rfl]; simp
theorem back_stop {ls : List (List UInt8)} {f u : Nat} {x : List UInt8} (hF : frontL ls = ls.drop f) (hf : f ≤ u) (h : (ls.drop (u + 1)).all (fun l => !inkB l) = true) (hx : ls[u]? = some x) (hi : inkB x = true) : trimL ls = (ls.drop f).take (u + 1 - f) := by
  obtain ⟨hu, rfl⟩ := List.getElem?_eq_some_iff.1 hx
  refine back_of (b := ls.drop (u + 1)) hF ?_ h ?_
  · have := (List.take_append_drop (u + 1 - f) (ls.drop f)).symm
    rw [List.drop_drop, show f + (u + 1 - f) = u + 1 from by omega] at this
    exact this
  · rw [show u + 1 - f = (u - f) + 1 from by omega, List.take_add_one, List.getElem?_drop, show f + (u - f) = u from by omega, List.getElem?_eq_getElem hu]
    simp [hi]
end Go.Proofs.YtpkmbhnikilihaaGreatDoor.Blk
/- Plain facts behind the laws of block: what is shown is made of lines, begins and ends with ink, is no longer than the text; and moving all lines but an empty first one further in changes nothing. -/
namespace Go.Proofs.YtpkmbhnikilihaaGreatDoor.Blk

/- SIZES -/
def sumL : List (List UInt8) → Nat
  | [] => 0
  | x :: t => x.length + sumL t
theorem joinTen_len : ∀ ls : List (List UInt8), (joinTen ls).length + 1 = sumL ls + ls.length + (if ls = [] then 1 else 0) := by
  intro ls
  induction ls with
  | nil => rfl
  | cons x t ih =>
    cases t with
    | nil => simp [joinTen, sumL]
    | cons y t =>
      rw [if_neg (by simp)] at ih ⊢
      show (x ++ 10 :: joinTen (y :: t)).length + 1 = _
      rw [List.length_append, List.length_cons]
      show _ = x.length + sumL (y :: t) + ((y :: t).length + 1) + 0
      omega
theorem sumL_append (a b : List (List UInt8)) : sumL (a ++ b) = sumL a + sumL b := by
  induction a with
  | nil => simp [sumL]
  | cons x t ih => rw [List.cons_append]; simp only [sumL]; omega
theorem infix_sum {a b : List (List UInt8)} (h : a <:+: b) : sumL a + a.length ≤ sumL b + b.length := by
  obtain ⟨p, q, rfl⟩ := h
  rw [sumL_append, sumL_append, List.length_append, List.length_append]
  omega
theorem trim_infix (ls : List (List UInt8)) : trimL ls <:+: ls := by
  have h1 : trimL ls <+: frontL ls := by
    have := List.dropWhile_suffix (l := (frontL ls).reverse) (fun x => !inkB x)
    have h2 := List.reverse_prefix.2 this
    rw [List.reverse_reverse] at h2
    exact h2
  have h2 : frontL ls <:+ ls := List.dropWhile_suffix _
  exact h1.isInfix.trans h2.isInfix
theorem cut_sum (n : Nat) (ls : List (List UInt8)) : sumL (cutL n ls) ≤ sumL ls ∧ (cutL n ls).length = ls.length := by
  cases ls with
  | nil => exact ⟨Nat.le_refl _, rfl⟩
  | cons x t =>
    simp only [cutL, sumL, List.length_cons, List.length_map, and_true]
    have : sumL (t.map (List.drop n)) ≤ sumL t := by
      induction t with
      | nil => exact Nat.le_refl _
      | cons y t ih => simp only [List.map_cons, sumL, List.length_drop]; omega
    omega
theorem after_len {l t : List UInt8} (h : afterL l = some t) : (firstL l).length + 1 + t.length ≤ l.length := by
  have e : (firstL l).length + (l.dropWhile fun c => !eolB c).length = l.length := by
    unfold firstL
    rw [← List.length_append, List.takeWhile_append_dropWhile]
  have : t.length < (l.dropWhile fun c => !eolB c).length := by
    unfold afterL at h
    generalize l.dropWhile (fun c => !eolB c) = r at *
    split at h
    · cases h
    · split at h
      · split at h
        · split at h
          · cases h; simp only [List.length_cons]; omega
          · cases h; simp only [List.length_cons]; omega
        · cases h; simp
      · cases h; simp
  omega
theorem lines_sum : ∀ (n : Nat) (l : List UInt8), l.length < n → sumL (linesL l) + (linesL l).length ≤ l.length + 1 := by
  intro n
  induction n with
  | zero => intro l h; omega
  | succ n ih =>
    intro l hl
    have hf : (firstL l).length ≤ l.length := by
      unfold firstL
      have e : (l.takeWhile fun c => !eolB c).length + (l.dropWhile fun c => !eolB c).length = l.length := by rw [← List.length_append, List.takeWhile_append_dropWhile]
      omega
    rw [linesL_eq]
    cases ha : afterL l with
    | none => simp only [sumL, List.length_cons, List.length_nil]; omega
    | some t =>
      have hr := after_len ha
      have := ih t (by omega)
      simp only [sumL, List.length_cons]
      omega
theorem value_len (raw : List UInt8) : (valueL raw).length ≤ raw.length := by
  have h1 := lines_sum _ raw (Nat.lt_succ_self _)
  have h2 := cut_sum (max (indentL (linesL raw)) 0).toNat (linesL raw)
  have h3 := infix_sum (trim_infix (cutL (max (indentL (linesL raw)) 0).toNat (linesL raw)))
  have h4 := joinTen_len (shownL raw)
  unfold valueL
  by_cases hs : shownL raw = []
  · rw [hs]; simp [joinTen]
  · rw [if_neg hs] at h4
    have h3' : sumL (shownL raw) + (shownL raw).length ≤ sumL (cutL (max (indentL (linesL raw)) 0).toNat (linesL raw)) + (cutL (max (indentL (linesL raw)) 0).toNat (linesL raw)).length := h3
    omega

/- SHIFTS -/
def gapL (n : Nat) : List UInt8 := List.replicate n 32
end Go.Proofs.YtpkmbhnikilihaaGreatDoor.Blk
