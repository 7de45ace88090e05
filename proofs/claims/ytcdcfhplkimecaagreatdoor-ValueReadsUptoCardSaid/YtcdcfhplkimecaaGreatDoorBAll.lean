/- Slices of strings: what they read as, kept while nothing below turns; small words for walks. -/
import Derived.Test.YtcdcfhplkimecaaGreatDoorChecked
import Derived.Test.YtcdcfhplkimecaaGreatDoorBMath
import Derived.WalkKit
import Derived.Deep.LoopGhost
import Derived.Below
import Derived.Lib.Hide
import Derived.Laws.AppendOwn
import Derived.Laws.MakeOwn
import Derived.Laws.AppendOwnNone
import Derived.Deep.AppendLies
import Derived.Deep.QuietTactic
import Derived.BigQuiet
import Derived.Deep.Draws
import Derived.Outline
import Derived.Shelf.Strings.OnBuilder
import Derived.Test.YtcdcfhplkimecaaGreatDoorProg
import Derived.StillTailTactics
import Derived.Deep.DeepCutAuto
import Derived.Deep.CutBlock
namespace Go.Proofs.YtcdcfhplkimecaaGreatDoor.Blk
open Go.RowKit

theorem Aside.intro {p : Prop} (h : p) : Aside p := h
theorem ret_bool {a b : Bool} (h : a = b) : Ending.returned (.bool a) = .returned (.bool b) := by rw [h]
theorem ret_int {a b : Int} (h : a = b) : Ending.returned (.int .i64 a) = .returned (.int .i64 b) := by rw [h]
theorem ret_str {a b : ByteArray} (h : a = b) : Ending.returned (.string a) = .returned (.string b) := by rw [h]
theorem below_draws {B : Nat} {a w : World} (h : Below B a w) (n : Nat) : Below B a (w.drewN n) := ⟨h.os, h.tape, h.output, h.size, h.block⟩
theorem take_both {α : Type} {xs ys : List α} {k : Nat} {x : α} (h : xs.take k = ys.take k) (ha : xs[k]? = some x) (hb : ys[k]? = some x) : xs.take (k + 1) = ys.take (k + 1) := by
  rw [List.take_add_one, List.take_add_one, h, ha, hb]
theorem grown_of {w w' : World} (h : Below w.heap.size w w') : w.grownBy w' none := ⟨h.os, h.tape, h.output, h.size, fun i hi _ => h.block i hi⟩
theorem own_none (v : Value) : v.ownBlock = none ∨ v.ownBlock ≠ none := Classical.em _
theorem own_form {w : World} {base : Nat} {e : TypeId} {v : Value} {n : Nat} {xs : List Value} (h : w.ownsRow base e 1 v n xs) : ∃ A cap, v = .slice A n cap := by
  rcases h.2 with ⟨hv, hn⟩ | ⟨g, cap, cur, hv, _⟩
  · exact ⟨none, 0, by rw [hv, hn]⟩
  · exact ⟨_, _, hv⟩

/-- A slice of strings that lies below block B and reads as xs. -/
def StrsAt (w : World) (B : Nat) (A : Option Addr) (n : Nat) (xs : List ByteArray) : Prop :=
  xs.length = n ∧ ∀ (j : Nat) x, xs[j]? = some x → ∃ b o, A = some ⟨b, o, none⟩ ∧ b < B ∧ w.cell? ⟨b, o + j, none⟩ = some (.string x)
theorem StrsAt.below {w w' : World} {B : Nat} {A : Option Addr} {n : Nat} {xs : List ByteArray} (h : StrsAt w B A n xs) (hb : Below B w w') : StrsAt w' B A n xs :=
  ⟨h.1, fun j z hz => by
    obtain ⟨b, o, e, hlt, hc⟩ := h.2 j z hz
    exact ⟨b, o, e, hlt, (hb.cell (p := ⟨b, o + j, none⟩) hlt).trans hc⟩⟩
theorem StrsAt.more {w : World} {B B' : Nat} {A : Option Addr} {n : Nat} {xs : List ByteArray} (h : StrsAt w B A n xs) (hB : B ≤ B') : StrsAt w B' A n xs :=
  ⟨h.1, fun j z hz => by
    obtain ⟨b, o, e, hlt, hc⟩ := h.2 j z hz
    exact ⟨b, o, e, by omega, hc⟩⟩
theorem StrsAt.on {w w' : World} {A : Option Addr} {n : Nat} {xs : List ByteArray} (h : StrsAt w w.heap.size A n xs) (hb : Below w.heap.size w w') : StrsAt w' w'.heap.size A n xs := (h.below hb).more hb.size
theorem StrsAt.init {w : World} {B n : Nat} {A : Option Addr} {xs : List ByteArray} {y : ByteArray} (h : StrsAt w B A (n + 1) (xs ++ [y])) : StrsAt w B A n xs := by
  have hl : xs.length = n := by have := h.1; rw [List.length_append] at this; simpa using this
  refine ⟨hl, fun j z hz => h.2 j z ?_⟩
  rw [List.getElem?_append_left (List.getElem?_eq_some_iff.1 hz).1]
  exact hz
theorem strs_of_own {w : World} {base n : Nat} {A : Option Addr} {cap : Nat} {xs : List ByteArray} (h : w.ownsRow base 9 1 (.slice A n cap) xs.length (xs.map Value.string)) : n = xs.length ∧ StrsAt w w.heap.size A xs.length xs := by
  rcases h.2 with ⟨hv, hn⟩ | ⟨g, c, cur, hv, hbase, hh, hnc, hm, hcs, htk⟩
  · injection hv with h1 h2 h3
    have hus : xs = [] := List.eq_nil_of_length_eq_zero hn
    subst hus
    exact ⟨by simpa using h2, ⟨rfl, fun j z hz => by simp at hz⟩⟩
  · have hv' := hv
    injection hv' with h1 h2 h3
    subst h1
    refine ⟨h2, rfl, fun j z hz => ⟨g, 0, rfl, ?_, ?_⟩⟩
    · exact (h.lt g rfl).2
    · subst h2 h3
      rw [Nat.zero_add, World.ownsRow.cellAt h j (by have := (List.getElem?_eq_some_iff.1 hz).1; omega), List.getElem?_map, hz]
      rfl
theorem strs_own_cap {w : World} {base n m : Nat} {A : Option Addr} {cap : Nat} {xs : List ByteArray} (h : w.ownsRow base 9 1 (.slice A m cap) n (xs.map Value.string)) (hn : 0 < n) : ∃ g, A = some ⟨g, 0, none⟩ ∧ m = n ∧ n ≤ cap ∧ StrsAt w w.heap.size A n xs := by
  have hl : xs.length = n := by have := h.1; rw [List.length_map] at this; omega
  subst hl
  rcases h.2 with ⟨_, h0⟩ | ⟨g, c, cur, hv, _, _, hnc, _⟩
  · omega
  · have hi := strs_of_own h
    injection hv with h1 h2 h3
    exact ⟨g, h1, h2, by omega, hi.2⟩
end Go.Proofs.YtcdcfhplkimecaaGreatDoor.Blk
/- The walk of the document's own Lines: new memory that reads as the lines of the text. -/
namespace Go.Proofs.YtcdcfhplkimecaaGreatDoor.Blk
open Go.RowKit

def linesB (l : List UInt8) : List ByteArray := (linesL l).map fun x => ⟨x.toArray⟩
theorem ne_lit {b c : UInt8} (h : b ≠ c) : (b.toNat : Int) ≠ (c.toNat : Int) := fun e => h (UInt8.toNat_inj.1 (by omega))
theorem beq_ne {b : UInt8} {z : Int} (h : (b.toNat : Int) ≠ z) : ((b.toNat : Int) == z) = false := by simp [h]
theorem bne_ne {b : UInt8} {z : Int} (h : (b.toNat : Int) ≠ z) : ((b.toNat : Int) != z) = true := by simp [h]
theorem drop_at (s : ByteArray) (f k : Nat) (hf : f ≤ k) (hk : k < s.size) : s.data.toList.drop f = (s.data.toList.drop f).take (k - f) ++ s[k] :: s.data.toList.drop (k + 1) := by
  have hl : s.data.toList.length = s.size := Array.length_toList
  have e := (List.take_append_drop (k - f) (s.data.toList.drop f)).symm
  rw [List.drop_drop, show f + (k - f) = k from by omega, List.drop_eq_getElem_cons (i := k) (by omega)] at e
  exact e
theorem plain_more {s : ByteArray} {f k : Nat} (hf : f ≤ k) (hk : k < s.size) (h : plainL ((s.data.toList.drop f).take (k - f))) (hc : eolB s[k] = false) : plainL ((s.data.toList.drop f).take (k + 1 - f)) := by
  have hl : s.data.toList.length = s.size := Array.length_toList
  have e : (s.data.toList.drop f).take (k + 1 - f) = (s.data.toList.drop f).take (k - f) ++ [s[k]] := by
    rw [show k + 1 - f = (k - f) + 1 from by omega, List.take_add_one, List.getElem?_drop, show f + (k - f) = k from by omega, List.getElem?_eq_getElem (by omega)]
    rfl
  rw [e]
  intro c hc'
  rw [List.mem_append] at hc'
  rcases hc' with h' | h'
  · exact h c h'
  · simp only [List.mem_cons, List.not_mem_nil, or_false] at h'
    rw [h']; exact hc
/-- So far these lines; the rest from f on is still to come, and no line's end stands between f and k. -/
def LinesTo (s : ByteArray) (f k : Nat) (done : List ByteArray) : Prop := done ++ linesB (s.data.toList.drop f) = linesB s.data.toList ∧ plainL ((s.data.toList.drop f).take (k - f))
theorem mk_of {S : ByteArray} {a : List UInt8} (h : S.data.toList = a) : (⟨a.toArray⟩ : ByteArray) = S := by subst h; simp
theorem extract_list (s : ByteArray) (f k : Nat) : (s.extract f k).data.toList = (s.data.toList.drop f).take (k - f) := by
  rw [ByteArray.data_extract, Array.toList_extract, List.extract]
theorem LinesTo.ten {s : ByteArray} {f k : Nat} {done : List ByteArray} (h : LinesTo s f k done) (hf : f ≤ k) (hk : k < s.size) (hc : s[k] = 10) : LinesTo s (k + 1) (k + 1) (done ++ [s.extract f k]) := by
  obtain ⟨h1, h2⟩ := h
  rw [drop_at s f k hf hk, hc] at h1
  unfold linesB at h1
  rw [linesL_ten h2, List.map_cons, mk_of (extract_list s f k)] at h1
  exact ⟨by unfold linesB; rw [← h1]; simp, by simp [plainL]⟩
theorem LinesTo.both {s : ByteArray} {f k : Nat} {done : List ByteArray} (h : LinesTo s f k done) (hf : f ≤ k) (hk : k + 1 < s.size) (hc : s[k] = 13) (hd : s[k + 1] = 10) : LinesTo s (k + 2) (k + 2) (done ++ [s.extract f k]) := by
  obtain ⟨h1, h2⟩ := h
  have hl : s.data.toList.length = s.size := Array.length_toList
  have e : s.data.toList.drop (k + 1) = s[k + 1] :: s.data.toList.drop (k + 2) := List.drop_eq_getElem_cons (by omega)
  rw [drop_at s f k hf (by omega), hc, e, hd] at h1
  unfold linesB at h1
  rw [linesL_both h2, List.map_cons, mk_of (extract_list s f k)] at h1
  exact ⟨by unfold linesB; rw [← h1]; simp, by simp [plainL]⟩
theorem LinesTo.cr {s : ByteArray} {f k : Nat} {done : List ByteArray} (h : LinesTo s f k done) (hf : f ≤ k) (hk : k < s.size) (hc : s[k] = 13) (hd : ∀ (h : k + 1 < s.size), s[k + 1] ≠ 10) : LinesTo s (k + 1) (k + 1) (done ++ [s.extract f k]) := by
  obtain ⟨h1, h2⟩ := h
  have hl : s.data.toList.length = s.size := Array.length_toList
  have hr : (s.data.toList.drop (k + 1)).head? ≠ some 10 := by
    rw [List.head?_drop]
    by_cases hk1 : k + 1 < s.size
    · rw [List.getElem?_eq_getElem (by omega)]
      intro e
      injection e with e
      exact hd hk1 e
    · rw [List.getElem?_eq_none (by omega)]
      intro e; cases e
  rw [drop_at s f k hf hk, hc] at h1
  unfold linesB at h1
  rw [linesL_cr h2 hr, List.map_cons, mk_of (extract_list s f k)] at h1
  exact ⟨by unfold linesB; rw [← h1]; simp, by simp [plainL]⟩
theorem LinesTo.done {s : ByteArray} {f : Nat} {done : List ByteArray} (h : LinesTo s f s.size done) : linesB s.data.toList = done ++ [s.extract f s.size] := by
  obtain ⟨h1, h2⟩ := h
  have hl : s.data.toList.length = s.size := Array.length_toList
  rw [List.take_of_length_le (by rw [List.length_drop]; omega)] at h2
  rw [← h1]
  unfold linesB
  rw [linesL_one h2]
  have := mk_of (extract_list s f s.size)
  rw [List.take_of_length_le (by rw [List.length_drop]; omega)] at this
  simp [this]

theorem info_str : ∃ i0, Tryz.prog.info? 9 = some i0 ∧ i0.zero = some (.string ByteArray.empty) ∧ i0.size = 1 ∧ i0.bytes = 16 := by
  have hi9 : (Tryz.prog.info? 9).map (fun i => (i.zero, i.size, i.bytes)) = some (some (.string ByteArray.empty), 1, 16) := by kernel_rfl
  obtain ⟨i0, hi, hx⟩ := Option.map_eq_some_iff.1 hi9
  simp only [Prod.mk.injEq] at hx
  exact ⟨i0, hi, hx.1, hx.2.1, hx.2.2⟩

end Go.Proofs.YtcdcfhplkimecaaGreatDoor.Blk
/- The walk of the landed Lines: new memory that reads as the lines of the text. -/
namespace Go.Proofs.YtcdcfhplkimecaaGreatDoor.Blk
open Go.RowKit

set_option maxRecDepth 100000 in
set_option maxHeartbeats 1000000 in
theorem plines_any (s : ByteArray) (w : World) (hs : s.size ≤ 13000) :
    Calls Tryz.prog 79 #[.string s] w fun e w' => ∃ A cap, e = .returned (.slice A (linesB s.data.toList).length cap) ∧ w'.ownsRow w.heap.size 9 1 (.slice A (linesB s.data.toList).length cap) (linesB s.data.toList).length ((linesB s.data.toList).map Value.string) ∧ Below w.heap.size w w' := by
  obtain ⟨i0, hi, hz0, hz1, hz2⟩ := info_str
  go_enter Tryz.func79, Tryz.ntmps79
  go_wp2
  go_loopg [3, 4, 5] s.size (fun g out fr i wx => ∃ (k f : Nat) (done : List ByteArray), f ≤ k ∧ k + g = s.size ∧ i = .int .i64 k ∧ fr = .int .i64 f ∧ done.length ≤ k ∧ Aside (LinesTo s f k done) ∧ wx.ownsRow w.heap.size 9 1 out done.length (done.map Value.string) ∧ Below w.heap.size w wx)
  case atStart => exact ⟨0, 0, [], by omega, by omega, rfl, rfl, by simp, Aside.intro ⟨by simp, by simp [plainL]⟩, World.ownsRow_nil _ _ _ _, Below.refl _ _⟩
  case round =>
    obtain ⟨k, f, done, hfk, hk, rfl, rfl, hdl, H, hown, hb⟩ := hrel
    obtain ⟨A, cap, rfl⟩ := own_form hown
    have hf0 : (0 : Int) ≤ (f : Int) := by omega
    have hfk' : (f : Int) ≤ (k : Int) := by omega
    have hks : (k : Int) ≤ (s.size : Int) := by omega
    have HB := Lib.hid hb
    have hbs := hb.size
    clear hb
    cases gk with
    | zero =>
      obtain rfl : k = s.size := by omega
      have hdone := Lib.hid (H.out.done)
      clear H
      go_wp2_with (at_builtin; refine wpList_append_own _ rfl _ _ 103 rfl w.heap.size 9 i0 (.string ByteArray.empty) 1 16 Tryz.underlying103 hi hz0 hz1 hz2 rfl (by decide) _ _ _ rfl (hown.alloc _) ⟨wr.heap.size, 0, none⟩ 1 1 [.string (s.extract f s.size)] rfl rfl (cell_one_new _ _ _) (by intro x hx; simp at hx; rcases hx with rfl; rfl) (by unfold maxLen; omega) (by omega) (by simp; omega) ?_; intro v' w3 hown' hgrow _; obtain ⟨A', cap', rfl⟩ := own_form hown'; have HG := Lib.hid hgrow; have HO := Lib.hid hown'; have HW := Lib.hid hown; clear hgrow hown' hown)
      go_ret
      refine ⟨A', cap', ?_, ?_, (HB.out.alloc HB.out.size _).grown HG.out (by simp; omega) (fun q hq => (HW.out.lt q hq).1)⟩
      · rw [hdone.out, List.length_append]; rfl
      · rw [hdone.out, List.map_append, List.length_append]; exact HO.out
    | succ g =>
      have hlt : k < s.size := by omega
      have hlt' : (k : Int) < (s.size : Int) := by omega
      by_cases c10 : s[k] = 10
      · have n10 : ((s[k].toNat : Int) != 10) = false := by rw [c10]; rfl
        have n13 : ((s[k].toNat : Int) == 13) = false := by rw [c10]; rfl
        have hT := Lib.hid (H.out.ten hfk hlt c10)
        clear H c10
        go_wp2_with (at_builtin; refine wpList_append_own _ rfl _ _ 103 rfl w.heap.size 9 i0 (.string ByteArray.empty) 1 16 Tryz.underlying103 hi hz0 hz1 hz2 rfl (by decide) _ _ _ rfl (hown.alloc _) ⟨wr.heap.size, 0, none⟩ 1 1 [.string (s.extract f k)] rfl rfl (cell_one_new _ _ _) (by intro x hx; simp at hx; rcases hx with rfl; rfl) (by unfold maxLen; omega) (by omega) (by simp; omega) ?_; intro v' w3 hown' hgrow _; obtain ⟨A', cap', rfl⟩ := own_form hown'; have HG := Lib.hid hgrow; have HO := Lib.hid hown'; have HW := Lib.hid hown; clear hgrow hown' hown)
        go_roundg g
        case measure => omega
        case rel => exact ⟨k + 1, k + 1, done ++ [s.extract f k], by omega, by omega, by go_num, by go_num, by simp; omega, Aside.intro hT.out, by rw [List.map_append, List.length_append]; exact HO.out, (HB.out.alloc HB.out.size _).grown HG.out (by simp; omega) (fun q hq => (HW.out.lt q hq).1)⟩
      by_cases c13 : s[k] = 13
      · have n10 : ((s[k].toNat : Int) != 10) = true := by rw [c13]; rfl
        have n13 : ((s[k].toNat : Int) != 13) = false := by rw [c13]; rfl
        have m13 : ((s[k].toNat : Int) == 13) = true := by rw [c13]; rfl
        by_cases hk1 : k + 1 < s.size
        · have hk1' : (k : Int) + 1 < (s.size : Int) := by omega
          by_cases d10 : s[k + 1] = 10
          · have m10 : ((s[k + 1].toNat : Int) == 10) = true := by rw [d10]; rfl
            have hT := Lib.hid (H.out.both hfk hk1 c13 d10)
            clear H c10 c13 d10
            go_wp2_with (at_builtin; refine wpList_append_own _ rfl _ _ 103 rfl w.heap.size 9 i0 (.string ByteArray.empty) 1 16 Tryz.underlying103 hi hz0 hz1 hz2 rfl (by decide) _ _ _ rfl (hown.alloc _) ⟨wr.heap.size, 0, none⟩ 1 1 [.string (s.extract f k)] rfl rfl (cell_one_new _ _ _) (by intro x hx; simp at hx; rcases hx with rfl; rfl) (by unfold maxLen; omega) (by omega) (by simp; omega) ?_; intro v' w3 hown' hgrow _; obtain ⟨A', cap', rfl⟩ := own_form hown'; have HG := Lib.hid hgrow; have HO := Lib.hid hown'; have HW := Lib.hid hown; clear hgrow hown' hown)
            go_roundg (s.size - (k + 2))
            case measure => omega
            case rel => exact ⟨k + 2, k + 2, done ++ [s.extract f k], by omega, by omega, by go_num, by go_num, by simp; omega, Aside.intro hT.out, by rw [List.map_append, List.length_append]; exact HO.out, (HB.out.alloc HB.out.size _).grown HG.out (by simp; omega) (fun q hq => (HW.out.lt q hq).1)⟩
          · have m10 : ((s[k + 1].toNat : Int) == 10) = false := beq_ne (ne_lit d10)
            have hT := Lib.hid (H.out.cr hfk hlt c13 (fun _ => d10))
            clear H c10 c13 d10
            go_wp2_with (at_builtin; refine wpList_append_own _ rfl _ _ 103 rfl w.heap.size 9 i0 (.string ByteArray.empty) 1 16 Tryz.underlying103 hi hz0 hz1 hz2 rfl (by decide) _ _ _ rfl (hown.alloc _) ⟨wr.heap.size, 0, none⟩ 1 1 [.string (s.extract f k)] rfl rfl (cell_one_new _ _ _) (by intro x hx; simp at hx; rcases hx with rfl; rfl) (by unfold maxLen; omega) (by omega) (by simp; omega) ?_; intro v' w3 hown' hgrow _; obtain ⟨A', cap', rfl⟩ := own_form hown'; have HG := Lib.hid hgrow; have HO := Lib.hid hown'; have HW := Lib.hid hown; clear hgrow hown' hown)
            go_roundg g
            case measure => omega
            case rel => exact ⟨k + 1, k + 1, done ++ [s.extract f k], by omega, by omega, by go_num, by go_num, by simp; omega, Aside.intro hT.out, by rw [List.map_append, List.length_append]; exact HO.out, (HB.out.alloc HB.out.size _).grown HG.out (by simp; omega) (fun q hq => (HW.out.lt q hq).1)⟩
        · have hk1' : ¬ ((k : Int) + 1 < (s.size : Int)) := by omega
          have hT := Lib.hid (H.out.cr hfk hlt c13 (fun h => absurd h hk1))
          clear H c10 c13
          go_wp2_with (at_builtin; refine wpList_append_own _ rfl _ _ 103 rfl w.heap.size 9 i0 (.string ByteArray.empty) 1 16 Tryz.underlying103 hi hz0 hz1 hz2 rfl (by decide) _ _ _ rfl (hown.alloc _) ⟨wr.heap.size, 0, none⟩ 1 1 [.string (s.extract f k)] rfl rfl (cell_one_new _ _ _) (by intro x hx; simp at hx; rcases hx with rfl; rfl) (by unfold maxLen; omega) (by omega) (by simp; omega) ?_; intro v' w3 hown' hgrow _; obtain ⟨A', cap', rfl⟩ := own_form hown'; have HG := Lib.hid hgrow; have HO := Lib.hid hown'; have HW := Lib.hid hown; clear hgrow hown' hown)
          go_roundg g
          case measure => omega
          case rel => exact ⟨k + 1, k + 1, done ++ [s.extract f k], by omega, by omega, by go_num, by go_num, by simp; omega, Aside.intro hT.out, by rw [List.map_append, List.length_append]; exact HO.out, (HB.out.alloc HB.out.size _).grown HG.out (by simp; omega) (fun q hq => (HW.out.lt q hq).1)⟩
      · have n10 : ((s[k].toNat : Int) != 10) = true := bne_ne (ne_lit c10)
        have n13 : ((s[k].toNat : Int) != 13) = true := bne_ne (ne_lit c13)
        have hT : Hid (LinesTo s f (k + 1) done) := Lib.hid ⟨H.out.1, plain_more hfk hlt H.out.2 (by simp [eolB, c10, c13])⟩
        clear H c10 c13
        go_wp2
        go_roundg g
        case measure => omega
        case rel => exact ⟨k + 1, f, done, by omega, by omega, by go_num, rfl, by omega, Aside.intro hT.out, hown, HB.out⟩

theorem plines (s : ByteArray) (w : World) (hs : s.size ≤ 13000) : Calls Tryz.prog 79 #[.string s] w fun e w' => ∃ A cap, e = .returned (.slice A (linesB s.data.toList).length cap) ∧ StrsAt w' w'.heap.size A (linesB s.data.toList).length (linesB s.data.toList) ∧ Below w.heap.size w w' :=
  (plines_any s w hs).mono fun _ _ ⟨A, cap, he, hown, hb⟩ => ⟨A, cap, he, (strs_of_own hown).2, hb⟩
end Go.Proofs.YtcdcfhplkimecaaGreatDoor.Blk
/- The walks of the document's own lead, blank and Indent. They only read. -/
namespace Go.Proofs.YtcdcfhplkimecaaGreatDoor.Blk
open Go.RowKit

theorem lead_at {l : List UInt8} {k : Nat} {c : UInt8} (h : (l.take k).all blankB = true) (hc : l[k]? = some c) (hn : blankB c = false) : leadN l = k ∧ inkB l = true := by
  obtain ⟨hk, rfl⟩ := List.getElem?_eq_some_iff.1 hc
  have e : l = l.take k ++ l[k] :: l.drop (k + 1) := by rw [← List.drop_eq_getElem_cons hk, List.take_append_drop]
  have hl : (l.take k).length = k := by rw [List.length_take]; omega
  constructor
  · unfold leadN
    have ht : ∀ (a r : List UInt8) (d : UInt8), a.all blankB = true → blankB d = false → (a ++ d :: r).takeWhile blankB = a := by
      intro a r d ha hd
      induction a with
      | nil => simp [hd]
      | cons x a ih =>
        rw [List.all_cons, Bool.and_eq_true] at ha
        rw [List.cons_append, List.takeWhile_cons, ha.1]
        simp only [if_true]
        rw [ih ha.2]
    rw [e, ht _ _ _ h hn, hl]
  · unfold inkB
    rw [List.any_eq_true]
    exact ⟨l[k], List.getElem_mem hk, by simp [hn]⟩
theorem lead_end {l : List UInt8} (h : l.all blankB = true) : leadN l = l.length ∧ inkB l = false := by
  constructor
  · unfold leadN
    have ht : ∀ (a : List UInt8), a.all blankB = true → a.takeWhile blankB = a := by
      intro a ha
      induction a with
      | nil => rfl
      | cons x a ih =>
        rw [List.all_cons, Bool.and_eq_true] at ha
        rw [List.takeWhile_cons, ha.1]
        simp only [if_true]
        rw [ih ha.2]
    rw [ht l h]
  · unfold inkB
    rw [List.any_eq_false]
    intro c hc
    have := List.all_eq_true.1 h c hc
    simp [this]
theorem leadN_le (l : List UInt8) : leadN l ≤ l.length := by
  unfold leadN
  induction l with
  | nil => simp
  | cons c t ih => rw [List.takeWhile_cons]; split <;> simp <;> omega
theorem blank_more {s : ByteArray} {k : Nat} (hk : k < s.size) (h : (s.data.toList.take k).all blankB = true) (hc : blankB s[k] = true) : (s.data.toList.take (k + 1)).all blankB = true := by
  have hl : s.data.toList.length = s.size := Array.length_toList
  rw [List.take_add_one, List.getElem?_eq_getElem (by omega), List.all_append, h]
  simp only [Option.toList, List.all_cons, List.all_nil, Bool.and_true, Bool.true_and]
  exact hc
theorem ret_lead {a b : Int} {c d : Bool} {w : World} (h1 : a = b) (h2 : c = d) : Ending.returned (.tuple #[.int .i64 a, .bool c]) = .returned (.tuple #[.int .i64 b, .bool d]) ∧ w = w := by subst h1 h2; exact ⟨rfl, rfl⟩

/-- The bytes of each. -/
def bytesL (xs : List ByteArray) : List (List UInt8) := xs.map fun x => x.data.toList
def indTo (xs : List ByteArray) (k : Nat) : Int := (((bytesL xs).drop 1).take (k - 1)).foldl stepI (-1)
theorem indTo_succ {xs : List ByteArray} {k : Nat} {x : ByteArray} (hk : 1 ≤ k) (hx : xs[k]? = some x) : indTo xs (k + 1) = stepI (indTo xs k) x.data.toList := by
  unfold indTo
  rw [show k + 1 - 1 = (k - 1) + 1 from by omega, List.take_add_one, List.getElem?_drop, show 1 + (k - 1) = k from by omega]
  unfold bytesL
  rw [List.getElem?_map, hx]
  simp [List.foldl_append]
theorem indTo_all {xs : List ByteArray} {k : Nat} (hk : xs.length ≤ k) : indTo xs k = indentL (bytesL xs) := by
  unfold indTo indentL
  rw [List.take_of_length_le (by simp [bytesL]; omega)]
theorem indTo_bd (xs : List ByteArray) (hx : ∀ x ∈ xs, x.size ≤ 100000) : ∀ k, -1 ≤ indTo xs k ∧ indTo xs k ≤ 100000 := by
  have hf : ∀ (ls : List (List UInt8)) (o : Int), (∀ l ∈ ls, l.length ≤ 100000) → -1 ≤ o → o ≤ 100000 → -1 ≤ ls.foldl stepI o ∧ ls.foldl stepI o ≤ 100000 := by
    intro ls
    induction ls with
    | nil => intro o _ h1 h2; exact ⟨h1, h2⟩
    | cons l ls ih =>
      intro o hl h1 h2
      rw [List.foldl_cons]
      have := leadN_le l
      have hll := hl l (by simp)
      refine ih _ (fun l' hl' => hl l' (by simp [hl'])) ?_ ?_
      · unfold stepI; split <;> omega
      · unfold stepI; split <;> omega
  intro k
  refine hf _ _ (fun l hl => ?_) (by omega) (by omega)
  have h1 := List.mem_of_mem_take hl
  have h2 := List.mem_of_mem_drop h1
  obtain ⟨x, hx', rfl⟩ := List.mem_map.1 h2
  have := hx x hx'
  rw [Lib.size_eq] at this
  exact this

end Go.Proofs.YtcdcfhplkimecaaGreatDoor.Blk
/- The walks of the landed blank and bare. They only read. -/
namespace Go.Proofs.YtcdcfhplkimecaaGreatDoor.Blk
open Go.RowKit

theorem blankB_int (c : UInt8) : blankB c = (((c.toNat : Int) == 9) || ((c.toNat : Int) == 32)) := by
  unfold blankB
  by_cases h9 : c = 9
  · subst h9; rfl
  by_cases h32 : c = 32
  · subst h32; rfl
  have e9 : ((c.toNat : Int) == 9) = false := beq_ne (ne_lit h9)
  have e32 : ((c.toNat : Int) == 32) = false := beq_ne (ne_lit h32)
  rw [e9, e32]
  simp [h9, h32]
theorem pblank_any (c : UInt8) (w : World) : Calls Tryz.prog 94 #[.int .u8 (c.toNat : Int)] w fun e w' => e = .returned (.bool (blankB c)) ∧ w = w' := by
  have H := Lib.hid (blankB_int c)
  by_cases h9 : c = 9
  · subst h9
    go_enter Tryz.func94, Tryz.ntmps94
    go_wp2
    go_ret
    exact ⟨rfl, rfl⟩
  · have n9 : ((c.toNat : Int) == 9) = false := beq_ne (ne_lit h9)
    by_cases h32 : c = 32
    · subst h32
      go_enter Tryz.func94, Tryz.ntmps94
      go_wp2
      go_ret
      exact ⟨rfl, rfl⟩
    · have n32 : ((c.toNat : Int) == 32) = false := beq_ne (ne_lit h32)
      have hf : Hid (blankB c = false) := Lib.hid (by rw [H.out, n9, n32]; rfl)
      go_enter Tryz.func94, Tryz.ntmps94
      go_wp2
      go_ret
      exact ⟨ret_bool hf.out.symm, rfl⟩

set_option maxRecDepth 100000 in
theorem pbare_any (s : ByteArray) (w : World) (hs : s.size ≤ 100000) : Calls Tryz.prog 81 #[.string s] w fun e w' => e = .returned (.bool (!inkB s.data.toList)) ∧ w = w' := by
  have HL : Hid (s.data.toList.length = s.size) := Lib.hid Array.length_toList
  go_enter Tryz.func81, Tryz.ntmps81
  go_wp2_with fail
  go_loopg [6] s.size (fun g i wx => ∃ k : Nat, k + g = s.size ∧ i = .int .i64 k ∧ Aside ((s.data.toList.take k).all blankB = true) ∧ w = wx)
  case atStart => exact ⟨0, by omega, rfl, Aside.intro (by simp), rfl⟩
  case round =>
    obtain ⟨k, hk, rfl, H, rfl⟩ := hrel
    cases gk with
    | zero =>
      obtain rfl : k = s.size := by omega
      have he := H.out
      rw [List.take_of_length_le (by rw [HL.out]; omega)] at he
      have h2 := Lib.hid (lead_end he).2
      clear he H
      go_wp2_with fail
      go_ret
      exact ⟨ret_bool (by rw [h2.out]; rfl), rfl⟩
    | succ g =>
      have hlt : k < s.size := by omega
      have hlt' : (k : Int) < (s.size : Int) := by omega
      have HB := Lib.hid (fun w => pblank_any s[k] w)
      cases hb : blankB s[k]
      · have hT := Lib.hid (lead_at H.out (by rw [List.getElem?_eq_getElem (by rw [HL.out]; exact hlt)]; rfl) hb).2
        have hB := Lib.hid hb
        clear H hb
        go_wp2_with fail
        refine (HB.out _).mono ?_
        rintro e w1 ⟨rfl, rfl⟩
        rw [hB.out]
        go_wp2_with fail
        go_ret
        exact ⟨ret_bool (by rw [hT.out]; rfl), rfl⟩
      · have hT := Lib.hid (blank_more hlt H.out hb)
        have hB := Lib.hid hb
        clear H hb
        go_wp2_with fail
        refine (HB.out _).mono ?_
        rintro e w1 ⟨rfl, rfl⟩
        rw [hB.out]
        go_wp2_with fail
        go_roundg g
        case measure => omega
        case rel => exact ⟨k + 1, by omega, by go_num, Aside.intro hT.out, rfl⟩
end Go.Proofs.YtcdcfhplkimecaaGreatDoor.Blk
/- The walk of the landed Indent. It only reads. -/
namespace Go.Proofs.YtcdcfhplkimecaaGreatDoor.Blk
open Go.RowKit
set_option maxRecDepth 100000 in
set_option maxHeartbeats 1000000 in
theorem pindent_any (A : Option Addr) (n c : Nat) (xs : List ByteArray) (w : World) (hn : n ≤ 100000) (hz : StrsAt w w.heap.size A n xs) (hx : ∀ x ∈ xs, x.size ≤ 100000) :
    Calls Tryz.prog 80 #[.slice A n c] w fun e w' => e = .returned (.int .i64 (indentL (bytesL xs))) ∧ w = w' := by
  have HZ := Lib.hid hz
  have HX := Lib.hid hx
  clear hz hx
  go_enter Tryz.func80, Tryz.ntmps80
  go_wp2
  go_step3
  go_wp2
  go_step3
  go_wp2
  go_loopg [3, 9] n (fun g out i wx => ∃ k : Nat, k + g = n ∧ i = .int .i64 k ∧ out = .int .i64 (indTo xs k) ∧ w = wx)
  case atStart => exact ⟨0, by omega, rfl, by simp [indTo], rfl⟩
  case round =>
    obtain ⟨k, hkg, rfl, rfl, rfl⟩ := hrel
    have hbd := indTo_bd xs HX.out k
    have hbd1 := hbd.1
    have hbd2 := hbd.2
    clear hbd
    cases gk with
    | zero =>
      obtain rfl : k = n := by omega
      have hfin := Lib.hid (indTo_all (xs := xs) (k := k) (by rw [HZ.out.1]; omega))
      go_wp2_with fail
      try rw [Exit.noGoto_ret]
      go_ret
      exact ⟨ret_int hfin.out, rfl⟩
    | succ g =>
      have hlt' : (k : Int) < (n : Int) := by omega
      obtain ⟨x, hxk⟩ : ∃ x, xs[k]? = some x := ⟨_, List.getElem?_eq_getElem (by rw [HZ.out.1]; omega)⟩
      obtain ⟨b, o, rfl, hblt, hcell⟩ := HZ.out.2 k x hxk
      have hxs : x.size ≤ 100000 := HX.out x (List.mem_of_getElem? hxk)
      have hk0 : (0 : Int) ≤ (k : Int) := by omega
      by_cases hk : k = 0
      · have hs : Hid (indTo xs (k + 1) = indTo xs k) := Lib.hid (by simp [indTo, hk])
        have hkeq : ((k : Int) == 0) = true := by simp; omega
        clear hxk hk
        generalize indTo xs k = v at *
        go_wp2_with fail
        go_roundg g
        case measure => omega
        case rel => exact ⟨k + 1, by omega, by go_num, by rw [hs.out], rfl⟩
      · have hk1 : 1 ≤ k := by omega
        have hkne : ((k : Int) == 0) = false := by simp; omega
        have hs := Lib.hid (indTo_succ hk1 hxk)
        have HXL : Hid (x.data.toList.length = x.size) := Lib.hid Array.length_toList
        clear hxk hk
        generalize indTo xs k = v at *
        go_wp2_with fail
        go_loopg [3, 18] x.size (fun g2 out i wx => ∃ j : Nat, j + g2 = x.size ∧ i = .int .i64 j ∧ out = .int .i64 v ∧ Aside ((x.data.toList.take j).all blankB = true) ∧ w = wx)
        case atStart => exact ⟨0, by omega, rfl, rfl, Aside.intro (by simp), rfl⟩
        case round =>
          obtain ⟨j, hj, rfl, rfl, H, rfl⟩ := hrel
          cases gk with
          | zero =>
            obtain rfl : j = x.size := by omega
            have he := H.out
            rw [List.take_of_length_le (by rw [HXL.out]; omega)] at he
            have h2 := (lead_end he).2
            have hst : Hid (indTo xs (k + 1) = v) := Lib.hid (by rw [hs.out]; unfold stepI; rw [if_neg (by rw [h2]; simp)])
            clear he H h2
            go_wp2_with fail
            go_roundg g
            case measure => omega
            case rel => exact ⟨k + 1, by omega, by go_num, by rw [hst.out], rfl⟩
          | succ g2 =>
            have hlt : j < x.size := by omega
            have hltj : (j : Int) < (x.size : Int) := by omega
            have hj0 : (0 : Int) ≤ (j : Int) := by omega
            have HB := Lib.hid (fun w => pblank_any x[j] w)
            cases hb : blankB x[j]
            · have hx2 := lead_at H.out (by rw [List.getElem?_eq_getElem (by rw [HXL.out]; exact hlt)]; rfl) hb
              have hB := Lib.hid hb
              have hx21 := Lib.hid hx2.1
              have hx22 := Lib.hid hx2.2
              clear H hb hx2
              by_cases hv : v < 0
              · have hst : Hid (indTo xs (k + 1) = (j : Int)) := Lib.hid (by rw [hs.out]; unfold stepI; rw [hx21.out, if_pos ⟨hx22.out, .inl hv⟩])
                go_wp2_with fail
                refine (HB.out _).mono ?_
                rintro e w1 ⟨rfl, rfl⟩
                rw [hB.out]
                go_wp2_with fail
                go_roundg g
                case measure => omega
                case rel => exact ⟨k + 1, by omega, by go_num, by rw [hst.out], rfl⟩
              · have e1 : decide (v < 0) = false := by simp; omega
                by_cases hmv : (j : Int) < v
                · have hst : Hid (indTo xs (k + 1) = (j : Int)) := Lib.hid (by rw [hs.out]; unfold stepI; rw [hx21.out, if_pos ⟨hx22.out, .inr hmv⟩])
                  go_wp2_with fail
                  refine (HB.out _).mono ?_
                  rintro e w1 ⟨rfl, rfl⟩
                  rw [hB.out]
                  go_wp2_with fail
                  go_roundg g
                  case measure => omega
                  case rel => exact ⟨k + 1, by omega, by go_num, by rw [hst.out], rfl⟩
                · have e2 : decide ((j : Int) < v) = false := by simp; omega
                  have hst : Hid (indTo xs (k + 1) = v) := Lib.hid (by rw [hs.out]; unfold stepI; rw [hx21.out, if_neg (by rintro ⟨_, h | h⟩ <;> omega)])
                  go_wp2_with fail
                  refine (HB.out _).mono ?_
                  rintro e w1 ⟨rfl, rfl⟩
                  rw [hB.out]
                  go_wp2_with fail
                  go_roundg g
                  case measure => omega
                  case rel => exact ⟨k + 1, by omega, by go_num, by rw [hst.out], rfl⟩
            · have hT := Lib.hid (blank_more hlt H.out hb)
              have hB := Lib.hid hb
              clear H hb
              go_wp2_with fail
              refine (HB.out _).mono ?_
              rintro e w1 ⟨rfl, rfl⟩
              rw [hB.out]
              go_wp2_with fail
              go_roundg g2
              case measure => omega
              case rel => exact ⟨j + 1, by omega, by go_num, rfl, Aside.intro hT.out, rfl⟩
end Go.Proofs.YtcdcfhplkimecaaGreatDoor.Blk
/- The library's own contract on strings.Join at this translation, laid by hand in plain words. -/
namespace Go.Proofs.YtcdcfhplkimecaaGreatDoor.Blk
open Go.Shelf Go.RowKit
def joinRen : Go.Shelf.Ren := ⟨fun | 156 => 82 | 165 => 95 | 166 => 17 | 169 => 18 | 240 => 34 | 241 => 103 | 276 => 56 | 277 => 110 | n => n, fun | 0 => 0 | 3 => 3 | 4 => 4 | 5 => 5 | 9 => 9 | 20 => 20 | 31 => 103 | 37 => 44 | 70 => 43 | 72 => 46 | 75 => 49 | 76 => 52 | 80 => 54 | 127 => 66 | 164 => 77 | n => n, fun | n => n⟩
theorem joinLays : Go.Proofs.Lays.n156 Tryz.prog joinRen := {
  mixed := by kernel_rfl
  f156 := Tryz.func82.trans (congrArg some (by kernel_rfl))
  f165 := Tryz.func95.trans (congrArg some (by kernel_rfl))
  f166 := Tryz.func17.trans (congrArg some (by kernel_rfl))
  f169 := Tryz.func18.trans (congrArg some (by kernel_rfl))
  f240 := Tryz.func34.trans (congrArg some (by kernel_rfl))
  f241 := Tryz.func103.trans (congrArg some (by kernel_rfl))
  f276 := Tryz.func56.trans (congrArg some (by kernel_rfl))
  f277 := Tryz.func110.trans (congrArg some (by kernel_rfl))
  t0 := Tryz.underlying0
  a0 := Tryz.isAgg0
  z0 := Tryz.sizeOf0
  v0 := Tryz.zeroValue0
  t3 := Tryz.underlying3
  a3 := Tryz.isAgg3
  z3 := Tryz.sizeOf3
  v3 := Tryz.zeroValue3
  t4 := Tryz.underlying4
  a4 := Tryz.isAgg4
  z4 := Tryz.sizeOf4
  v4 := Tryz.zeroValue4
  t9 := Tryz.underlying9
  a9 := Tryz.isAgg9
  z9 := Tryz.sizeOf9
  v9 := Tryz.zeroValue9
  t20 := Tryz.underlying20
  a20 := Tryz.isAgg20
  z20 := Tryz.sizeOf20
  v20 := Tryz.zeroValue20
  t31 := Tryz.underlying103
  a31 := Tryz.isAgg103
  z31 := Tryz.sizeOf103
  v31 := Tryz.zeroValue103
  t37 := Tryz.underlying44
  a37 := Tryz.isAgg44
  z37 := Tryz.sizeOf44
  v37 := Tryz.zeroValue44
  t70 := Tryz.underlying43
  a70 := Tryz.isAgg43
  z70 := Tryz.sizeOf43
  v70 := Tryz.zeroValue43
  t72 := Tryz.underlying46
  a72 := Tryz.isAgg46
  z72 := Tryz.sizeOf46
  v72 := Tryz.zeroValue46
  t75 := Tryz.underlying49
  a75 := Tryz.isAgg49
  z75 := Tryz.sizeOf49
  v75 := Tryz.zeroValue49
  t76 := Tryz.underlying52
  a76 := Tryz.isAgg52
  z76 := Tryz.sizeOf52
  v76 := Tryz.zeroValue52
  t127 := Tryz.underlying66
  a127 := Tryz.isAgg66
  z127 := Tryz.sizeOf66
  v127 := Tryz.zeroValue66
  t164 := Tryz.underlying77
  a164 := Tryz.isAgg77
  z164 := Tryz.sizeOf77
  v164 := Tryz.zeroValue77 }
theorem joinExtra : Builder.Extra Tryz.prog joinRen := {
  sizeBuilder := by kernel_rfl
  liesBuilder := by kernel_rfl
  t5 := Tryz.underlying5
  a5 := Tryz.isAgg5
  z5 := Tryz.sizeOf5
  v5 := Tryz.zeroValue5
  infoByte := by kernel_rfl
  cellsByte := by kernel_rfl
  sizeByte := by kernel_rfl
  neB5 := by decide }
/-- strings.Join, however many elements. -/
theorem pjoin_many (bk o c : Nat) (xs : List ByteArray) (sep : ByteArray) (w : World) (hcells : ∀ (j : Nat) x, xs[j]? = some x → w.cell? ⟨bk, o + j, none⟩ = some (.string x)) (hbk : bk < w.heap.size) (hN : xs.length ≤ 140737488355328) (hcap : xs.length ≤ c) (hlen : (Lib.join (xs.map (·.data.toList)) sep.data.toList).length ≤ 140737488355328) :
    Calls Tryz.prog 82 #[.slice (some ⟨bk, o, none⟩) xs.length c, .string sep] w fun e w' => e = .returned (.string ⟨(Lib.join (xs.map (·.data.toList)) sep.data.toList).toArray⟩) ∧ Below w.heap.size w w' :=
  Any.strings_Join joinLays joinExtra bk o c xs sep w hcells hbk hN hcap hlen
/-- strings.Join of nothing. -/
theorem pjoin_none (a : Option Addr) (c : Nat) (sep : ByteArray) (w : World) :
    Calls Tryz.prog 82 #[.slice a 0 c, .string sep] w fun e w' => e = .returned (.string ⟨#[]⟩) ∧ w' = w :=
  Any.strings_Join_none joinLays joinExtra a c sep w
end Go.Proofs.YtcdcfhplkimecaaGreatDoor.Blk
/- The walk of the document's own Block. -/
namespace Go.Proofs.YtcdcfhplkimecaaGreatDoor.Blk
open Go.RowKit

theorem linesB_bytes (l : List UInt8) : bytesL (linesB l) = linesL l := by
  unfold bytesL linesB
  rw [List.map_map]
  have : ((fun x : ByteArray => x.data.toList) ∘ fun x : List UInt8 => (⟨x.toArray⟩ : ByteArray)) = id := by funext x; simp
  rw [this, List.map_id]
theorem strs_some {w : World} {base n : Nat} {A : Option Addr} {cap : Nat} {xs : List Value} (h : w.ownsRow base 9 1 (.slice A n cap) n xs) (hn : 0 < n) : ∃ g, A = some ⟨g, 0, none⟩ ∧ base ≤ g ∧ g < w.heap.size ∧ n ≤ cap := by
  rcases h.2 with ⟨_, h0⟩ | ⟨g, c, cur, hv, hb, _, hnc, _⟩
  · omega
  · have hv' := hv
    injection hv' with h1 h2 h3
    subst h1
    exact ⟨g, rfl, hb, (h.lt g rfl).2, by omega⟩
theorem after_room {l t : List UInt8} (h : afterL l = some t) : (firstL l).length + 1 + t.length ≤ l.length := by
  have e : (firstL l).length + (l.dropWhile fun c => !eolB c).length = l.length := by
    unfold firstL
    rw [← List.length_append, List.takeWhile_append_dropWhile]
  have : t.length < (l.dropWhile fun c => !eolB c).length := by
    unfold afterL at h
    generalize l.dropWhile (fun c => !eolB c) = r at *
    split at h
    · cases h
    · split at h
      · split at h
        · split at h
          · cases h; simp only [List.length_cons]; omega
          · cases h; simp only [List.length_cons]; omega
        · cases h; simp
      · cases h; simp
  omega
theorem lines_room : ∀ (n : Nat) (l : List UInt8), l.length < n → (linesL l).length ≤ l.length + 1 ∧ (∀ x ∈ linesL l, x.length ≤ l.length) ∧ (joinTen (linesL l)).length ≤ l.length := by
  intro n
  induction n with
  | zero => intro l h; omega
  | succ n ih =>
    intro l hl
    have hf : (firstL l).length ≤ l.length := by
      unfold firstL
      have e : (l.takeWhile fun c => !eolB c).length + (l.dropWhile fun c => !eolB c).length = l.length := by rw [← List.length_append, List.takeWhile_append_dropWhile]
      omega
    rw [linesL_eq]
    cases ha : afterL l with
    | none =>
      refine ⟨by simp, fun x hx => ?_, by simpa [joinTen] using hf⟩
      simp only [List.mem_cons, List.not_mem_nil, or_false] at hx
      rw [hx]; exact hf
    | some t =>
      have hr := after_room ha
      obtain ⟨h1, h2, h3⟩ := ih t (by omega)
      refine ⟨by simp only [List.length_cons]; omega, fun x hx => ?_, ?_⟩
      · simp only [List.mem_cons] at hx
        rcases hx with hx | hx
        · rw [hx]; exact hf
        · have := h2 x hx; omega
      · show (joinTen (firstL l :: linesL t)).length ≤ _
        cases hlt : linesL t with
        | nil => exact absurd hlt (linesL_ne t)
        | cons y r =>
          rw [hlt] at h3
          show (firstL l ++ 10 :: joinTen (y :: r)).length ≤ _
          rw [List.length_append, List.length_cons]
          omega
/-- A line without its first m bytes. -/
def cutS (m : Nat) (x : ByteArray) : ByteArray := x.extract (min m x.size) x.size
/-- The lines, each but the first without its first m bytes, as far as k. -/
def cutB (m k : Nat) (xs : List ByteArray) : List ByteArray := xs.mapIdx fun i x => if 1 ≤ i ∧ i < k then cutS m x else x
theorem cutB_get {m k j : Nat} {xs : List ByteArray} : (cutB m k xs)[j]? = (xs[j]?).map fun x => if 1 ≤ j ∧ j < k then cutS m x else x := by
  unfold cutB; rw [List.getElem?_mapIdx]
theorem cutB_start (m : Nat) (xs : List ByteArray) : cutB m 1 xs = xs := by
  apply List.ext_getElem?
  intro j
  rw [cutB_get]
  cases xs[j]? with
  | none => rfl
  | some x => simp only [Option.map_some]; rw [if_neg (by omega)]
theorem cutB_set {m k : Nat} {xs : List ByteArray} {x : ByteArray} (hk : 1 ≤ k) (hx : xs[k]? = some x) : (cutB m k xs).set k (cutS m x) = cutB m (k + 1) xs := by
  apply List.ext_getElem?
  intro j
  rw [List.getElem?_set, cutB_get, cutB_get]
  by_cases hj : k = j
  · subst hj
    rw [if_pos rfl, hx]
    have : k < (cutB m k xs).length := by
      have := (List.getElem?_eq_some_iff.1 hx).1
      unfold cutB; rw [List.length_mapIdx]; exact this
    rw [if_pos this]
    simp only [Option.map_some]
    rw [if_pos ⟨hk, by omega⟩]
  · rw [if_neg hj]
    cases xs[j]? with
    | none => rfl
    | some y =>
      simp only [Option.map_some]
      by_cases h : 1 ≤ j ∧ j < k
      · rw [if_pos h, if_pos ⟨h.1, by omega⟩]
      · rw [if_neg h, if_neg (by omega)]
theorem cutB_length (m k : Nat) (xs : List ByteArray) : (cutB m k xs).length = xs.length := by unfold cutB; simp
theorem cutS_bytes (m : Nat) (x : ByteArray) : (cutS m x).data.toList = x.data.toList.drop m := by
  unfold cutS
  rw [extract_list, List.take_of_length_le (by rw [List.length_drop, ← Lib.size_eq]; omega)]
  by_cases h : m ≤ x.size
  · rw [Nat.min_eq_left h]
  · rw [Nat.min_eq_right (by omega), List.drop_eq_nil_of_le (by rw [← Lib.size_eq]; omega), List.drop_eq_nil_of_le (by rw [← Lib.size_eq]; omega)]
theorem cutB_bytes (m : Nat) (xs : List ByteArray) : bytesL (cutB m xs.length xs) = cutL m (bytesL xs) := by
  apply List.ext_getElem?
  intro j
  unfold bytesL
  rw [List.getElem?_map, cutB_get]
  cases xs with
  | nil => simp [cutL]
  | cons y t =>
    cases j with
    | zero => simp [cutL]
    | succ j =>
      simp only [List.getElem?_cons_succ, List.map_cons, cutL, List.map_map, List.getElem?_map, List.length_cons, Option.map_map]
      cases h : t[j]? with
      | none => rfl
      | some z =>
        have := (List.getElem?_eq_some_iff.1 h).1
        simp only [Option.map_some, Function.comp]
        rw [if_pos (by omega), cutS_bytes]

theorem strs_of_own' {w : World} {base n : Nat} {A : Option Addr} {cap : Nat} {xs : List ByteArray} (h : w.ownsRow base 9 1 (.slice A n cap) n (xs.map Value.string)) : StrsAt w w.heap.size A n xs := by
  have hl : xs.length = n := by have := h.1; rw [List.length_map] at this; omega
  subst hl
  exact (strs_of_own h).2
theorem dropWhile_all (p : List UInt8 → Bool) : ∀ (a r : List (List UInt8)), a.all p = true → (a ++ r).dropWhile p = r.dropWhile p := by
  intro a r h
  induction a with
  | nil => rfl
  | cons x a ih =>
    rw [List.all_cons, Bool.and_eq_true] at h
    rw [List.cons_append, List.dropWhile_cons, h.1]
    simp only [if_true]
    exact ih h.2
theorem front_end {ls : List (List UInt8)} {f : Nat} (h : (ls.take f).all (fun l => !inkB l) = true) : ls.length ≤ f → frontL ls = [] := by
  intro hf
  rw [List.take_of_length_le hf] at h
  have := dropWhile_all (fun l => !inkB l) ls [] h
  rw [List.append_nil] at this
  exact this
theorem front_stop {ls : List (List UInt8)} {f : Nat} {x : List UInt8} (h : (ls.take f).all (fun l => !inkB l) = true) (hx : ls[f]? = some x) (hi : inkB x = true) : frontL ls = ls.drop f := by
  obtain ⟨hf, rfl⟩ := List.getElem?_eq_some_iff.1 hx
  unfold frontL
  conv => lhs; rw [← List.take_append_drop f ls]
  rw [dropWhile_all _ _ _ h, List.drop_eq_getElem_cons hf, List.dropWhile_cons]
  simp [hi]
theorem blank_next {ls : List (List UInt8)} {f : Nat} {x : List UInt8} (h : (ls.take f).all (fun l => !inkB l) = true) (hx : ls[f]? = some x) (hi : inkB x = false) : (ls.take (f + 1)).all (fun l => !inkB l) = true := by
  rw [List.take_add_one, hx, List.all_append, h]
  simp [hi]
theorem blank_back {ls : List (List UInt8)} {u : Nat} {x : List UInt8} (h : (ls.drop (u + 1)).all (fun l => !inkB l) = true) (hx : ls[u]? = some x) (hi : inkB x = false) : (ls.drop u).all (fun l => !inkB l) = true := by
  obtain ⟨hf, rfl⟩ := List.getElem?_eq_some_iff.1 hx
  rw [List.drop_eq_getElem_cons hf, List.all_cons, h]
  simp [hi]
theorem back_of {ls a b : List (List UInt8)} {f : Nat} (hF : frontL ls = ls.drop f) (he : ls.drop f = a ++ b) (hb : b.all (fun l => !inkB l) = true) (ha : a.reverse.dropWhile (fun l => !inkB l) = a.reverse) : trimL ls = a := by
  unfold trimL
  rw [hF, he, List.reverse_append]
  unfold frontL
  rw [dropWhile_all _ _ _ (by rw [List.all_reverse]; exact hb), ha, List.reverse_reverse]
theorem back_end {ls : List (List UInt8)} {f : Nat} (hF : frontL ls = ls.drop f) (h : (ls.drop f).all (fun l => !inkB l) = true) : trimL ls = (ls.drop f).take (f - f) := by
  rw [back_of (a := []) hF rfl h rfl]; simp
theorem back_stop {ls : List (List UInt8)} {f u : Nat} {x : List UInt8} (hF : frontL ls = ls.drop f) (hf : f ≤ u) (h : (ls.drop (u + 1)).all (fun l => !inkB l) = true) (hx : ls[u]? = some x) (hi : inkB x = true) : trimL ls = (ls.drop f).take (u + 1 - f) := by
  obtain ⟨hu, rfl⟩ := List.getElem?_eq_some_iff.1 hx
  refine back_of (b := ls.drop (u + 1)) hF ?_ h ?_
  · have := (List.take_append_drop (u + 1 - f) (ls.drop f)).symm
    rw [List.drop_drop, show f + (u + 1 - f) = u + 1 from by omega] at this
    exact this
  · rw [show u + 1 - f = (u - f) + 1 from by omega, List.take_add_one, List.getElem?_drop, show f + (u - f) = u from by omega, List.getElem?_eq_getElem hu]
    simp [hi]
theorem join_snoc : ∀ (ts : List (List UInt8)) (x : List UInt8), ts ≠ [] → joinTen (ts ++ [x]) = joinTen ts ++ 10 :: x := by
  intro ts
  induction ts with
  | nil => intro x h; exact absurd rfl h
  | cons y t ih =>
    intro x _
    cases t with
    | nil => rfl
    | cons z t =>
      show y ++ 10 :: joinTen (z :: t ++ [x]) = (y ++ 10 :: joinTen (z :: t)) ++ 10 :: x
      rw [ih x (by simp)]
      simp

end Go.Proofs.YtcdcfhplkimecaaGreatDoor.Blk
/- Plain facts behind the laws of block: what is shown is made of lines, begins and ends with ink, is no longer than the text; and moving all lines but an empty first one further in changes nothing. -/
namespace Go.Proofs.YtcdcfhplkimecaaGreatDoor.Blk

theorem plain_drop {x : List UInt8} (h : plainL x) (n : Nat) : plainL (x.drop n) := fun c hc => h c (List.mem_of_mem_drop hc)
theorem mem_cutL {n : Nat} {ls : List (List UInt8)} {x : List UInt8} (h : x ∈ cutL n ls) : ∃ y ∈ ls, ∃ m, x = y.drop m := by
  cases ls with
  | nil => cases h
  | cons y t =>
    simp only [cutL, List.mem_cons, List.mem_map] at h
    rcases h with rfl | ⟨z, hz, rfl⟩
    · exact ⟨x, by simp, 0, rfl⟩
    · exact ⟨z, by simp [hz], n, rfl⟩
theorem mem_trimL {ls : List (List UInt8)} {x : List UInt8} (h : x ∈ trimL ls) : x ∈ ls := by
  unfold trimL frontL at h
  rw [List.mem_reverse] at h
  have h1 := (List.dropWhile_suffix _).subset h
  rw [List.mem_reverse] at h1
  exact (List.dropWhile_suffix _).subset h1
theorem shown_plain {raw x : List UInt8} (h : x ∈ shownL raw) : plainL x := by
  obtain ⟨y, hy, m, rfl⟩ := mem_cutL (mem_trimL h)
  exact plain_drop (linesL_plain _ raw (Nat.lt_succ_self _) y hy) m
theorem dropWhile_head {α : Type} {p : α → Bool} : ∀ {l t : List α} {x : α}, l.dropWhile p = x :: t → p x = false := by
  intro l
  induction l with
  | nil => intro t x h; cases h
  | cons a l ih =>
    intro t x h
    rw [List.dropWhile_cons] at h
    split at h
    · exact ih h
    · cases h; simp_all
theorem trim_first {ls t : List (List UInt8)} {x : List UInt8} (h : trimL ls = x :: t) : inkB x = true := by
  unfold trimL at h
  -- the trimmed is a prefix of frontL ls
  have hp : (frontL (frontL ls).reverse).reverse <+: frontL ls := by
    have := List.dropWhile_suffix (l := (frontL ls).reverse) (fun x => !inkB x)
    have h2 := List.reverse_prefix.2 this
    rw [List.reverse_reverse] at h2
    exact h2
  rw [h] at hp
  obtain ⟨r, hr⟩ := hp
  have := dropWhile_head (p := fun x => !inkB x) (l := ls) (t := t ++ r) (x := x) hr.symm
  simpa using this
theorem trim_last {ls t : List (List UInt8)} {x : List UInt8} (h : trimL ls = t ++ [x]) : inkB x = true := by
  unfold trimL at h
  have h' : frontL (frontL ls).reverse = x :: t.reverse := by
    have := congrArg List.reverse h
    rw [List.reverse_reverse, List.reverse_append] at this
    exact this
  have := dropWhile_head (p := fun x => !inkB x) (l := (frontL ls).reverse) h'
  simpa using this

/- SIZES -/
def sumL : List (List UInt8) → Nat
  | [] => 0
  | x :: t => x.length + sumL t
theorem joinTen_len : ∀ ls : List (List UInt8), (joinTen ls).length + 1 = sumL ls + ls.length + (if ls = [] then 1 else 0) := by
  intro ls
  induction ls with
  | nil => rfl
  | cons x t ih =>
    cases t with
    | nil => simp [joinTen, sumL]
    | cons y t =>
      rw [if_neg (by simp)] at ih ⊢
      show (x ++ 10 :: joinTen (y :: t)).length + 1 = _
      rw [List.length_append, List.length_cons]
      show _ = x.length + sumL (y :: t) + ((y :: t).length + 1) + 0
      omega
theorem sumL_append (a b : List (List UInt8)) : sumL (a ++ b) = sumL a + sumL b := by
  induction a with
  | nil => simp [sumL]
  | cons x t ih => rw [List.cons_append]; simp only [sumL]; omega
theorem infix_sum {a b : List (List UInt8)} (h : a <:+: b) : sumL a + a.length ≤ sumL b + b.length := by
  obtain ⟨p, q, rfl⟩ := h
  rw [sumL_append, sumL_append, List.length_append, List.length_append]
  omega
theorem trim_infix (ls : List (List UInt8)) : trimL ls <:+: ls := by
  have h1 : trimL ls <+: frontL ls := by
    have := List.dropWhile_suffix (l := (frontL ls).reverse) (fun x => !inkB x)
    have h2 := List.reverse_prefix.2 this
    rw [List.reverse_reverse] at h2
    exact h2
  have h2 : frontL ls <:+ ls := List.dropWhile_suffix _
  exact h1.isInfix.trans h2.isInfix
theorem cut_sum (n : Nat) (ls : List (List UInt8)) : sumL (cutL n ls) ≤ sumL ls ∧ (cutL n ls).length = ls.length := by
  cases ls with
  | nil => exact ⟨Nat.le_refl _, rfl⟩
  | cons x t =>
    simp only [cutL, sumL, List.length_cons, List.length_map, and_true]
    have : sumL (t.map (List.drop n)) ≤ sumL t := by
      induction t with
      | nil => exact Nat.le_refl _
      | cons y t ih => simp only [List.map_cons, sumL, List.length_drop]; omega
    omega
theorem after_len {l t : List UInt8} (h : afterL l = some t) : (firstL l).length + 1 + t.length ≤ l.length := by
  have e : (firstL l).length + (l.dropWhile fun c => !eolB c).length = l.length := by
    unfold firstL
    rw [← List.length_append, List.takeWhile_append_dropWhile]
  have : t.length < (l.dropWhile fun c => !eolB c).length := by
    unfold afterL at h
    generalize l.dropWhile (fun c => !eolB c) = r at *
    split at h
    · cases h
    · split at h
      · split at h
        · split at h
          · cases h; simp only [List.length_cons]; omega
          · cases h; simp only [List.length_cons]; omega
        · cases h; simp
      · cases h; simp
  omega
theorem lines_sum : ∀ (n : Nat) (l : List UInt8), l.length < n → sumL (linesL l) + (linesL l).length ≤ l.length + 1 := by
  intro n
  induction n with
  | zero => intro l h; omega
  | succ n ih =>
    intro l hl
    have hf : (firstL l).length ≤ l.length := by
      unfold firstL
      have e : (l.takeWhile fun c => !eolB c).length + (l.dropWhile fun c => !eolB c).length = l.length := by rw [← List.length_append, List.takeWhile_append_dropWhile]
      omega
    rw [linesL_eq]
    cases ha : afterL l with
    | none => simp only [sumL, List.length_cons, List.length_nil]; omega
    | some t =>
      have hr := after_len ha
      have := ih t (by omega)
      simp only [sumL, List.length_cons]
      omega
theorem value_len (raw : List UInt8) : (valueL raw).length ≤ raw.length := by
  have h1 := lines_sum _ raw (Nat.lt_succ_self _)
  have h2 := cut_sum (max (indentL (linesL raw)) 0).toNat (linesL raw)
  have h3 := infix_sum (trim_infix (cutL (max (indentL (linesL raw)) 0).toNat (linesL raw)))
  have h4 := joinTen_len (shownL raw)
  unfold valueL
  by_cases hs : shownL raw = []
  · rw [hs]; simp [joinTen]
  · rw [if_neg hs] at h4
    have h3' : sumL (shownL raw) + (shownL raw).length ≤ sumL (cutL (max (indentL (linesL raw)) 0).toNat (linesL raw)) + (cutL (max (indentL (linesL raw)) 0).toNat (linesL raw)).length := h3
    omega

/- CLEAN -/
theorem join_plain13 : ∀ ls : List (List UInt8), (∀ x ∈ ls, plainL x) → ∀ c ∈ joinTen ls, c ≠ 13 := by
  intro ls
  induction ls with
  | nil => intro _ c hc; cases hc
  | cons x t ih =>
    intro h c hc
    have hx : ∀ c ∈ x, c ≠ 13 := fun c hc e => by
      have := h x (by simp) c hc
      rw [e] at this; cases this
    cases t with
    | nil => exact hx c hc
    | cons y t =>
      have hc' : c ∈ x ++ 10 :: joinTen (y :: t) := hc
      rw [List.mem_append, List.mem_cons] at hc'
      rcases hc' with hc' | rfl | hc'
      · exact hx c hc'
      · decide
      · exact ih (fun z hz => h z (by simp only [List.mem_cons] at hz ⊢; exact .inr hz)) c hc'
theorem value_no13 (raw : List UInt8) : ∀ c ∈ valueL raw, c ≠ 13 := join_plain13 _ fun _ h => shown_plain h
/-- Either nothing is said, or the lines of what is said begin and end with ink. -/
theorem value_ends (raw : List UInt8) : valueL raw = [] ∨ ∃ x y, (linesL (valueL raw))[0]? = some x ∧ (linesL (valueL raw)).getLast? = some y ∧ inkB x = true ∧ inkB y = true := by
  by_cases hs : shownL raw = []
  · left; unfold valueL; rw [hs]; rfl
  · right
    have e : linesL (valueL raw) = shownL raw := linesL_join _ hs fun _ h => shown_plain h
    rw [e]
    obtain ⟨x, t, hx⟩ := List.exists_cons_of_ne_nil hs
    refine ⟨x, (shownL raw).getLast hs, by rw [hx]; rfl, List.getLast?_eq_some_getLast hs, trim_first hx, ?_⟩
    exact trim_last (List.dropLast_concat_getLast hs).symm

/- SHIFTS -/
def gapL (n : Nat) : List UInt8 := List.replicate n 32
/-- All lines, each with an end ahead of it. -/
def stackL : List (List UInt8) → List UInt8
  | [] => []
  | x :: t => 10 :: x ++ stackL t
theorem stack_snoc (ls : List (List UInt8)) (x : List UInt8) : stackL (ls ++ [x]) = stackL ls ++ 10 :: x := by
  induction ls with
  | nil => simp [stackL]
  | cons y t ih => rw [List.cons_append]; simp only [stackL]; rw [ih]; simp
theorem stack_join : ∀ ls : List (List UInt8), stackL ls = joinTen ([] :: ls) := by
  intro ls
  induction ls with
  | nil => rfl
  | cons x t ih =>
    show _ = [] ++ 10 :: joinTen (x :: t)
    rw [List.nil_append]
    simp only [stackL]
    rw [ih]
    cases t with
    | nil => simp [joinTen]
    | cons y t => rfl
theorem stack_lines {ls : List (List UInt8)} (h : ∀ x ∈ ls, plainL x) : linesL (stackL ls) = [] :: ls := by
  rw [stack_join]
  refine linesL_join _ (by simp) fun x hx => ?_
  simp only [List.mem_cons] at hx
  rcases hx with rfl | hx
  · intro c hc; cases hc
  · exact h x hx
theorem gap_plain (n : Nat) : plainL (gapL n) := fun c hc => by rw [List.eq_of_mem_replicate hc]; rfl
theorem plain_append {a b : List UInt8} (ha : plainL a) (hb : plainL b) : plainL (a ++ b) := fun c hc => by
  rcases List.mem_append.1 hc with h | h
  · exact ha c h
  · exact hb c h
theorem gap_ink (n : Nat) (x : List UInt8) : inkB (gapL n ++ x) = inkB x := by
  unfold inkB gapL
  rw [List.any_append]
  have : (List.replicate n (32 : UInt8)).any (fun c => !blankB c) = false := by
    rw [List.any_eq_false]
    intro c hc
    rw [List.eq_of_mem_replicate hc]; decide
  rw [this, Bool.false_or]
theorem gap_lead (n : Nat) (x : List UInt8) : leadN (gapL n ++ x) = n + leadN x := by
  unfold leadN gapL
  induction n with
  | zero => simp
  | succ n ih =>
    rw [List.replicate_succ, List.cons_append, List.takeWhile_cons]
    have : blankB 32 = true := by decide
    rw [this]
    simp only [if_true, List.length_cons]
    omega
def upI (n : Nat) (v : Int) : Int := if v < 0 then v else v + n
theorem step_gap (n : Nat) (v : Int) (x : List UInt8) : stepI (upI n v) (gapL n ++ x) = upI n (stepI v x) := by
  unfold stepI upI
  rw [gap_ink, gap_lead]
  by_cases hi : inkB x = true
  · simp only [hi, true_and]
    by_cases hv : v < 0
    · simp only [hv, if_true, true_or]
      rw [if_neg (by omega)]
      omega
    · simp only [hv, if_false, false_or]
      by_cases hl : (leadN x : Int) < v
      · rw [if_pos (by omega), if_pos hl, if_neg (by omega)]; omega
      · rw [if_neg (by omega), if_neg hl, if_neg hv]
  · simp only [hi, false_and, if_false, Bool.false_eq_true]
theorem fold_gap (n : Nat) : ∀ (ls : List (List UInt8)) (v : Int), (ls.map (gapL n ++ ·)).foldl stepI (upI n v) = upI n (ls.foldl stepI v) := by
  intro ls
  induction ls with
  | nil => intro v; rfl
  | cons x t ih => intro v; rw [List.map_cons, List.foldl_cons, step_gap, ih, List.foldl_cons]
theorem fold_blank : ∀ (ls : List (List UInt8)) (v : Int), -1 ≤ v → ls.foldl stepI v < 0 → v < 0 ∧ ∀ x ∈ ls, inkB x = false := by
  intro ls
  induction ls with
  | nil => intro v _ h; exact ⟨h, fun x hx => by cases hx⟩
  | cons x t ih =>
    intro v hv h
    rw [List.foldl_cons] at h
    have h1 : -1 ≤ stepI v x := by unfold stepI; split <;> omega
    obtain ⟨a, b⟩ := ih _ h1 h
    have : inkB x = false ∧ v < 0 := by
      unfold stepI at a
      cases hx : inkB x
      · refine ⟨rfl, ?_⟩
        rw [hx] at a
        simpa using a
      · rw [hx] at a
        split at a
        · omega
        · rename_i hn
          simp only [true_and, not_or] at hn
          omega
    refine ⟨this.2, fun y hy => ?_⟩
    simp only [List.mem_cons] at hy
    rcases hy with rfl | hy
    · exact this.1
    · exact b y hy
theorem trim_none {ls : List (List UInt8)} (h : ∀ x ∈ ls, inkB x = false) : trimL ls = [] := by
  have : frontL ls = [] := by
    unfold frontL
    have hall : (ls.all fun x => !inkB x) = true := by
      rw [List.all_eq_true]
      intro x hx
      rw [h x hx]; rfl
    clear h
    induction ls with
    | nil => rfl
    | cons x t ih =>
      rw [List.all_cons, Bool.and_eq_true] at hall
      rw [List.dropWhile_cons, hall.1]
      simp only [if_true]
      exact ih hall.2
  unfold trimL
  rw [this]
  rfl
theorem ink_drop {x : List UInt8} (n : Nat) (h : inkB x = false) : inkB (x.drop n) = false := by
  unfold inkB at *
  rw [List.any_eq_false] at *
  exact fun c hc => h c (List.mem_of_mem_drop hc)
theorem shifts (ls : List (List UInt8)) (n : Nat) (h : ∀ x ∈ ls, plainL x) : valueL (stackL (ls.map (gapL n ++ ·))) = valueL (stackL ls) := by
  have h2 : ∀ x ∈ ls.map (gapL n ++ ·), plainL x := by
    intro x hx
    obtain ⟨y, hy, rfl⟩ := List.mem_map.1 hx
    exact plain_append (gap_plain n) (h y hy)
  unfold valueL shownL
  rw [stack_lines h, stack_lines h2]
  have e1 : indentL ([] :: ls) = ls.foldl stepI (-1) := rfl
  have e2 : indentL ([] :: ls.map (gapL n ++ ·)) = upI n (ls.foldl stepI (-1)) := by
    show (ls.map (gapL n ++ ·)).foldl stepI (-1) = _
    rw [← fold_gap]
    rfl
  rw [e1, e2]
  generalize hv : ls.foldl stepI (-1) = v
  by_cases hneg : v < 0
  · have hb := (fold_blank ls (-1) (by omega) (by omega)).2
    have hl : ∀ m, trimL (cutL m ([] :: ls)) = [] := fun m => trim_none fun x hx => by
      simp only [cutL, List.mem_cons, List.mem_map] at hx
      rcases hx with rfl | ⟨y, hy, rfl⟩
      · rfl
      · exact ink_drop m (hb y hy)
    have hr : ∀ m, trimL (cutL m ([] :: ls.map (gapL n ++ ·))) = [] := fun m => trim_none fun x hx => by
      simp only [cutL, List.mem_cons, List.mem_map] at hx
      rcases hx with rfl | ⟨y, ⟨z, hz, rfl⟩, rfl⟩
      · rfl
      · exact ink_drop m (by rw [gap_ink]; exact hb z hz)
    rw [hl, hr]
  · have e3 : (max (upI n v) 0).toNat = n + (max v 0).toNat := by unfold upI; rw [if_neg hneg]; omega
    rw [e3]
    have : cutL (n + (max v 0).toNat) ([] :: ls.map (gapL n ++ ·)) = cutL (max v 0).toNat ([] :: ls) := by
      simp only [cutL, List.map_map]
      congr 1
      apply List.map_congr_left
      intro x _
      show (gapL n ++ x).drop (n + (max v 0).toNat) = x.drop (max v 0).toNat
      rw [← List.drop_drop]
      congr 1
      unfold gapL
      rw [List.drop_append_of_le_length (by simp)]
      simp
    rw [this]
end Go.Proofs.YtcdcfhplkimecaaGreatDoor.Blk
/- The walk of the landed Value. -/
namespace Go.Proofs.YtcdcfhplkimecaaGreatDoor.Blk
open Go.RowKit

theorem cutB_zero (k : Nat) (xs : List ByteArray) : cutB 0 k xs = xs := by
  apply List.ext_getElem?
  intro j
  rw [cutB_get]
  cases xs[j]? with
  | none => rfl
  | some x =>
    simp only [Option.map_some]
    split
    · congr 1; unfold cutS; rw [Nat.zero_min]; exact ByteArray.extract_zero_size
    · rfl

theorem drop_take_get {ys : List ByteArray} {f n j : Nat} {x : ByteArray} (h : ((ys.drop f).take n)[j]? = some x) : ys[f + j]? = some x := by
  rw [List.getElem?_take] at h
  split at h
  · rw [List.getElem?_drop] at h; exact h
  · cases h
theorem join_ten : ∀ ls : List (List UInt8), Lib.join ls [10] = joinTen ls := by
  intro ls
  induction ls with
  | nil => rfl
  | cons x t ih =>
    cases t with
    | nil => exact Lib.join_one x [10]
    | cons y t =>
      rw [Lib.join_cons]
      show _ = x ++ 10 :: joinTen (y :: t)
      rw [← ih, Lib.join_cons]
      simp [Lib.joinTail]

set_option maxRecDepth 100000 in
set_option maxHeartbeats 1000000 in
theorem pvalue_any (s : ByteArray) (w : World) (hs : s.size ≤ 13000) :
    Calls Tryz.prog 63 #[.string s] w fun e w' => e = .returned (.string ⟨(valueL s.data.toList).toArray⟩) ∧ Below w.heap.size w w' := by
  have HR := Lib.hid (plines_any s w hs)
  go_enter Tryz.func63, Tryz.ntmps63
  go_wp2_with fail
  refine HR.out.mono ?_
  rintro e w1 ⟨A, cap, rfl, hown, hb⟩
  have hroom := lines_room (s.data.toList.length + 1) s.data.toList (by omega)
  rw [← Lib.size_eq] at hroom
  have hxs : ∀ x ∈ linesB s.data.toList, x.size ≤ 13000 := by
    intro x hx
    obtain ⟨l, hl, rfl⟩ := List.mem_map.1 hx
    have := hroom.2.1 l hl
    show l.length ≤ _
    omega
  have hN : (linesB s.data.toList).length ≤ 13001 := by unfold linesB; rw [List.length_map]; omega
  have hN1 : 1 ≤ (linesB s.data.toList).length := by
    unfold linesB
    rw [List.length_map]
    have := linesL_ne s.data.toList
    cases h : linesL s.data.toList with
    | nil => exact absurd h this
    | cons _ _ => simp
  clear hroom
  obtain ⟨g0, rfl, hbg, hgl, hcap⟩ := strs_some hown (by omega)
  have HI := Lib.hid (pindent_any (some ⟨g0, 0, none⟩) (linesB s.data.toList).length cap (linesB s.data.toList) w1 (by omega) (strs_of_own hown).2 (fun x hx => by have := hxs x hx; omega))
  have hib := indTo_bd _ (fun x hx => by have := hxs x hx; omega) (linesB s.data.toList).length
  rw [indTo_all (Nat.le_refl _)] at hib
  have HVAL : Hid (valueL s.data.toList = joinTen (trimL (cutL (max (indentL (bytesL (linesB s.data.toList))) 0).toNat (bytesL (linesB s.data.toList))))) := Lib.hid (by rw [linesB_bytes]; rfl)
  generalize linesB s.data.toList = xs at *
  generalize hv : indentL (bytesL xs) = v at *
  have hib1 := hib.1
  have hib2 := hib.2
  have HEX := Lib.hid hxs
  have HB := Lib.hid hb
  clear hxs hv hib hb HR
  go_upto_if 13 with (fail)
  refine HI.out.mono ?_
  rintro e w2 ⟨rfl, rfl⟩
  obtain ⟨tst, hd⟩ : ∃ t : Bool, decide (0 < v) = t := ⟨_, rfl⟩
  go_upto_if 13 with (fail)
  have HD := Lib.hid hd
  clear hd
  obtain ⟨M, hM⟩ : ∃ M, (max v 0).toNat = M := ⟨_, rfl⟩
  have hm1 : M ≤ 100000 := by omega
  rw [hM] at HVAL
  have HM := Lib.hid hM
  clear hM
  go_cut [3] (fun l wx => l = .slice (some ⟨g0, 0, none⟩) xs.length cap ∧ wx.ownsRow w.heap.size 9 1 (.slice (some ⟨g0, 0, none⟩) xs.length cap) xs.length ((cutB M xs.length xs).map Value.string) ∧ Below w.heap.size w wx)
  case first =>
    cases tst
    · obtain rfl : M = 0 := by have h1 := HM.out; have h2 := of_decide_eq_false HD.out; omega
      go_wp2_with fail
      go_meet
      exact ⟨rfl, by rw [cutB_zero]; exact hown, HB.out⟩
    · have hv0 := of_decide_eq_true HD.out
      obtain ⟨m, rfl⟩ : ∃ m : Nat, v = m := ⟨v.toNat, by omega⟩
      obtain rfl : m = M := by have := HM.out; omega
      clear HI hib1 hib2 HM HD
      go_wp2_with fail
      go_loopg [5] (xs.length - 1) (fun g i wx => ∃ k : Nat, 1 ≤ k ∧ k + g = xs.length ∧ i = .int .i64 k ∧ wx.ownsRow w.heap.size 9 1 (.slice (some ⟨g0, 0, none⟩) xs.length cap) xs.length ((cutB m k xs).map Value.string) ∧ Below w.heap.size w wx)
      case atStart => exact ⟨1, by omega, by omega, rfl, by rw [cutB_start]; exact hown, HB.out⟩
      case round =>
        obtain ⟨k, hk1, hk, rfl, hown, hb⟩ := hrel
        cases gk with
        | succ g =>
          have hlt : k < xs.length := by omega
          have hlt' : (k : Int) < (xs.length : Int) := by omega
          have hk0 : (0 : Int) ≤ (k : Int) := by omega
          obtain ⟨x, hx⟩ : ∃ x, xs[k]? = some x := ⟨_, List.getElem?_eq_getElem hlt⟩
          have hget : (cutB m k xs)[k]? = some x := by
            rw [cutB_get, hx]
            simp only [Option.map_some]
            rw [if_neg (by omega)]
          have c1 : wr.cell? ⟨g0, k, none⟩ = some (.string x) := by
            rw [World.ownsRow.cellAt hown k (by omega), List.getElem?_map, hget]; rfl
          have f1 : wr.frozen? ⟨g0, k, none⟩ = false := World.ownsRow.frozenAt hown k
          have hxs : x.size ≤ 13000 := HEX.out x (List.mem_of_getElem? hx)
          have HO := Lib.hid (World.ownsRow.stored hown k (.string (cutS m x)))
          have HS := Lib.hid (cutB_set (m := m) hk1 hx)
          have HB2 := Lib.hid hb
          have hcx : Hid (cutS m x = x.extract (min m x.size) x.size) := Lib.hid rfl
          clear hown hb hx hget HB
          obtain ⟨K, hKd⟩ : ∃ K, min m x.size = K := ⟨_, rfl⟩
          have hK : min (m : Int) (x.size : Int) = (K : Int) := by omega
          have hKs : (K : Int) ≤ (x.size : Int) := by omega
          have hK0 : (0 : Int) ≤ (K : Int) := by omega
          have HKd := Lib.hid hKd
          clear hKd
          go_wp2_with fail
          go_still_tail 15, (by kernel_rfl)
          change wpList _ _ _ _ _ wr.drew
          go_wp2
          go_roundg g
          case measure => omega
          case rel =>
            refine ⟨k + 1, by omega, by omega, by go_num, ?_, (HB2.out.drew).setCell hbg _⟩
            have e : ((cutB m k xs).map Value.string).set k (.string (cutS m x)) = (cutB m (k + 1) xs).map Value.string := by rw [← HS.out, List.map_set]
            rw [← e, hcx.out, HKd.out]
            rw [hcx.out, HKd.out] at HO
            exact HO.out.1.drew
        | zero =>
          obtain rfl : k = xs.length := by omega
          go_wp2_with fail
          go_meet
          exact ⟨rfl, hown, hb⟩
  case rest =>
    obtain ⟨rfl, hown, hb⟩ := hcut
    clear HI hib1 hib2 HM HD
    have hyl : (cutB M xs.length xs).length = xs.length := cutB_length _ _ _
    have hyb := cutB_bytes M xs
    have hys : ∀ y ∈ cutB M xs.length xs, y.size ≤ 13000 := by
      intro y hy
      obtain ⟨j, hj⟩ := List.mem_iff_getElem?.1 hy
      rw [cutB_get] at hj
      obtain ⟨x, hx, rfl⟩ := Option.map_eq_some_iff.1 hj
      have := HEX.out x (List.mem_of_getElem? hx)
      split
      · unfold cutS; rw [ByteArray.size_extract]; omega
      · exact this
    have hval : Hid (valueL s.data.toList = joinTen (trimL (bytesL (cutB M xs.length xs)))) := Lib.hid (by rw [HVAL.out, hyb])
    generalize cutB M xs.length xs = ys at *
    have hgc : g0 < wc.heap.size := (hown.lt g0 rfl).2
    have HS := Lib.hid (strs_of_own' hown)
    have HYS := Lib.hid hys
    have HYL := Lib.hid hyl
    have HBB := Lib.hid hb
    clear hown hyb hys hyl hb HVAL HB
    generalize xs.length = N at *
    clear HEX
    go_upto_block 2 with (fail)
    go_cut [6] (fun fr wx => ∃ f : Nat, f ≤ N ∧ fr = .int .i64 f ∧ Aside (frontL (bytesL ys) = (bytesL ys).drop f) ∧ wc = wx)
    case first =>
      go_wp2_with fail
      go_loopg [6] N (fun g fr wx => ∃ f : Nat, f + g = N ∧ fr = .int .i64 f ∧ Aside (((bytesL ys).take f).all (fun l => !inkB l) = true) ∧ wc = wx)
      case atStart => exact ⟨0, by omega, rfl, Aside.intro (by simp), rfl⟩
      case round =>
        obtain ⟨f, hf, rfl, H, rfl⟩ := hrel
        cases gk with
        | zero =>
          obtain rfl : f = N := by omega
          have hT := Lib.hid (front_end H.out (by unfold bytesL; rw [List.length_map, HYL.out]; omega))
          clear H
          go_wp2_with fail
          go_meet
          exact ⟨_, by omega, rfl, Aside.intro (by rw [hT.out, List.drop_eq_nil_of_le (by unfold bytesL; rw [List.length_map, HYL.out]; omega)]), rfl⟩
        | succ g =>
          have hlt : f < N := by omega
          have hlt' : (f : Int) < (N : Int) := by omega
          obtain ⟨y, hy⟩ : ∃ y, ys[f]? = some y := ⟨_, List.getElem?_eq_getElem (by rw [HYL.out]; omega)⟩
          obtain ⟨b, o, e, _, hcell⟩ := HS.out.2 f y hy
          injection e with e
          injection e with e1 e2
          subst e1 e2
          rw [Nat.zero_add] at hcell
          have HBk := Lib.hid (pbare_any y wc (by have := HYS.out y (List.mem_of_getElem? hy); omega))
          have hyb : (bytesL ys)[f]? = some y.data.toList := by unfold bytesL; rw [List.getElem?_map, hy]; rfl
          cases hi : inkB y.data.toList
          · have hT := Lib.hid (blank_next H.out hyb hi)
            have HIk := Lib.hid hi
            clear H hy hyb hi
            go_wp2_with fail
            refine HBk.out.mono ?_
            rintro e w2 ⟨rfl, rfl⟩
            rw [HIk.out]
            go_wp2_with fail
            go_roundg g
            case measure => omega
            case rel => exact ⟨f + 1, by omega, by go_num, Aside.intro hT.out, rfl⟩
          · have hT := Lib.hid (front_stop H.out hyb hi)
            have HIk := Lib.hid hi
            clear H hy hyb hi
            go_wp2_with fail
            refine HBk.out.mono ?_
            rintro e w2 ⟨rfl, rfl⟩
            rw [HIk.out]
            go_wp2_with fail
            go_meet
            exact ⟨f, by omega, rfl, Aside.intro hT.out, rfl⟩
    case rest =>
      obtain ⟨f, hfN, rfl, HF, rfl⟩ := hcut
      go_upto_block 4 with (fail)
      go_cut [7] (fun tv wx => ∃ t : Nat, f ≤ t ∧ t ≤ N ∧ tv = .int .i64 t ∧ Aside (trimL (bytesL ys) = ((bytesL ys).drop f).take (t - f)) ∧ wc = wx)
      case first =>
        go_wp2_with fail
        go_loopg [7] (N - f) (fun g tv wx => ∃ t : Nat, f ≤ t ∧ t ≤ f + g ∧ t ≤ N ∧ tv = .int .i64 t ∧ Aside (((bytesL ys).drop t).all (fun l => !inkB l) = true) ∧ wc = wx)
        case atStart => exact ⟨N, by omega, by omega, by omega, rfl, Aside.intro (by rw [List.drop_eq_nil_of_le (by unfold bytesL; rw [List.length_map, HYL.out]; omega)]; rfl), rfl⟩
        case round =>
          obtain ⟨t, hft, htg, htN, rfl, H, rfl⟩ := hrel
          by_cases hte : t = f
          · subst hte
            have hT := Lib.hid (back_end HF.out H.out)
            clear H
            go_wp2_with fail
            go_meet
            exact ⟨t, by omega, by omega, rfl, Aside.intro hT.out, rfl⟩
          · have hft1 : f < t := by omega
            obtain ⟨g, rfl⟩ : ∃ g, gk = g + 1 := ⟨gk - 1, by omega⟩
            obtain ⟨u, rfl⟩ : ∃ u, t = u + 1 := ⟨t - 1, by omega⟩
            have hfu : (f : Int) < (u : Int) + 1 := by omega
            have hu0 : (0 : Int) ≤ (u : Int) := by omega
            have hu1 : (u : Int) < (N : Int) := by omega
            obtain ⟨y, hy⟩ : ∃ y, ys[u]? = some y := ⟨_, List.getElem?_eq_getElem (by rw [HYL.out]; omega)⟩
            obtain ⟨b, o, e, _, hcell⟩ := HS.out.2 u y hy
            injection e with e
            injection e with e1 e2
            subst e1 e2
            rw [Nat.zero_add] at hcell
            have HBk := Lib.hid (pbare_any y wc (by have := HYS.out y (List.mem_of_getElem? hy); omega))
            have hyb : (bytesL ys)[u]? = some y.data.toList := by unfold bytesL; rw [List.getElem?_map, hy]; rfl
            cases hi : inkB y.data.toList
            · have hT := Lib.hid (blank_back H.out hyb hi)
              have HIk := Lib.hid hi
              clear H hy hyb hi hte
              go_wp2_with fail
              refine HBk.out.mono ?_
              rintro e w2 ⟨rfl, rfl⟩
              rw [HIk.out]
              go_wp2_with fail
              go_roundg g
              case measure => omega
              case rel => exact ⟨u, by omega, by omega, by omega, by go_num, Aside.intro hT.out, rfl⟩
            · have hT := Lib.hid (back_stop HF.out (by omega) H.out hyb hi)
              have HIk := Lib.hid hi
              clear H hy hyb hi hte
              go_wp2_with fail
              refine HBk.out.mono ?_
              rintro e w2 ⟨rfl, rfl⟩
              rw [HIk.out]
              go_wp2_with fail
              go_meet
              exact ⟨u + 1, by omega, by omega, by go_num, Aside.intro hT.out, rfl⟩
      case rest =>
        obtain ⟨t, hft, htN, rfl, HT, rfl⟩ := hcut
        have hf0 : (0 : Int) ≤ (f : Int) := by omega
        have hft' : (f : Int) ≤ (t : Int) := by omega
        have hzl : Hid (((ys.drop f).take (t - f)).length = t - f) := Lib.hid (by rw [List.length_take, List.length_drop, HYL.out]; omega)
        have hzb : Hid (Lib.join (((ys.drop f).take (t - f)).map (·.data.toList)) (⟨#[10]⟩ : ByteArray).data.toList = valueL s.data.toList) := Lib.hid (by
          show Lib.join _ [10] = _
          rw [join_ten, hval.out, HT.out]; unfold bytesL; rw [List.map_take, List.map_drop])
        have hvl : (valueL s.data.toList).length ≤ 13000 := by have := value_len s.data.toList; rw [← Lib.size_eq] at this; omega
        by_cases hcf : cap = f
        · obtain rfl : t = f := by omega
          have hnil : Hid ((⟨(valueL s.data.toList).toArray⟩ : ByteArray) = ⟨#[]⟩) := Lib.hid (by rw [hval.out, HT.out]; simp [joinTen])
          have HC := Lib.hid hcf
          subst hcf
          have HJ := Lib.hid (fun a c => pjoin_none a c ⟨#[10]⟩ wc)
          have ht0 : cap - cap = 0 := by omega
          go_wp2_with fail
          refine (HJ.out _ _).mono ?_
          rintro e w3 ⟨rfl, rfl⟩
          go_wp2_with fail
          go_ret
          exact ⟨ret_str hnil.out.symm, HBB.out⟩
        · have HJ := Lib.hid (pjoin_many g0 f (cap - f) ((ys.drop f).take (t - f)) ⟨#[10]⟩ wc (fun j x hj => by
            obtain ⟨b, o, e, _, hc⟩ := HS.out.2 (f + j) x (drop_take_get hj)
            injection e with e
            injection e with e1 e2
            subst e1 e2
            rw [Nat.zero_add] at hc
            exact hc) hgc (by rw [hzl.out]; omega) (by rw [hzl.out]; omega) (by rw [hzb.out]; omega))
          rw [hzl.out, hzb.out] at HJ
          go_wp2_with fail
          refine HJ.out.mono ?_
          rintro e w3 ⟨rfl, hb3⟩
          have HB3 := Lib.hid hb3
          clear hb3
          obtain ⟨V, hV⟩ : ∃ V : ByteArray, (⟨(valueL s.data.toList).toArray⟩ : ByteArray) = V := ⟨_, rfl⟩
          have HV := Lib.hid hV
          rw [hV]
          clear hV
          go_wp2_with fail
          go_ret
          exact ⟨ret_str HV.out.symm, HBB.out.trans (HB3.out.mono HBB.out.size)⟩
theorem pvalue (s : ByteArray) (w : World) (hs : s.size ≤ 13000) : Calls Tryz.prog 63 #[.string s] w fun e w' => e = .returned (.string ⟨(valueL s.data.toList).toArray⟩) ∧ Below w.heap.size w w' := pvalue_any s w hs
end Go.Proofs.YtcdcfhplkimecaaGreatDoor.Blk
