/- The walks of the document's own lead, blank and Indent. They only read. -/
import Derived.Test.YtfinboplkjijhaaGreatDoorRLines
namespace Go.Proofs.YtfinboplkjijhaaGreatDoor.Blk
open Go.RowKit

theorem lead_at {l : List UInt8} {k : Nat} {c : UInt8} (h : (l.take k).all blankB = true) (hc : l[k]? = some c) (hn : blankB c = false) : leadN l = k ∧ inkB l = true := by
  obtain ⟨hk, rfl⟩ := List.getElem?_eq_some_iff.1 hc
  have e : l = l.take k ++ l[k] :: l.drop (k + 1) := by rw [← List.drop_eq_getElem_cons hk, List.take_append_drop]
  have hl : (l.take k).length = k := by rw [List.length_take]; omega
  constructor
  · unfold leadN
    have ht : ∀ (a r : List UInt8) (d : UInt8), a.all blankB = true → blankB d = false → (a ++ d :: r).takeWhile blankB = a := by
      intro a r d ha hd
      induction a with
      | nil => simp [hd]
      | cons x a ih =>
        rw [List.all_cons, Bool.and_eq_true] at ha
        rw [List.cons_append, List.takeWhile_cons, ha.1]
        simp only [if_true]
        rw [ih ha.2]
    rw [e, ht _ _ _ h hn, hl]
  · unfold inkB
    rw [List.any_eq_true]
    exact ⟨l[k], List.getElem_mem hk, by simp [hn]⟩
theorem lead_end {l : List UInt8} (h : l.all blankB = true) : leadN l = l.length ∧ inkB l = false := by
  constructor
  · unfold leadN
    have ht : ∀ (a : List UInt8), a.all blankB = true → a.takeWhile blankB = a := by
      intro a ha
      induction a with
      | nil => rfl
      | cons x a ih =>
        rw [List.all_cons, Bool.and_eq_true] at ha
        rw [List.takeWhile_cons, ha.1]
        simp only [if_true]
        rw [ih ha.2]
    rw [ht l h]
  · unfold inkB
    rw [List.any_eq_false]
    intro c hc
    have := List.all_eq_true.1 h c hc
    simp [this]
theorem leadN_le (l : List UInt8) : leadN l ≤ l.length := by
  unfold leadN
  induction l with
  | nil => simp
  | cons c t ih => rw [List.takeWhile_cons]; split <;> simp <;> omega
theorem blank_more {s : ByteArray} {k : Nat} (hk : k < s.size) (h : (s.data.toList.take k).all blankB = true) (hc : blankB s[k] = true) : (s.data.toList.take (k + 1)).all blankB = true := by
  have hl : s.data.toList.length = s.size := Array.length_toList
  rw [List.take_add_one, List.getElem?_eq_getElem (by omega), List.all_append, h]
  simp only [Option.toList, List.all_cons, List.all_nil, Bool.and_true, Bool.true_and]
  exact hc
theorem ret_lead {a b : Int} {c d : Bool} {w : World} (h1 : a = b) (h2 : c = d) : Ending.returned (.tuple #[.int .i64 a, .bool c]) = .returned (.tuple #[.int .i64 b, .bool d]) ∧ w = w := by subst h1 h2; exact ⟨rfl, rfl⟩

set_option maxRecDepth 100000 in
theorem rlead_any (s : ByteArray) (w : World) (hs : s.size ≤ 100000) : Calls Tryz.prog 104 #[.string s] w fun e w' => e = .returned (.tuple #[.int .i64 (leadN s.data.toList), .bool (inkB s.data.toList)]) ∧ w = w' := by
  have HL : Hid (s.data.toList.length = s.size) := Lib.hid Array.length_toList
  go_enter Tryz.func104, Tryz.ntmps104
  go_wp2
  go_loopg [4] s.size (fun g i wx => ∃ k : Nat, k + g = s.size ∧ i = .int .i64 k ∧ Aside ((s.data.toList.take k).all blankB = true) ∧ w = wx)
  case atStart => exact ⟨0, by omega, rfl, Aside.intro (by simp), rfl⟩
  case round =>
    obtain ⟨k, hk, rfl, H, rfl⟩ := hrel
    cases gk with
    | zero =>
      obtain rfl : k = s.size := by omega
      have he := H.out
      rw [List.take_of_length_le (by rw [HL.out]; omega)] at he
      have h1 := Lib.hid (lead_end he).1
      have h2 := Lib.hid (lead_end he).2
      clear he H
      go_wp2
      go_ret2
      exact ret_lead (by rw [h1.out, HL.out]) h2.out.symm
    | succ g =>
      have hlt : k < s.size := by omega
      have hlt' : (k : Int) < (s.size : Int) := by omega
      by_cases c9 : s[k] = 9
      · have n9 : ((s[k].toNat : Int) != 9) = false := by rw [c9]; rfl
        have hT := Lib.hid (blank_more hlt H.out (by rw [c9]; rfl))
        clear H c9
        go_wp2
        go_roundg g
        case measure => omega
        case rel => exact ⟨k + 1, by omega, by go_num, Aside.intro hT.out, rfl⟩
      by_cases c32 : s[k] = 32
      · have n9 : ((s[k].toNat : Int) != 9) = true := by rw [c32]; rfl
        have n32 : ((s[k].toNat : Int) != 32) = false := by rw [c32]; rfl
        have hT := Lib.hid (blank_more hlt H.out (by rw [c32]; rfl))
        clear H c9 c32
        go_wp2
        go_roundg g
        case measure => omega
        case rel => exact ⟨k + 1, by omega, by go_num, Aside.intro hT.out, rfl⟩
      · have n9 : ((s[k].toNat : Int) != 9) = true := bne_ne (ne_lit c9)
        have n32 : ((s[k].toNat : Int) != 32) = true := bne_ne (ne_lit c32)
        have hx := lead_at (l := s.data.toList) (k := k) (c := s[k]) H.out (by rw [List.getElem?_eq_getElem (by rw [HL.out]; exact hlt)]; rfl) (by simp [blankB, c9, c32])
        have h1 := Lib.hid hx.1
        have h2 := Lib.hid hx.2
        clear H c9 c32 hx
        go_wp2
        go_ret2
        exact ret_lead (by rw [h1.out]) h2.out.symm
theorem rblank_any (s : ByteArray) (w : World) (hs : s.size ≤ 100000) : Calls Tryz.prog 96 #[.string s] w fun e w' => e = .returned (.bool (!inkB s.data.toList)) ∧ w = w' := by
  have H := Lib.hid (rlead_any s w hs)
  go_enter Tryz.func96, Tryz.ntmps96
  go_wp2_with fail
  refine H.out.mono ?_
  rintro e w1 ⟨rfl, rfl⟩
  go_wp2_with fail
  go_ret
  exact ⟨rfl, rfl⟩

/-- The bytes of each. -/
def bytesL (xs : List ByteArray) : List (List UInt8) := xs.map fun x => x.data.toList
def indTo (xs : List ByteArray) (k : Nat) : Int := (((bytesL xs).drop 1).take (k - 1)).foldl stepI (-1)
theorem indTo_succ {xs : List ByteArray} {k : Nat} {x : ByteArray} (hk : 1 ≤ k) (hx : xs[k]? = some x) : indTo xs (k + 1) = stepI (indTo xs k) x.data.toList := by
  unfold indTo
  rw [show k + 1 - 1 = (k - 1) + 1 from by omega, List.take_add_one, List.getElem?_drop, show 1 + (k - 1) = k from by omega]
  unfold bytesL
  rw [List.getElem?_map, hx]
  simp [List.foldl_append]
theorem indTo_all {xs : List ByteArray} {k : Nat} (hk : xs.length ≤ k) : indTo xs k = indentL (bytesL xs) := by
  unfold indTo indentL
  rw [List.take_of_length_le (by simp [bytesL]; omega)]
theorem indTo_bd (xs : List ByteArray) (hx : ∀ x ∈ xs, x.size ≤ 100000) : ∀ k, -1 ≤ indTo xs k ∧ indTo xs k ≤ 100000 := by
  have hf : ∀ (ls : List (List UInt8)) (o : Int), (∀ l ∈ ls, l.length ≤ 100000) → -1 ≤ o → o ≤ 100000 → -1 ≤ ls.foldl stepI o ∧ ls.foldl stepI o ≤ 100000 := by
    intro ls
    induction ls with
    | nil => intro o _ h1 h2; exact ⟨h1, h2⟩
    | cons l ls ih =>
      intro o hl h1 h2
      rw [List.foldl_cons]
      have := leadN_le l
      have hll := hl l (by simp)
      refine ih _ (fun l' hl' => hl l' (by simp [hl'])) ?_ ?_
      · unfold stepI; split <;> omega
      · unfold stepI; split <;> omega
  intro k
  refine hf _ _ (fun l hl => ?_) (by omega) (by omega)
  have h1 := List.mem_of_mem_take hl
  have h2 := List.mem_of_mem_drop h1
  obtain ⟨x, hx', rfl⟩ := List.mem_map.1 h2
  have := hx x hx'
  rw [Lib.size_eq] at this
  exact this

set_option maxRecDepth 100000 in
set_option maxHeartbeats 1000000 in
theorem rindent_any (A : Option Addr) (n c : Nat) (xs : List ByteArray) (w : World) (hn : n ≤ 100000) (hz : StrsAt w w.heap.size A n xs) (hx : ∀ x ∈ xs, x.size ≤ 100000) :
    Calls Tryz.prog 95 #[.slice A n c] w fun e w' => e = .returned (.int .i64 (indentL (bytesL xs))) ∧ w = w' := by
  have HZ := Lib.hid hz
  have HX := Lib.hid hx
  clear hz hx
  go_enter Tryz.func95, Tryz.ntmps95
  go_wp2
  go_loopg [3, 4] n (fun g out i wx => ∃ k : Nat, 1 ≤ k ∧ (n < k + g + 1) ∧ i = .int .i64 k ∧ out = .int .i64 (indTo xs k) ∧ k ≤ n + 1 ∧ w = wx)
  case atStart => exact ⟨1, by omega, by omega, rfl, by simp [indTo], by omega, rfl⟩
  case round =>
    obtain ⟨k, hk1, hkg, rfl, rfl, hkn, rfl⟩ := hrel
    have hbd := indTo_bd xs HX.out k
    have hbd1 := hbd.1
    have hbd2 := hbd.2
    clear hbd
    by_cases hlt : k < n
    · have hlt' : (k : Int) < (n : Int) := by omega
      obtain ⟨x, hxk⟩ : ∃ x, xs[k]? = some x := ⟨_, List.getElem?_eq_getElem (by rw [HZ.out.1]; omega)⟩
      obtain ⟨b, o, rfl, hblt, hcell⟩ := HZ.out.2 k x hxk
      have hs := Lib.hid (indTo_succ hk1 hxk)
      have HL := Lib.hid (rlead_any x w (HX.out x (List.mem_of_getElem? hxk)))
      have hle := leadN_le x.data.toList
      have hxs : x.size ≤ 100000 := HX.out x (List.mem_of_getElem? hxk)
      rw [← Lib.size_eq] at hle
      clear hxk
      obtain ⟨g', rfl⟩ : ∃ g', gk = g' + 1 := ⟨gk - 1, by omega⟩
      generalize indTo xs k = v at *
      generalize hln : leadN x.data.toList = m at *
      have HM := Lib.hid hln
      clear hln
      cases hi : inkB x.data.toList
      · have hst : Hid (indTo xs (k + 1) = v) := Lib.hid (by rw [hs.out]; unfold stepI; rw [if_neg (by rw [hi]; simp)])
        have HI := Lib.hid hi
        clear hi
        go_wp2_with fail
        refine HL.out.mono ?_
        rintro e w1 ⟨rfl, rfl⟩
        rw [HI.out]
        go_wp2_with fail
        go_roundg g'
        case measure => omega
        case rel => exact ⟨k + 1, by omega, by omega, by go_num, by rw [hst.out], by omega, rfl⟩
      · have HI := Lib.hid hi
        by_cases hv : v < 0
        · have hst : Hid (indTo xs (k + 1) = (m : Int)) := Lib.hid (by rw [hs.out]; unfold stepI; rw [HM.out, if_pos ⟨hi, .inl hv⟩])
          clear hi
          go_wp2_with fail
          refine HL.out.mono ?_
          rintro e w1 ⟨rfl, rfl⟩
          rw [HI.out]
          go_wp2_with fail
          go_roundg g'
          case measure => omega
          case rel => exact ⟨k + 1, by omega, by omega, by go_num, by rw [hst.out], by omega, rfl⟩
        · have e1 : decide (v < 0) = false := by simp; omega
          by_cases hmv : (m : Int) < v
          · have hst : Hid (indTo xs (k + 1) = (m : Int)) := Lib.hid (by rw [hs.out]; unfold stepI; rw [HM.out, if_pos ⟨hi, .inr hmv⟩])
            clear hi
            go_wp2_with fail
            refine HL.out.mono ?_
            rintro e w1 ⟨rfl, rfl⟩
            rw [HI.out]
            go_wp2_with fail
            go_roundg g'
            case measure => omega
            case rel => exact ⟨k + 1, by omega, by omega, by go_num, by rw [hst.out], by omega, rfl⟩
          · have e2 : decide ((m : Int) < v) = false := by simp; omega
            have hst : Hid (indTo xs (k + 1) = v) := Lib.hid (by rw [hs.out]; unfold stepI; rw [HM.out, if_neg (by rintro ⟨_, h | h⟩ <;> omega)])
            clear hi
            go_wp2_with fail
            refine HL.out.mono ?_
            rintro e w1 ⟨rfl, rfl⟩
            rw [HI.out]
            go_wp2_with fail
            go_roundg g'
            case measure => omega
            case rel => exact ⟨k + 1, by omega, by omega, by go_num, by rw [hst.out], by omega, rfl⟩
    · have hfin := Lib.hid (indTo_all (xs := xs) (k := k) (by rw [HZ.out.1]; omega))
      have hlt' : ¬ (k : Int) < (n : Int) := by omega
      go_wp2
      go_ret
      exact ⟨ret_int hfin.out, rfl⟩
end Go.Proofs.YtfinboplkjijhaaGreatDoor.Blk
