/- The walk of the document's named. -/
import Derived.Test.YtcfdfgbobnocnaaGreatDoorRCode
import Derived.Test.YtcfdfgbobnocnaaGreatDoorVGet
import Derived.LoopN
namespace Go.Proofs.YtcfdfgbobnocnaaGreatDoor
open Go.RowKit

theorem grown_ofR {w w' : World} (h : Below w.heap.size w w') : w.grownBy w' none := ⟨h.os, h.tape, h.output, h.size, fun i hi _ => h.block i hi⟩
theorem own_none (v : Value) : v.ownBlock = none ∨ v.ownBlock ≠ none := Classical.em _
theorem heap_alloc_lt (w : World) (o : Obj) (b : Nat) (h : b < w.heap.size) : (w.alloc o).heap[b]? = w.heap[b]? := Below.heap_alloc w o b h
theorem own_form {w : World} {base : Nat} {e : TypeId} {v : Value} {n : Nat} {xs : List Value} (h : w.ownsRow base e 1 v n xs) : ∃ A cap, v = .slice A n cap := by
  rcases h.2 with ⟨hv, hn⟩ | ⟨g, cap, cur, hv, _⟩
  · exact ⟨none, 0, by rw [hv, hn]⟩
  · exact ⟨_, _, hv⟩
def IntsAtR (w : World) (B : Nat) (A : Option Addr) (n : Nat) (zs : List Int) : Prop :=
  zs.length = n ∧ ∀ (j : Nat) z, zs[j]? = some z → ∃ b o, A = some ⟨b, o, none⟩ ∧ b < B ∧ w.cell? ⟨b, o + j, none⟩ = some (.int .i64 z)
theorem ints_of_ownR {w : World} {base n : Nat} {A : Option Addr} {cap : Nat} {us : List Int} (h : w.ownsRow base 3 1 (.slice A n cap) us.length (us.map (Value.int .i64))) : n = us.length ∧ IntsAtR w w.heap.size A us.length us := by
  rcases h.2 with ⟨hv, hn⟩ | ⟨g, c, cur, hv, hbase, hh, hnc, hm, hcs, htk⟩
  · injection hv with h1 h2 h3
    have hus : us = [] := List.eq_nil_of_length_eq_zero hn
    subst hus
    exact ⟨by simpa using h2, ⟨rfl, fun j z hz => by simp at hz⟩⟩
  · have hv' := hv
    injection hv' with h1 h2 h3
    subst h1
    refine ⟨h2, rfl, fun j z hz => ⟨g, 0, rfl, ?_, ?_⟩⟩
    · exact (h.lt g rfl).2
    · subst h2 h3
      rw [Nat.zero_add, World.ownsRow.cellAt h j (by have := (List.getElem?_eq_some_iff.1 hz).1; omega), List.getElem?_map, hz]
      rfl

theorem codes_le_n : ∀ (n : Nat) (l : List UInt8) (cs : List Int), l.length ≤ n → codes l = some cs → cs.length ≤ l.length := by
  intro n
  induction n with
  | zero =>
    intro l cs hl h
    have : l = [] := List.eq_nil_of_length_eq_zero (by omega)
    subst this
    rw [codes_nil, Option.some.injEq] at h
    subst h
    simp
  | succ n ih =>
    intro l cs hl h
    by_cases hn : l = []
    · subst hn
      rw [codes_nil, Option.some.injEq] at h
      subst h
      simp
    · by_cases h0 : (dec l).2 = 0
      · rw [codes_bad hn h0] at h; cases h
      · rw [codes_step hn h0] at h
        obtain ⟨cs', h', rfl⟩ := Option.map_eq_some_iff.1 h
        have hb := dec_bd l
        have := ih _ cs' (by rw [List.length_drop]; omega) h'
        rw [List.length_drop] at this
        rw [List.length_cons]
        omega
theorem codes_le {l : List UInt8} {cs : List Int} (h : codes l = some cs) : cs.length ≤ l.length := codes_le_n _ l cs (Nat.le_refl _) h
/-- The code points of a text; none, if it is not good. -/
def codesS (l : List UInt8) : List Int := match codes l with | some cs => cs | none => []
def CodesTo (l : List UInt8) (k : Nat) (cs : List Int) : Prop := cs.length ≤ k ∧ (codes (l.drop k)).map (fun r => cs ++ r) = codes l

set_option maxRecDepth 100000 in
set_option maxHeartbeats 1000000 in
theorem rcodes_any (s : ByteArray) (w : World) (hs : s.size ≤ 9000) :
    Calls Tryz.prog 58 #[.string s] w fun e w' => ∃ A c, e = .returned (.tuple #[.slice A (codesS s.data.toList).length c, .bool (goodB s.data.toList)]) ∧ IntsAtR w' w'.heap.size A (codesS s.data.toList).length (codesS s.data.toList) ∧ Below w.heap.size w w' := by
  have hi9 : (Tryz.prog.info? 3).map (fun i => (i.zero, i.size, i.bytes)) = some (some (.int .i64 0), 1, 8) := by kernel_rfl
  obtain ⟨i0, hi, hx⟩ := Option.map_eq_some_iff.1 hi9
  simp only [Prod.mk.injEq] at hx
  obtain ⟨hz0, hz1, hz2⟩ := hx
  clear hi9
  have HL : Hid (s.data.toList.length = s.size) := Lib.hid Array.length_toList
  go_enter Tryz.func58, Tryz.ntmps58
  go_wp2
  go_loopg [4, 5] s.size (fun g out i wx => ∃ (k : Nat) (cs : List Int), k + g = s.size ∧ i = .int .i64 k ∧ Aside (CodesTo s.data.toList k cs) ∧ wx.ownsRow w.heap.size 3 1 out cs.length (cs.map (Value.int .i64)) ∧ Below w.heap.size w wx)
  case atStart => exact ⟨0, [], by omega, rfl, Aside.intro ⟨by simp, by simp⟩, World.ownsRow_nil _ _ _ _, Below.refl _ _⟩
  case round =>
    obtain ⟨k, cs, hk, rfl, H, hown, hb⟩ := hrel
    obtain ⟨A, cap, rfl⟩ := own_form hown
    cases gk with
    | zero =>
      obtain rfl : k = s.size := by omega
      have hc : codes s.data.toList = some cs := by rw [← H.out.2, List.drop_eq_nil_of_le (by rw [HL.out]; omega)]; simp [codes_nil]
      have h1 : Hid (goodB s.data.toList = true) := Lib.hid (by rw [goodB_iff, hc]; rfl)
      have h2 : Hid (codesS s.data.toList = cs) := Lib.hid (by unfold codesS; rw [hc])
      have hI := Lib.hid (ints_of_ownR hown).2
      clear H hc hown
      go_wp2
      go_ret2
      exact ⟨A, cap, by rw [h1.out, h2.out]; rfl, by rw [h2.out]; exact hI.out, hb⟩
    | succ g =>
      have hlt : k < s.size := by omega
      have hlt' : (k : Int) < (s.size : Int) := by omega
      have hne : Hid (s.data.toList.drop k ≠ []) := Lib.hid (fun e => by have := congrArg List.length e; rw [List.length_drop, HL.out] at this; simp at this; omega)
      have hdl : Hid ((s.data.toList.drop k).length = s.size - k) := Lib.hid (by rw [List.length_drop, HL.out])
      have hbd := dec_bd (s.data.toList.drop k)
      have hcode := rcode_in s k wr hs hlt
      have hst := Lib.hid (codes_step (l := s.data.toList.drop k) hne.out)
      have hbad := Lib.hid (codes_bad (l := s.data.toList.drop k) hne.out)
      generalize dec (s.data.toList.drop k) = d at *
      obtain ⟨c, n⟩ := d
      simp only at hbd hcode hst hbad
      obtain ⟨b1, b2, b3, b4, b5, b6⟩ := hbd
      rw [hdl.out] at b3
      have HC := Lib.hid hcode
      clear hcode b6
      by_cases hn : n = 0
      · have hc : codes s.data.toList = none := by rw [← H.out.2, hbad.out hn]; rfl
        have h1 : Hid (goodB s.data.toList = false) := Lib.hid (by rw [goodB_iff, hc]; rfl)
        have h2 : Hid (codesS s.data.toList = []) := Lib.hid (by unfold codesS; rw [hc])
        have z0 : (n == 0) = true := by simp [hn]
        clear H hst hbad hn hc hown
        go_wp2_with fail
        refine HC.out.mono ?_
        rintro e w1 ⟨rfl, rfl⟩
        go_wp2_with fail
        go_ret2
        exact ⟨none, 0, by rw [h1.out, h2.out]; rfl, by rw [h2.out]; exact ⟨rfl, fun j z hz => by simp at hz⟩, hb⟩
      · have z0 : (n == 0) = false := by simp [hn]
        have hE' : Hid ((codes ((s.data.toList.drop k).drop n.toNat)).map (fun r => (cs ++ [c]) ++ r) = codes s.data.toList) := Lib.hid (by
          rw [← H.out.2, hst.out hn, Option.map_map]
          congr 1
          funext r
          simp)
        have hcl := H.out.1
        have hn1 : 1 ≤ n := by omega
        have HB := Lib.hid hb
        clear H hst hbad hn hb
        go_wp2_with fail
        refine HC.out.mono ?_
        rintro e w1 ⟨rfl, rfl⟩
        go_wp2_with (at_builtin; refine wpList_append_own _ rfl _ _ 101 rfl w.heap.size 3 i0 (.int .i64 0) 1 8 Tryz.underlying101 hi hz0 hz1 hz2 rfl (by decide) _ _ _ rfl (hown.alloc _) ⟨wr.heap.size, 0, none⟩ 1 1 [.int .i64 c] rfl rfl (cell_one_new _ _ _) (by intro x hx; simp at hx; rcases hx with rfl; rfl) (by unfold maxLen; omega) (by omega) (by have := HB.out.size; simp; omega) ?_; intro v' w3 hown' hgrow _; obtain ⟨A', cap', rfl⟩ := own_form hown'; have HG := Lib.hid hgrow; have HO := Lib.hid hown'; have HW := Lib.hid hown; clear hgrow hown' hown)
        obtain ⟨m, rfl⟩ := Int.eq_ofNat_of_zero_le b1
        go_roundg (s.size - (k + m))
        case measure => omega
        case rel => exact ⟨k + m, cs ++ [c], by omega, by go_num, Aside.intro ⟨by rw [List.length_append]; simp; omega, by rw [← hE'.out, List.drop_drop]; rfl⟩, by rw [List.map_append, List.length_append]; exact HO.out, (HB.out.alloc HB.out.size _).grown HG.out (by have := HB.out.size; simp; omega) (fun q hq => (HW.out.lt q hq).1)⟩

theorem rgood_any (s : ByteArray) (w : World) (hs : s.size ≤ 9000) : Calls Tryz.prog 43 #[.string s] w fun e w' => e = .returned (.bool (goodB s.data.toList)) ∧ Below w.heap.size w w' := by
  have H := Lib.hid (rcodes_any s w hs)
  go_enter Tryz.func43, Tryz.ntmps43
  go_wp2_with fail
  refine H.out.mono ?_
  rintro e w1 ⟨A, c, rfl, _, hb⟩
  go_wp2_with fail
  go_ret
  exact ⟨rfl, hb⟩

theorem all_takeR {cs : List Int} {p : Int → Bool} {k : Nat} {z : Int} (h : (cs.take k).all p = true) (hz : cs[k]? = some z) (hp : p z = true) : (cs.take (k + 1)).all p = true := by
  rw [List.take_add_one, hz, List.all_append, h]
  simp [hp]
theorem all_no {cs : List Int} {p : Int → Bool} {k : Nat} {z : Int} (hz : cs[k]? = some z) (hp : p z = false) : cs.all p = false := by
  rw [List.all_eq_false]
  exact ⟨z, List.mem_of_getElem? hz, by simp [hp]⟩

set_option maxRecDepth 100000 in
theorem rname_c (s : ByteArray) (w : World) (hs : s.size ≤ 9000) : Calls Tryz.prog 40 #[.string s] w fun e w' => e = .returned (.bool (nameB s.data.toList)) ∧ w = w' := by
  by_cases hn : s.size = 0
  · have hd : Hid (nameB s.data.toList = false) := Lib.hid (by
      have : s.data.toList = [] := List.eq_nil_of_length_eq_zero (by rw [← Lib.size_eq]; exact hn)
      rw [this]; rfl)
    have hem : s.toList = [] := by
      rw [Lib.toList_data]
      exact List.eq_nil_of_length_eq_zero (by rw [← Lib.size_eq]; exact hn)
    have hem' : s.toList.isEmpty = true := by rw [hem]; rfl
    clear hem
    go_enter Tryz.func40, Tryz.ntmps40
    go_wp2
    go_ret
    exact ⟨ret_bool hd.out.symm, rfl⟩
  · have hp : 0 < s.size := by omega
    have hem' : s.toList.isEmpty = false := by
      rw [Lib.toList_data]
      cases h : s.data.toList with
      | nil => have h' := Lib.size_eq s; rw [h] at h'; have h'' : s.size = 0 := h'; omega
      | cons _ _ => rfl
    have hne : Hid (s.toList.isEmpty = false) := Lib.hid hem'
    cases hl : letB (s[0].toNat : Int)
    · have hd : Hid (nameB s.data.toList = false) := Lib.hid (name_stop0 hp hl)
      clear hn
      go_enter Tryz.func40, Tryz.ntmps40
      go_wp2_with (go_at_call 55; refine (start_any _ _).mono ?_; rintro e w' ⟨rfl, rfl⟩)
      go_ret
      exact ⟨ret_bool hd.out.symm, rfl⟩
    · have h1 : Hid (nameTo s 1) := Lib.hid (nameTo_letter (k := 0) hp (.inl rfl) hl)
      clear hn
      go_enter Tryz.func40, Tryz.ntmps40
      go_wp2_with (go_at_call 55; refine (start_any _ _).mono ?_; rintro e w' ⟨rfl, rfl⟩)
      clear hl
      go_loopg [3] (s.size - 1) (fun g i wx => ∃ k : Nat, 1 ≤ k ∧ k + g = s.size ∧ i = .int .i64 k ∧ Aside (nameTo s k) ∧ w = wx)
      case atStart => exact ⟨1, by omega, by omega, rfl, Aside.intro h1.out, rfl⟩
      case round =>
        obtain ⟨k, hk1, hk, rfl, H, rfl⟩ := hrel
        cases gk with
        | zero =>
          obtain rfl : k = s.size := by omega
          have hst : Hid (nameB s.data.toList = true) := Lib.hid (by rw [name_done H.out, hne.out]; rfl)
          clear H hk1
          go_wp2
          go_ret
          exact ⟨ret_bool hst.out.symm, rfl⟩
        | succ g =>
          have hlt : k < s.size := by omega
          have hlt' : (k : Int) < (s.size : Int) := by omega
          cases hl : letB (s[k].toNat : Int)
          · cases hd : digB (s[k].toNat : Int)
            · have hst := Lib.hid (name_stop (s := s) hlt (by omega) hl hd)
              clear H
              go_wp2_with (first
                | (go_at_call 55; refine (start_any _ _).mono ?_; rintro e w' ⟨rfl, rfl⟩)
                | (go_at_call 56; refine (rdigit_any _ _).mono ?_; rintro e w' ⟨rfl, rfl⟩))
              go_ret
              exact ⟨ret_bool hst.out.symm, rfl⟩
            · have hst := Lib.hid (nameTo_digit (s := s) hlt (by omega) H.out hd)
              clear H
              go_wp2_with (first
                | (go_at_call 55; refine (start_any _ _).mono ?_; rintro e w' ⟨rfl, rfl⟩)
                | (go_at_call 56; refine (rdigit_any _ _).mono ?_; rintro e w' ⟨rfl, rfl⟩))
              go_roundg g
              case measure => omega
              case rel => exact ⟨k + 1, by omega, by omega, by go_num, Aside.intro hst.out, rfl⟩
          · have hst := Lib.hid (nameTo_letter (s := s) hlt H.out hl)
            clear H
            go_wp2_with (first
              | (go_at_call 55; refine (start_any _ _).mono ?_; rintro e w' ⟨rfl, rfl⟩)
              | (go_at_call 56; refine (rdigit_any _ _).mono ?_; rintro e w' ⟨rfl, rfl⟩))
            go_roundg g
            case measure => omega
            case rel => exact ⟨k + 1, by omega, by omega, by go_num, Aside.intro hst.out, rfl⟩
end Go.Proofs.YtcfdfgbobnocnaaGreatDoor
namespace Go.Proofs.YtcfdfgbobnocnaaGreatDoor
open Go.RowKit

theorem namedL_no {p : List UInt8 → Bool} : ∀ {l : VL} {j : Nat} {v : VT}, l.get j = some v → namedV p v = false → namedL p l = false
  | .nil, _, _, h, _ => by simp [VL.get] at h
  | .cons u t, 0, v, h, h2 => by
    have : u = v := by simpa [VL.get] using h
    subst this
    rw [namedL, h2]; rfl
  | .cons u t, j + 1, v, h, h2 => by rw [namedL, namedL_no (l := t) (j := j) h h2]; simp
theorem namedL_yes {p : List UInt8 → Bool} : ∀ {l : VL}, (∀ (j : Nat) v, l.get j = some v → namedV p v = true) → namedL p l = true
  | .nil, _ => rfl
  | .cons u t, h => by rw [namedL, h 0 u rfl, namedL_yes (l := t) (fun j v hj => h (j + 1) v hj)]; rfl
theorem namedM_no {p : List UInt8 → Bool} : ∀ {l : VM} {j : Nat} {nm : ByteArray} {v : VT}, l.get j = some (nm, v) → (p nm.data.toList && namedV p v) = false → namedM p l = false
  | .nil, _, _, _, h, _ => by simp [VM.get] at h
  | .cons a u t, 0, nm, v, h, h2 => by
    have : a = nm ∧ u = v := by simpa [VM.get] using h
    obtain ⟨rfl, rfl⟩ := this
    rw [namedM, h2]; rfl
  | .cons a u t, j + 1, nm, v, h, h2 => by rw [namedM, namedM_no (l := t) (j := j) h h2]; simp
theorem namedM_yes {p : List UInt8 → Bool} : ∀ {l : VM}, (∀ (j : Nat) nm v, l.get j = some (nm, v) → (p nm.data.toList && namedV p v) = true) → namedM p l = true
  | .nil, _ => rfl
  | .cons a u t, h => by rw [namedM, h 0 a u rfl, namedM_yes (l := t) (fun j nm v hj => h (j + 1) nm v hj)]; rfl
theorem vget_size : ∀ {l : VM} {j : Nat} {nm : ByteArray} {v : VT}, l.get j = some (nm, v) → nm.size + sizeV v ≤ sizeM l
  | .nil, _, _, _, h => by simp [VM.get] at h
  | .cons a u t, 0, nm, v, h => by
    have : a = nm ∧ u = v := by simpa [VM.get] using h
    obtain ⟨rfl, rfl⟩ := this
    rw [sizeM]; omega
  | .cons a u t, j + 1, nm, v, h => by
    have := vget_size (l := t) (j := j) h
    rw [sizeM]; omega
end Go.Proofs.YtcfdfgbobnocnaaGreatDoor
