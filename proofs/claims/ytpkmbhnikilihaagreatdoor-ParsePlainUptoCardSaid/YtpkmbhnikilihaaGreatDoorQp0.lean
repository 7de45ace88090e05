/- Plain facts on bytes, code points, names and UTF-16 units, of no program: what the walks of the package letters and of the document's own answer come to. -/
import Derived.Lib.Strings
import Derived.Test.YtpkmbhnikilihaaGreatDoorChecked
import Derived.WalkKit
import Derived.Deep.LoopGhost
import Derived.Shelf.Strings.BuilderK
import Derived.Shelf.Strings.BuilderRune
import Derived.Test.YtpkmbhnikilihaaGreatDoorProg
import Derived.WalkLawsBesides
import Derived.Deep.CondSized
import Derived.Lib.Hide
import Derived.Test.YtpkmbhnikilihaaGreatDoorRows
import Derived.ProofKit
import Derived.Carry
import Derived.Deep.Strs
import Derived.Deep.Slices
import Derived.Deep.WholeRow
import Derived.Deep.RegionHeld3
import Derived.Shelf.Abstract
import Derived.Deep.QuietTactic
import Derived.BigQuiet
import Derived.Deep.Draws
import Derived.Laws.Rows
import Derived.Laws.BitsAllLaws
import Derived.Laws.BitsLemmas
import Derived.Laws.Entries
import Derived.Lib.RuneBytes
namespace Go.Proofs.YtpkmbhnikilihaaGreatDoor
theorem Hd {p : Prop} (h : p) : Go.RowKit.Hid p := Go.Lib.hid h
theorem stT {a : List Value} {i : Nat} {x : Value} : a.toArray.setIfInBounds i x = (a.set i x).toArray := by simp
theorem stZ {x y : Value} {a : List Value} : (x :: a).set 0 y = y :: a := rfl
theorem stS {x y : Value} {a : List Value} {i : Nat} : (x :: a).set (i + 1) y = x :: a.set i y := rfl
def letB (c : Int) : Bool := decide ((97 ≤ c ∧ c ≤ 122) ∨ (65 ≤ c ∧ c ≤ 90) ∨ c = 95)
def digB (c : Int) : Bool := decide (48 ≤ c ∧ c ≤ 57)
def halfB (c : Int) : Bool := decide (55296 ≤ c ∧ c ≤ 57343)
def pairB (a b : Int) : Bool := decide (55296 ≤ a ∧ a < 56320 ∧ 56320 ≤ b ∧ b ≤ 57343)
def tailB (l : List UInt8) : Bool := l.all fun b => letB (b.toNat : Int) || digB (b.toNat : Int)
def nameB : List UInt8 → Bool
 | [] => false
 | b :: t => letB (b.toNat : Int) && tailB t
theorem tailB_append (l m : List UInt8) : tailB (l ++ m) = (tailB l && tailB m) := by simp [tailB]
theorem nameB_append (l m : List UInt8) (h : l ≠ []) : nameB (l ++ m) = (nameB l && tailB m) := by
 cases l with
 | nil => exact absurd rfl h
 | cons b t => simp [nameB, tailB_append, Bool.and_assoc]
theorem take_snoc (s : ByteArray) (k : Nat) (h : k < s.size) : s.data.toList.take (k + 1) = s.data.toList.take k ++ [s[k]] := by
 rw [List.take_succ_eq_append_getElem (by simpa using h)]; rfl
def nameTo (s : ByteArray) (k : Nat) : Prop := k = 0 ∨ nameB (s.data.toList.take k) = true
theorem take_ne (s : ByteArray) (k : Nat) (h0 : k ≠ 0) (h : k < s.size) : s.data.toList.take k ≠ [] := by
 have : s.data.toList.length = s.size := Array.length_toList
 intro e
 have := congrArg List.length e
 simp only [List.length_take, List.length_nil] at this
 omega
theorem nameTo_letter {s : ByteArray} {k : Nat} (h : k < s.size) (ht : nameTo s k) (hl : letB (s[k].toNat : Int) = true) : nameTo s (k + 1) := by
 refine .inr ?_
 rw [take_snoc s k h]
 rcases ht with h0 | ht
 · subst h0; simp [nameB, tailB, hl]
 · rw [nameB_append _ _ (by intro e; rw [e] at ht; cases ht), ht]; simp [tailB, hl]
theorem nameTo_digit {s : ByteArray} {k : Nat} (h : k < s.size) (h0 : k ≠ 0) (ht : nameTo s k) (hl : digB (s[k].toNat : Int) = true) : nameTo s (k + 1) := by
 refine .inr ?_
 rw [take_snoc s k h]
 rcases ht with h0' | ht
 · exact absurd h0' h0
 · rw [nameB_append _ _ (by intro e; rw [e] at ht; cases ht), ht]; simp [tailB, hl]
theorem nameB_split (s : ByteArray) (k : Nat) (h : k < s.size) : s.data.toList = s.data.toList.take k ++ s[k] :: s.data.toList.drop (k + 1) := by
 have e := (List.take_append_drop (k + 1) s.data.toList).symm
 rw [take_snoc s k h, List.append_assoc] at e
 exact e
theorem name_stop0 {s : ByteArray} (h : 0 < s.size) (hl : letB (s[0].toNat : Int) = false) : nameB s.data.toList = false := by
 rw [nameB_split s 0 h]; simp [nameB, hl]
theorem name_stop {s : ByteArray} {k : Nat} (h : k < s.size) (h0 : k ≠ 0) (hl : letB (s[k].toNat : Int) = false) (hd : digB (s[k].toNat : Int) = false) : nameB s.data.toList = false := by
 rw [nameB_split s k h, nameB_append _ _ (take_ne s k h0 h)]
 simp [tailB, hl, hd]
theorem name_done {s : ByteArray} (ht : nameTo s s.size) : nameB s.data.toList = !s.toList.isEmpty := by
 have hl : s.data.toList.length = s.size := Array.length_toList
 have e : s.toList = s.data.toList := Lib.toList_data s
 rw [e]
 rcases ht with h0 | ht
 · have : s.data.toList = [] := List.eq_nil_of_length_eq_zero (by omega)
   rw [this]; rfl
 · rw [← hl, List.take_length] at ht
   rw [ht]
   cases h : s.data.toList with
   | nil => rw [h] at ht; cases ht
   | cons _ _ => rfl
open Go.RowKit
theorem Aside.intro {p : Prop} (h : p) : Aside p := h
theorem ret_bool {a b : Bool} (h : a = b) : Ending.returned (.bool a) = .returned (.bool b) := by rw [h]
theorem ret_boolw {a b : Bool} {w : World} (h : a = true ↔ b = true) : Ending.returned (.bool a) = .returned (.bool b) ∧ w = w := by rw [Bool.eq_iff_iff.2 h]; exact ⟨rfl, rfl⟩
theorem letter_any (c : Int) (w : World) : Calls Tryz.prog 196 #[.int .u8 c] w fun e w' => e = .returned (.bool (letB c)) ∧ w = w' := by
 go_enter Tryz.func196, Tryz.ntmps196
 go_wp2
 all_goals go_ret
 all_goals (refine ret_boolw ?_; simp [letB]; try omega)
theorem digit_any (c : Int) (w : World) : Calls Tryz.prog 197 #[.int .u8 c] w fun e w' => e = .returned (.bool (digB c)) ∧ w = w' := by
 go_enter Tryz.func197, Tryz.ntmps197
 go_wp2
 all_goals go_ret
 all_goals (refine ret_boolw ?_; simp [digB]; try omega)
theorem half_any (c : Int) (w : World) : Calls Tryz.prog 283 #[.int .i64 c] w fun e w' => e = .returned (.bool (halfB c)) ∧ w = w' := by
 go_enter Tryz.func283, Tryz.ntmps283
 go_wp2
 all_goals go_ret
 all_goals (refine ret_boolw ?_; simp [halfB]; try omega)
theorem pair_any (a b : Int) (w : World) : Calls Tryz.prog 306 #[.int .i64 a, .int .i64 b] w fun e w' => e = .returned (.bool (pairB a b)) ∧ w = w' := by
 go_enter Tryz.func306, Tryz.ntmps306
 go_wp2
 all_goals go_ret
 all_goals (refine ret_boolw ?_; simp [pairB]; try omega)
theorem name_any (s : ByteArray) (w : World) (hs : s.size ≤ 1100000) : Calls Tryz.prog 130 #[.string s] w fun e w' => e = .returned (.bool (nameB s.data.toList)) ∧ w = w' := by
 go_enter Tryz.func130, Tryz.ntmps130
 go_wp2
 go_loop [6] (fun i => ∃ k : Nat, k ≤ s.size ∧ i = .int .i64 k ∧ nameTo s k) (fun i => s.size - (intOf i).toNat)
 case atStart => exact ⟨0, Nat.zero_le _, rfl, .inl rfl⟩
 case round =>
  obtain ⟨k, hk, rfl, H⟩ := hrel
  by_cases hlt : k < s.size
  · cases hl : letB (s[k].toNat : Int)
    · by_cases h0 : k = 0
      · have hst := Aside.intro (name_stop0 (s := s) (by omega) (by subst h0; exact hl))
        have e0 : ((k : Int) == 0) = true := by simp [h0]
        clear h0 H
        go_wp2_with (first
          | (go_at_call 196; refine (letter_any _ _).mono ?_; rintro e w' ⟨rfl, rfl⟩)
          | (go_at_call 197; refine (digit_any _ _).mono ?_; rintro e w' ⟨rfl, rfl⟩))
        go_ret
        exact ⟨ret_bool hst.out.symm, rfl⟩
      · have e0 : ((k : Int) == 0) = false := by simp [h0]
        cases hd : digB (s[k].toNat : Int)
        · have hst := Aside.intro (name_stop (s := s) hlt h0 hl hd)
          clear h0 H
          go_wp2_with (first
           | (go_at_call 196; refine (letter_any _ _).mono ?_; rintro e w' ⟨rfl, rfl⟩)
           | (go_at_call 197; refine (digit_any _ _).mono ?_; rintro e w' ⟨rfl, rfl⟩))
          go_ret
          exact ⟨ret_bool hst.out.symm, rfl⟩
        · have hst := Aside.intro (nameTo_digit (s := s) hlt h0 H hd)
          clear h0 H
          go_wp2_with (first
           | (go_at_call 196; refine (letter_any _ _).mono ?_; rintro e w' ⟨rfl, rfl⟩)
           | (go_at_call 197; refine (digit_any _ _).mono ?_; rintro e w' ⟨rfl, rfl⟩))
          go_round
          case rel => exact ⟨k + 1, by omega, by go_num, hst.out⟩
          case measure => simp [intOf]; omega
    · have hst := Aside.intro (nameTo_letter (s := s) hlt H hl)
      clear H
      go_wp2_with (first
        | (go_at_call 196; refine (letter_any _ _).mono ?_; rintro e w' ⟨rfl, rfl⟩)
        | (go_at_call 197; refine (digit_any _ _).mono ?_; rintro e w' ⟨rfl, rfl⟩))
      go_round
      case rel => exact ⟨k + 1, by omega, by go_num, hst.out⟩
      case measure => simp [intOf]; omega
  · obtain rfl : k = s.size := by omega
    have hst := Aside.intro (name_done H)
    clear H hk
    go_wp2
    go_ret
    exact ⟨ret_bool hst.out.symm, rfl⟩
open Go.Shelf Go.RowKit
def runeRen : Go.Shelf.Ren := ⟨fun | 168 => 140 | 240 => 139 | 242 => 204 | 276 => 203 | 278 => 251 | n => n, fun | 0 => 0 | 3 => 3 | 4 => 4 | 5 => 5 | 9 => 9 | 20 => 20 | 21 => 21 | 37 => 100 | 46 => 167 | 51 => 243 | 70 => 99 | 72 => 102 | 75 => 105 | 80 => 110 | 164 => 220 | n => n, fun | n => n⟩
theorem runeLays : Go.Proofs.Lays.n168 Tryz.prog runeRen := {
 mixed := by kernel_rfl
 f168 := Tryz.func140.trans (congrArg some (by kernel_rfl))
 f240 := Tryz.func139.trans (congrArg some (by kernel_rfl))
 f242 := Tryz.func204.trans (congrArg some (by kernel_rfl))
 f276 := Tryz.func203.trans (congrArg some (by kernel_rfl))
 f278 := Tryz.func251.trans (congrArg some (by kernel_rfl))
 t0 := Tryz.underlying0
 a0 := Tryz.isAgg0
 z0 := Tryz.sizeOf0
 v0 := Tryz.zeroValue0
 t3 := Tryz.underlying3
 a3 := Tryz.isAgg3
 z3 := Tryz.sizeOf3
 v3 := Tryz.zeroValue3
 t4 := Tryz.underlying4
 a4 := Tryz.isAgg4
 z4 := Tryz.sizeOf4
 v4 := Tryz.zeroValue4
 t5 := Tryz.underlying5
 a5 := Tryz.isAgg5
 z5 := Tryz.sizeOf5
 v5 := Tryz.zeroValue5
 t9 := Tryz.underlying9
 a9 := Tryz.isAgg9
 z9 := Tryz.sizeOf9
 v9 := Tryz.zeroValue9
 t20 := Tryz.underlying20
 a20 := Tryz.isAgg20
 z20 := Tryz.sizeOf20
 v20 := Tryz.zeroValue20
 t21 := Tryz.underlying21
 a21 := Tryz.isAgg21
 z21 := Tryz.sizeOf21
 v21 := Tryz.zeroValue21
 t37 := Tryz.underlying100
 a37 := Tryz.isAgg100
 z37 := Tryz.sizeOf100
 v37 := Tryz.zeroValue100
 t46 := Tryz.underlying167
 a46 := Tryz.isAgg167
 z46 := Tryz.sizeOf167
 v46 := Tryz.zeroValue167
 t51 := Tryz.underlying243
 a51 := Tryz.isAgg243
 z51 := Tryz.sizeOf243
 v51 := Tryz.zeroValue243
 t70 := Tryz.underlying99
 a70 := Tryz.isAgg99
 z70 := Tryz.sizeOf99
 v70 := Tryz.zeroValue99
 t72 := Tryz.underlying102
 a72 := Tryz.isAgg102
 z72 := Tryz.sizeOf102
 v72 := Tryz.zeroValue102
 t75 := Tryz.underlying105
 a75 := Tryz.isAgg105
 z75 := Tryz.sizeOf105
 v75 := Tryz.zeroValue105
 t164 := Tryz.underlying220
 a164 := Tryz.isAgg220
 z164 := Tryz.sizeOf220
 v164 := Tryz.zeroValue220 }
theorem runeExtra : Builder.Extra Tryz.prog runeRen := {
 sizeBuilder := by kernel_rfl
 liesBuilder := by kernel_rfl
 t5 := Tryz.underlying5
 a5 := Tryz.isAgg5
 z5 := Tryz.sizeOf5
 v5 := Tryz.zeroValue5
 infoByte := by kernel_rfl
 cellsByte := by kernel_rfl
 sizeByte := by kernel_rfl
 neB5 := by decide }
theorem writeRune (B b : Nat) (bs : List Value) (r : Int) (hr0 : -2147483648 ≤ r) (hr1 : r ≤ 2147483647) (w : World) (h : Lib.IsBuilderF 102 5 B b bs w) (hlen : bs.length + 4 ≤ 140737488355328) (hBw : B ≤ w.heap.size) :
  Calls Tryz.prog 140 #[.pointer (some ⟨b, 0, none⟩), .int .i32 r] w fun e w' => e = .returned (.tuple #[.int .i64 (Lib.runeCells r).length, .nilIface]) ∧ (Lib.BuilderAtF 102 5 B b (.pointer (some ⟨b, 0, none⟩)) (bs ++ Lib.runeCells r) w' ∧ Below B w w' ∧ Lib.OthersKept 5 (some b) w w') :=
 Any.Builder_WriteRune_k runeLays runeExtra B b bs r hr0 hr1 w h hlen hBw
def textRen : Go.Shelf.Ren := ⟨fun | 169 => 62 | n => n, fun | 0 => 0 | 3 => 3 | 9 => 9 | 37 => 100 | 70 => 99 | 72 => 102 | 127 => 176 | 5 => 5 | n => n, fun | n => n⟩
theorem textLays : Go.Proofs.Lays.n169 Tryz.prog textRen := {
 mixed := by kernel_rfl
 f169 := Tryz.func62.trans (congrArg some (by kernel_rfl))
 t0 := Tryz.underlying0
 a0 := Tryz.isAgg0
 z0 := Tryz.sizeOf0
 v0 := Tryz.zeroValue0
 t3 := Tryz.underlying3
 a3 := Tryz.isAgg3
 z3 := Tryz.sizeOf3
 v3 := Tryz.zeroValue3
 t9 := Tryz.underlying9
 a9 := Tryz.isAgg9
 z9 := Tryz.sizeOf9
 v9 := Tryz.zeroValue9
 t37 := Tryz.underlying100
 a37 := Tryz.isAgg100
 z37 := Tryz.sizeOf100
 v37 := Tryz.zeroValue100
 t70 := Tryz.underlying99
 a70 := Tryz.isAgg99
 z70 := Tryz.sizeOf99
 v70 := Tryz.zeroValue99
 t72 := Tryz.underlying102
 a72 := Tryz.isAgg102
 z72 := Tryz.sizeOf102
 v72 := Tryz.zeroValue102
 t127 := Tryz.underlying176
 a127 := Tryz.isAgg176
 z127 := Tryz.sizeOf176
 v127 := Tryz.zeroValue176 }
theorem textExtra : Builder.Extra Tryz.prog textRen := {
 sizeBuilder := by kernel_rfl
 liesBuilder := by kernel_rfl
 t5 := Tryz.underlying5
 a5 := Tryz.isAgg5
 z5 := Tryz.sizeOf5
 v5 := Tryz.zeroValue5
 infoByte := by kernel_rfl
 cellsByte := by kernel_rfl
 sizeByte := by kernel_rfl
 neB5 := by decide }
theorem builderText (B b : Nat) (l : List UInt8) (w : World) (h : Lib.IsBuilderF 102 5 B b (Lib.byteCells l) w) (hBw : B ≤ w.heap.size) :
  Calls Tryz.prog 62 #[.pointer (some ⟨b, 0, none⟩)] w fun e w' => e = .returned (.string ⟨l.toArray⟩) ∧ (Lib.IsBuilderF 102 5 B b (Lib.byteCells l) w' ∧ Below B w w' ∧ Lib.OthersKept 5 (some b) w w') :=
 Any.Builder_String_any_k textLays textExtra B b l w h hBw
abbrev Tok := Int × ByteArray
def Moved (r : Nat) (w w' : World) : Prop := w.grownBy w' (some r)
theorem Moved.refl (r : Nat) (w : World) : Moved r w w := ⟨rfl, rfl, rfl, Nat.le_refl _, fun _ _ _ => rfl⟩
theorem Moved.of_below {r : Nat} {w w' : World} (h : Below w.heap.size w w') : Moved r w w' := ⟨h.os, h.tape, h.output, h.size, fun b hb _ => h.block b hb⟩
theorem Moved.trans {r : Nat} {w w1 w2 : World} (h : Moved r w w1) (h' : Moved r w1 w2) : Moved r w w2 :=
 ⟨h'.os.trans h.os, h'.tape.trans h.tape, h'.output.trans h.output, Nat.le_trans h.size h'.size, fun b hb hn => (h'.block b (Nat.lt_of_lt_of_le hb h.size) hn).trans (h.block b hb hn)⟩
theorem Moved.set {r i : Nat} {w : World} {v : Value} : Moved r w (w.setCell ⟨r, i, none⟩ v) := by
 exact ⟨rfl, rfl, rfl, by simp [World.setCell], fun b hb hn => Below.heap_setCell _ _ _ _ (fun e => hn (by rw [e]))⟩
def PToksAt (w : World) (r : Nat) (A : Option Addr) (ts : List Tok) : Prop := ∀ (j : Nat) t, ts[j]? = some t → ∃ b o, A = some ⟨b, o, none⟩ ∧ b < r ∧ w.cell? ⟨b, o + j * 2, none⟩ = some (.int .i64 t.1) ∧ w.cell? ⟨b, o + j * 2 + 1, none⟩ = some (.string t.2)
theorem PToksAt.moved {w w' : World} {r : Nat} {A : Option Addr} {ts : List Tok} (h : PToksAt w r A ts) (hm : Moved r w w') (hr : r < w.heap.size) : PToksAt w' r A ts := by
 intro j t ht
 obtain ⟨b, o, e, hb, h0, h1⟩ := h j t ht
 have hs := hm.block b (by omega) (fun e => by injection e; omega)
 exact ⟨b, o, e, hb, (World.cell?_of_block (a := ⟨b, o + j * 2, none⟩) hs).trans h0, (World.cell?_of_block (a := ⟨b, o + j * 2 + 1, none⟩) hs).trans h1⟩
def Rd (w : World) (r : Nat) (ts : List Tok) (d : Nat) : Prop := ∃ A c, w.heap[r]? = some (.cells #[.slice A ts.length c, .int .i64 d] 147 (0, 0)) ∧ ts.length ≤ c ∧ ts.length ≤ 200000 ∧ PToksAt w r A ts
theorem Rd.lt {w : World} {r : Nat} {ts : List Tok} {d : Nat} (h : Rd w r ts d) : r < w.heap.size := by
 obtain ⟨A, c, h, _⟩ := h
 exact (Array.getElem?_eq_some_iff.1 h).1
theorem Rd.below {w w' : World} {r : Nat} {ts : List Tok} {d : Nat} (h : Rd w r ts d) (hb : Below w.heap.size w w') : Rd w' r ts d := by
 have hl := h.lt
 obtain ⟨A, c, h0, h1, h2, h3⟩ := h
 exact ⟨A, c, (hb.block r hl).trans h0, h1, h2, h3.moved (Moved.of_below hb) hl⟩
theorem two_box {w : World} {b : Nat} {z0 z1 : Value} {t : TypeId} (h : w.heap[b]? = some (.cells #[z0, z1] t (0, 0))) : w.cell? ⟨b, 0, none⟩ = some z0 ∧ w.cell? ⟨b, 1, none⟩ = some z1 ∧ w.frozen? ⟨b, 0, none⟩ = false ∧ w.frozen? ⟨b, 1, none⟩ = false := by
 refine ⟨?_, ?_, ?_, ?_⟩
 · simp only [World.cell?, h]; rfl
 · simp only [World.cell?, h]; rfl
 · simp [World.frozen?, h]
 · simp [World.frozen?, h]
def PanicE (e : Int) : Ending := .panicked [{ v := .iface 145 (.agg #[.int .i64 e]), recovered := false }]
def atB (k : Int) (s : ByteArray) : List Tok → Bool
 | [] => false
 | t :: _ => t.1 == k && (t.2.toList == s.toList)
def wordB : List Tok → Bool
 | [] => false
 | t :: _ => t.1 == 2
theorem ended_any (r : Nat) (ts : List Tok) (d : Nat) (w : World) (h : Rd w r ts d) : Calls Tryz.prog 94 #[.pointer (some ⟨r, 0, none⟩)] w fun e w' => e = .returned (.bool ts.isEmpty) ∧ w = w' := by
 obtain ⟨A, c, h0, h1, h2, h3⟩ := h
 obtain ⟨c0, c1, _, _⟩ := two_box h0
 have he : ((ts.length : Int) == 0) = ts.isEmpty := by cases ts <;> simp; omega
 obtain ⟨b, hb⟩ : ∃ b, ts.isEmpty = b := ⟨_, rfl⟩
 rw [hb] at he ⊢
 clear h0 h3 hb
 generalize ts.length = n at *
 go_enter Tryz.func94, Tryz.ntmps94
 go_wp2_with fail
 go_ret
 exact ⟨rfl, rfl⟩
set_option maxRecDepth 100000 in
theorem at_any (r : Nat) (ts : List Tok) (d : Nat) (k : Int) (s : ByteArray) (w : World) (h : Rd w r ts d) : Calls Tryz.prog 95 #[.pointer (some ⟨r, 0, none⟩), .int .i64 k, .string s] w fun e w' => e = .returned (.bool (atB k s ts)) ∧ w = w' := by
 have HE := Hd (ended_any r ts d w h)
 obtain ⟨A, c, h0, h1, h2, h3⟩ := h
 obtain ⟨c0, c1, _, _⟩ := two_box h0
 cases ts with
 | nil =>
   clear h0 h3
   go_enter Tryz.func95, Tryz.ntmps95
   go_wp2_with fail
   refine HE.out.mono ?_
   rintro e w1 ⟨rfl, rfl⟩
   go_wp2_with fail
   go_ret
   exact ⟨rfl, rfl⟩
 | cons t ts =>
   obtain ⟨b, o, rfl, hb, g0, g1⟩ := h3 0 t rfl
   obtain ⟨tk, tx⟩ := t
   simp only [Nat.zero_mul, Nat.add_zero] at g0 g1
   have hr : Hid (atB k s ((tk, tx) :: ts) = (tk == k && (tx.toList == s.toList))) := Hd rfl
   have hn : (0 : Int) < (((tk, tx) :: ts).length : Int) := by simp
   have hn2 : ((tk, tx) :: ts).length = ts.length + 1 := rfl
   clear h0 h3
   go_enter Tryz.func95, Tryz.ntmps95
   go_wp2_with fail
   refine HE.out.mono ?_
   rintro e w1 ⟨rfl, rfl⟩
   go_wp2_with fail
   all_goals
    go_ret
    exact ⟨ret_bool (by rw [hr.out]; simp [*]), rfl⟩
set_option maxRecDepth 100000 in
theorem atWord_any (r : Nat) (ts : List Tok) (d : Nat) (w : World) (h : Rd w r ts d) : Calls Tryz.prog 174 #[.pointer (some ⟨r, 0, none⟩)] w fun e w' => e = .returned (.bool (wordB ts)) ∧ w = w' := by
 have HE := Hd (ended_any r ts d w h)
 obtain ⟨A, c, h0, h1, h2, h3⟩ := h
 obtain ⟨c0, c1, _, _⟩ := two_box h0
 cases ts with
 | nil =>
   clear h0 h3
   go_enter Tryz.func174, Tryz.ntmps174
   go_wp2_with fail
   refine HE.out.mono ?_
   rintro e w1 ⟨rfl, rfl⟩
   go_wp2_with fail
   go_ret
   exact ⟨rfl, rfl⟩
 | cons t ts =>
   obtain ⟨b, o, rfl, hb, g0, g1⟩ := h3 0 t rfl
   obtain ⟨tk, tx⟩ := t
   simp only [Nat.zero_mul, Nat.add_zero] at g0 g1
   have hn : (0 : Int) < (((tk, tx) :: ts).length : Int) := by simp
   have hn2 : ((tk, tx) :: ts).length = ts.length + 1 := rfl
   clear h0 h3
   go_enter Tryz.func174, Tryz.ntmps174
   go_wp2_with fail
   refine HE.out.mono ?_
   rintro e w1 ⟨rfl, rfl⟩
   go_wp2_with fail
   go_ret
   exact ⟨rfl, rfl⟩
theorem heap_at2 (w : World) (r : Nat) (v : Value) (o o' : Obj) : (((w.setCell ⟨r, 0, none⟩ v).alloc o).alloc o').heap[w.heap.size]? = some o := by
 have h1 : (w.setCell ⟨r, 0, none⟩ v).heap.size = w.heap.size := by simp [World.setCell]
 rw [Below.heap_alloc _ _ _ (by simp [h1])]
 have := heap_alloc_new (w.setCell ⟨r, 0, none⟩ v) o
 rwa [h1] at this
theorem pret_tok {R : Ending → World → Prop} {fn : Func} {a : Act} {W : World} {c0 c1 : Value} {p b : Nat} (hf : fn.results = #[.cell p 70]) (h2 : a.tmps.getD p undef = .pointer (some ⟨b, 0, none⟩)) (hd : a.defers = [])
  (hc : W.heap[b]? = some (.cells #[c0, c1] 70 (0, 0))) (hR : R (.returned (.agg #[c0, c1])) W) : bodyPost Tryz.prog fn R .ret a W := by
 have hl : (loadVar 70 ⟨b, 0, none⟩).run Tryz.prog W = .ok (.agg #[c0, c1]) W :=
  run_loadVar_row W b 70 70 #[c0, c1] (0, 0) _ hc Tryz.underlying70 rfl (by kernel_rfl)
 refine bodyPost_ret ?_ hd hR
 have h2' : a.tmps[p]?.getD undef = .pointer (some ⟨b, 0, none⟩) := by rw [← h2]; simp
 simp [results, hf, h2', asAddr, hl]
theorem take_world {w : World} {r : Nat} {x y v : Value} {tt : TypeId} {o o' : Obj} (h : w.heap[r]? = some (.cells #[x, y] tt (0, 0))) : (((w.setCell ⟨r, 0, none⟩ v).alloc o).alloc o').heap[r]? = some (.cells #[v, y] tt (0, 0)) ∧ Moved r w (((w.setCell ⟨r, 0, none⟩ v).alloc o).alloc o') := by
 have hl : r < w.heap.size := (Array.getElem?_eq_some_iff.1 h).1
 have h1 : (w.setCell ⟨r, 0, none⟩ v).heap.size = w.heap.size := by simp [World.setCell]
 refine ⟨?_, Moved.set.trans ((Moved.of_below ((Below.refl _ _).alloc (Nat.le_refl _) o)).trans (Moved.of_below ((Below.refl _ _).alloc (Nat.le_refl _) o')))⟩
 rw [Below.heap_alloc _ _ _ (by simp [h1]; omega), Below.heap_alloc _ _ _ (by rw [h1]; exact hl)]
 exact heap_setCell_same _ r 0 _ _ _ h
theorem add_two (b o : Nat) : (⟨b, o, none⟩ : Addr).add 2 = ⟨b, o + 2, none⟩ := by unfold Addr.add; split <;> simp_all
theorem rd_after {w w2 : World} {r : Nat} {t : Tok} {ts : List Tok} {d c : Nat} {b o : Nat} (hA : PToksAt w r (some ⟨b, o, none⟩) (t :: ts)) (hr : r < w.heap.size) (hlen : ts.length ≤ 200000) (hc : ts.length ≤ c)
  (hm : Moved r w w2) (h2 : w2.heap[r]? = some (.cells #[.slice (some ⟨b, o + 2, none⟩) ts.length c, .int .i64 d] 147 (0, 0))) : Rd w2 r ts d := by
 refine ⟨_, c, h2, hc, hlen, fun j u hu => ?_⟩
 obtain ⟨b', o', e, hb, g0, g1⟩ := (hA.moved hm hr) (j + 1) u (by simpa using hu)
 injection e with e
 injection e with e1 e2
 subst e1 e2
 exact ⟨b, o + 2, rfl, hb, by rw [show o + 2 + j * 2 = o + (j + 1) * 2 by omega]; exact g0, by rw [show o + 2 + j * 2 + 1 = o + (j + 1) * 2 + 1 by omega]; exact g1⟩
set_option maxRecDepth 100000 in
theorem take_no (r d : Nat) (w : World) (h : Rd w r [] d) : Calls Tryz.prog 119 #[.pointer (some ⟨r, 0, none⟩)] w fun e w' => e = PanicE 2 ∧ Moved r w w' := by
 have HE := fun wx hb => Hd (ended_any r [] d wx (h.below (w' := wx) hb))
 have hb0 := Hd (fun o => (Below.refl w.heap.size w).alloc (Nat.le_refl _) o)
 clear h
 go_enter Tryz.func119, Tryz.ntmps119
 go_wp2_with fail
 refine (HE _ (hb0.out _)).out.mono ?_
 rintro e w1 ⟨rfl, rfl⟩
 go_wp2_with fail
 exact ⟨rfl, rfl, Moved.of_below (hb0.out _)⟩
set_option maxRecDepth 100000 in
theorem take_yes (r : Nat) (t : Tok) (ts : List Tok) (d : Nat) (w : World) (h : Rd w r (t :: ts) d) : Calls Tryz.prog 119 #[.pointer (some ⟨r, 0, none⟩)] w fun e w' => e = .returned (.agg #[.int .i64 t.1, .string t.2]) ∧ Rd w' r ts d ∧ Moved r w w' := by
 have HE := fun wx hb => Hd (ended_any r (t :: ts) d wx (h.below (w' := wx) hb))
 have hb0 := Hd (fun o => (Below.refl w.heap.size w).alloc (Nat.le_refl _) o)
 have hl := h.lt
 obtain ⟨A, c, h0, h1, h2, h3⟩ := h
 obtain ⟨b, o, rfl, hb, g0, g1⟩ := h3 0 t rfl
 have H3 := Hd h3
 obtain ⟨tk, tx⟩ := t
 simp only [Nat.zero_mul, Nat.add_zero] at g0 g1
 have hcell0 : (w.alloc (.cells #[.int .i64 0, .string ⟨#[]⟩] 70)).heap[r]? = some (.cells #[.slice (some ⟨b, o, none⟩) (ts.length + 1) c, .int .i64 d] 147 (0, 0)) := ((hb0.out _).block r hl).trans h0
 obtain ⟨c0, c1, z0, z1⟩ := two_box hcell0
 have e0 := ((hb0.out (.cells #[.int .i64 0, .string ⟨#[]⟩] 70)).cell (p := ⟨b, o, none⟩) (by simp; omega)).trans g0
 have e1 := ((hb0.out (.cells #[.int .i64 0, .string ⟨#[]⟩] 70)).cell (p := ⟨b, o + 1, none⟩) (by simp; omega)).trans g1
 have hlen : ts.length + 1 ≤ 200000 := by simpa using h2
 have hcap : ts.length + 1 ≤ c := by simpa using h1
 have hsl := add_two b o
 have H0 := Hd h0
 have HL := Hd hl
 clear h0 h3 h1 h2 g0 g1
 by_cases hc1 : c = 1
 · subst hc1
   obtain rfl : ts = [] := List.length_eq_zero_iff.1 (by omega)
   go_enter Tryz.func119, Tryz.ntmps119
   go_wp2_with fail
   refine (HE _ (hb0.out _)).out.mono ?_
   rintro e w1 ⟨rfl, rfl⟩
   go_wp2_with fail
   refine pret_tok rfl rfl rfl (heap_at2 _ _ _ _ _) ?_
   obtain ⟨t1, t2⟩ := take_world (v := .slice (some ⟨b, o, none⟩) 0 0) (o := .cells #[.int .i64 tk, .string tx] 70) (o' := .cells #[.int .i64 tk, .string tx] 70) H0.out
   exact ⟨rfl, ⟨_, 0, t1, Nat.le_refl _, by simp, fun j u hu => by simp at hu⟩, t2⟩
 · obtain ⟨c', rfl⟩ : ∃ c', c = c' + 1 := ⟨c - 1, by omega⟩
   have hc' : 0 < c' := by omega
   go_enter Tryz.func119, Tryz.ntmps119
   go_wp2_with fail
   refine (HE _ (hb0.out _)).out.mono ?_
   rintro e w1 ⟨rfl, rfl⟩
   go_wp2_with fail
   refine pret_tok rfl rfl rfl (heap_at2 _ _ _ _ _) ?_
   obtain ⟨t1, t2⟩ := take_world (v := .slice (some ⟨b, o + 2, none⟩) ts.length c') (o := .cells #[.int .i64 tk, .string tx] 70) (o' := .cells #[.int .i64 tk, .string tx] 70) H0.out
   exact ⟨rfl, rd_after H3.out HL.out (by omega) (by omega) t2 t1, t2⟩
theorem at_tail {k : Int} {s : ByteArray} {ts : List Tok} (h : atB k s ts = true) : ∃ t, ts = t :: ts.tail := by
 cases ts with
 | nil => cases h
 | cons t ts => exact ⟨t, rfl⟩
def skipT (k : Int) (s : ByteArray) (ts : List Tok) : List Tok := if atB k s ts = true then ts.tail else ts
set_option maxRecDepth 100000 in
theorem skip_any (r : Nat) (ts : List Tok) (d : Nat) (k : Int) (s : ByteArray) (w : World) (h : Rd w r ts d) : Calls Tryz.prog 97 #[.pointer (some ⟨r, 0, none⟩), .int .i64 k, .string s] w fun e w' => e = .returned (.bool (atB k s ts)) ∧ Rd w' r (skipT k s ts) d ∧ Moved r w w' := by
 have HA := Hd (at_any r ts d k s w h)
 have H := Hd h
 clear h
 cases hb : atB k s ts with
 | false =>
   rw [hb] at HA
   have hs : Hid (skipT k s ts = ts) := Hd (by unfold skipT; rw [hb]; rfl)
   clear hb
   go_enter Tryz.func97, Tryz.ntmps97
   go_wp2_with fail
   refine HA.out.mono ?_
   rintro e w1 ⟨rfl, rfl⟩
   go_wp2_with fail
   go_ret
   exact ⟨rfl, by rw [hs.out]; exact H.out, Moved.refl _ _⟩
 | true =>
   rw [hb] at HA
   have hs : Hid (skipT k s ts = ts.tail) := Hd (by unfold skipT; rw [hb]; rfl)
   obtain ⟨t, ht⟩ := at_tail hb
   have HT := Hd (take_yes r t ts.tail d w (by rw [← ht]; exact H.out))
   clear hb ht
   go_enter Tryz.func97, Tryz.ntmps97
   go_wp2_with fail
   refine HA.out.mono ?_
   rintro e w1 ⟨rfl, rfl⟩
   go_wp2_with fail
   refine HT.out.mono ?_
   rintro e w2 ⟨rfl, h2, m2⟩
   have H2 := Hd (And.intro h2 m2)
   clear h2 m2
   go_wp2_with fail
   go_ret
   exact ⟨rfl, by rw [hs.out]; exact H2.out.1, H2.out.2⟩
set_option maxRecDepth 100000 in
theorem need_any (r : Nat) (ts : List Tok) (d : Nat) (k : Int) (s : ByteArray) (w : World) (h : Rd w r ts d) : Calls Tryz.prog 178 #[.pointer (some ⟨r, 0, none⟩), .int .i64 k, .string s] w fun e w' => if atB k s ts = true then e = .returned (.tuple #[]) ∧ Rd w' r ts.tail d ∧ Moved r w w' else e = PanicE 2 ∧ Moved r w w' := by
 have HA := Hd (skip_any r ts d k s w h)
 cases hb : atB k s ts with
 | false =>
   rw [hb] at HA
   simp only [Bool.false_eq_true, if_false]
   clear hb h
   go_enter Tryz.func178, Tryz.ntmps178
   go_wp2_with fail
   refine HA.out.mono ?_
   rintro e w1 ⟨rfl, h1, m1⟩
   have M1 := Hd m1
   clear h1 m1
   go_wp2_with fail
   exact ⟨rfl, rfl, M1.out⟩
 | true =>
   have hs : Hid (skipT k s ts = ts.tail) := Hd (by unfold skipT; rw [hb]; rfl)
   rw [hb] at HA
   simp only [if_true]
   clear hb h
   go_enter Tryz.func178, Tryz.ntmps178
   go_wp2_with fail
   refine HA.out.mono ?_
   rintro e w1 ⟨rfl, h1, m1⟩
   rw [hs.out] at h1
   have M1 := Hd (And.intro h1 m1)
   clear h1 m1
   go_wp2_with fail
   go_end0
   exact ⟨rfl, M1.out.1, M1.out.2⟩
def nameR : List Tok → Option (ByteArray × List Tok)
 | [] => none
 | t :: ts => if t.1 = 2 then some (t.2, ts) else none
set_option maxRecDepth 100000 in
theorem pname_any (r : Nat) (ts : List Tok) (d : Nat) (w : World) (h : Rd w r ts d) : Calls Tryz.prog 117 #[.pointer (some ⟨r, 0, none⟩)] w fun e w' => match nameR ts with
   | some (s, ts') => e = .returned (.string s) ∧ Rd w' r ts' d ∧ Moved r w w'
   | none => e = PanicE 2 ∧ Moved r w w' := by
 cases ts with
 | nil =>
   have HT := Hd (take_no r d w h)
   clear h
   show Calls _ _ _ _ fun e w' => e = PanicE 2 ∧ Moved r w w'
   go_enter Tryz.func117, Tryz.ntmps117
   go_wp2_with fail
   refine HT.out.mono ?_
   rintro e w1 ⟨rfl, m1⟩
   exact ⟨rfl, rfl, m1⟩
 | cons t ts =>
   obtain ⟨k, s⟩ := t
   have HT := Hd (take_yes r (k, s) ts d w h)
   clear h
   by_cases hk : k = 2
   · subst hk
     show Calls _ _ _ _ fun e w' => e = .returned (.string s) ∧ Rd w' r ts d ∧ Moved r w w'
     go_enter Tryz.func117, Tryz.ntmps117
     go_wp2_with fail
     refine HT.out.mono ?_
     rintro e w1 ⟨rfl, h1, m1⟩
     have H1 := Hd (And.intro h1 m1)
     clear h1 m1
     go_wp2_with fail
     go_ret
     exact ⟨rfl, H1.out.1.below ((Below.refl _ _).alloc (Nat.le_refl _) _), H1.out.2.trans (Moved.of_below ((Below.refl _ _).alloc (Nat.le_refl _) _))⟩
   · have hr : nameR ((k, s) :: ts) = none := by show (if k = 2 then some (s, ts) else none) = none; rw [if_neg hk]
     rw [hr]
     have hk' : (k != 2) = true := by simpa using hk
     clear hk hr
     go_enter Tryz.func117, Tryz.ntmps117
     go_wp2_with fail
     refine HT.out.mono ?_
     rintro e w1 ⟨rfl, h1, m1⟩
     have H1 := Hd (And.intro h1 m1)
     clear h1 m1
     go_wp2_with fail
     exact ⟨rfl, rfl, H1.out.2.trans (Moved.of_below ((Below.refl _ _).alloc (Nat.le_refl _) _))⟩
theorem Rd.deep {w : World} {r : Nat} {ts : List Tok} {d d' : Nat} (h : Rd w r ts d) {z : Int} (hz : z = (d' : Int)) : Rd (w.setCell ⟨r, 1, none⟩ (.int .i64 z)) r ts d' ∧ Moved r w (w.setCell ⟨r, 1, none⟩ (.int .i64 z)) := by
 subst hz
 have hl := h.lt
 obtain ⟨A, c, h0, h1, h2, h3⟩ := h
 exact ⟨⟨A, c, heap_setCell_same _ r 1 _ _ _ h0, h1, h2, h3.moved Moved.set hl⟩, Moved.set⟩
set_option maxRecDepth 100000 in
theorem leave_any (r : Nat) (ts : List Tok) (d : Nat) (w : World) (hd : d ≤ 1000) (h : Rd w r ts (d + 1)) : Calls Tryz.prog 173 #[.pointer (some ⟨r, 0, none⟩)] w fun e w' => e = .returned (.tuple #[]) ∧ Rd w' r ts d ∧ Moved r w w' := by
 have H := Hd h
 obtain ⟨A, c, h0, h1, h2, h3⟩ := h
 obtain ⟨c0, c1, z0, z1⟩ := two_box h0
 have hz : ((d + 1 : Nat) : Int) - 1 = (d : Int) := by omega
 obtain ⟨D, hD⟩ : ∃ D, d + 1 = D := ⟨_, rfl⟩
 rw [hD] at c1 hz
 have HE := Hd (H.out.deep (d' := d) rfl)
 have hDb : D ≤ 1001 := by omega
 clear h0 h3 hD H
 go_enter Tryz.func173, Tryz.ntmps173
 go_wp2_with fail
 go_end0
 exact ⟨rfl, HE.out.1, HE.out.2⟩
set_option maxRecDepth 100000 in
theorem enter_any (r : Nat) (ts : List Tok) (d : Nat) (s : ByteArray) (w : World) (hd : d ≤ 1000) (h : Rd w r ts d) : Calls Tryz.prog 170 #[.pointer (some ⟨r, 0, none⟩), .string s] w fun e w' =>
   if atB 1 s ts = true then (if d = 16 then e = PanicE 4 ∧ Moved r w w' else e = .returned (.tuple #[]) ∧ Rd w' r ts.tail (d + 1) ∧ Moved r w w') else e = PanicE 2 ∧ Moved r w w' := by
 have HA := Hd (at_any r ts d 1 s w h)
 have HN := Hd (need_any r ts d 1 s w h)
 have H := Hd h
 obtain ⟨A, c, h0, h1, h2, h3⟩ := h
 obtain ⟨c0, c1, z0, z1⟩ := two_box h0
 cases hb : atB 1 s ts with
 | false =>
   rw [hb] at HA HN
   simp only [Bool.false_eq_true, if_false] at HN ⊢
   clear hb h0 h3
   go_enter Tryz.func170, Tryz.ntmps170
   go_wp2_with fail
   refine HA.out.mono ?_
   rintro e w1 ⟨rfl, rfl⟩
   go_wp2_with fail
   refine HN.out.mono ?_
   rintro e w2 ⟨rfl, m2⟩
   exact ⟨rfl, rfl, m2⟩
 | true =>
   rw [hb] at HA HN
   simp only [if_true] at HN ⊢
   clear hb h0 h3
   by_cases h16 : d = 16
   · subst h16
     simp only [if_true]
     go_enter Tryz.func170, Tryz.ntmps170
     go_wp2_with fail
     refine HA.out.mono ?_
     rintro e w1 ⟨rfl, rfl⟩
     go_wp2_with fail
     exact ⟨rfl, rfl, Moved.refl _ _⟩
   · simp only [h16, if_false]
     have h16' : ((d : Int) == 16) = false := by simp; omega
     clear h16
     go_enter Tryz.func170, Tryz.ntmps170
     go_wp2_with fail
     refine HA.out.mono ?_
     rintro e w1 ⟨rfl, rfl⟩
     go_wp2_with fail
     refine HN.out.mono ?_
     rintro e w2 ⟨rfl, r2, m2⟩
     have HE := Hd (r2.deep (z := (d : Int) + 1) (d' := d + 1) (by omega))
     have M2 := Hd m2
     obtain ⟨A2, c2, g0, _, _, _⟩ := r2
     obtain ⟨y0, y1, x0, x1⟩ := two_box g0
     clear g0 m2 c0 c1 z0 z1
     go_wp2_with fail
     go_end0
     exact ⟨rfl, HE.out.1, M2.out.trans HE.out.2⟩
open Go.ChangeShapes Go.WideShapes Go.ChangeAt Go.RowKit
mutual
inductive VT where
 | mk (k n : Int) (s : ByteArray) (l : VL) (m : VM)
inductive VL where
 | nil
 | cons (v : VT) (t : VL)
inductive VM where
 | nil
 | cons (name : ByteArray) (v : VT) (t : VM)
end
def VL.len : VL → Nat
 | .nil => 0
 | .cons _ t => t.len + 1
def VM.len : VM → Nat
 | .nil => 0
 | .cons _ _ t => t.len + 1
def VL.get : VL → Nat → Option VT
 | .nil, _ => none
 | .cons v _, 0 => some v
 | .cons _ t, j + 1 => t.get j
def VM.get : VM → Nat → Option (ByteArray × VT)
 | .nil, _ => none
 | .cons nm v _, 0 => some (nm, v)
 | .cons _ _ t, j + 1 => t.get j
theorem VL.get_lt : ∀ {l : VL} {j : Nat}, j < l.len → ∃ v, l.get j = some v
 | .nil, _, h => by simp [VL.len] at h
 | .cons v _, 0, _ => ⟨v, rfl⟩
 | .cons _ t, j + 1, h => VL.get_lt (l := t) (by simp [VL.len] at h; omega)
theorem VM.get_lt : ∀ {l : VM} {j : Nat}, j < l.len → ∃ v, l.get j = some v
 | .nil, _, h => by simp [VM.len] at h
 | .cons nm v _, 0, _ => ⟨(nm, v), rfl⟩
 | .cons _ _ t, j + 1, h => VM.get_lt (l := t) (by simp [VM.len] at h; omega)
def Five (w : World) (b o : Nat) (c0 c1 c2 c3 c4 : Value) : Prop := w.cell? ⟨b, o, none⟩ = some c0 ∧ w.cell? ⟨b, o + 1, none⟩ = some c1 ∧ w.cell? ⟨b, o + 2, none⟩ = some c2 ∧ w.cell? ⟨b, o + 3, none⟩ = some c3 ∧ w.cell? ⟨b, o + 4, none⟩ = some c4
theorem Five.below {w w' : World} {B b o : Nat} {c0 c1 c2 c3 c4 : Value} (h : Five w b o c0 c1 c2 c3 c4) (hb : Below B w w') (hlt : b < B) : Five w' b o c0 c1 c2 c3 c4 :=
 ⟨(hb.cell (p := ⟨b, _, none⟩) hlt).trans h.1, (hb.cell (p := ⟨b, _, none⟩) hlt).trans h.2.1, (hb.cell (p := ⟨b, _, none⟩) hlt).trans h.2.2.1, (hb.cell (p := ⟨b, _, none⟩) hlt).trans h.2.2.2.1, (hb.cell (p := ⟨b, _, none⟩) hlt).trans h.2.2.2.2⟩
mutual
def VAt (w : World) (B : Nat) : VT → Value → Value → Value → Value → Value → Prop
 | .mk k n s l m, c0, c1, c2, c3, c4 => c0 = .int .i64 k ∧ c1 = .int .i64 n ∧ c2 = .string s ∧ s.size ≤ 9223372036854775807 ∧ (∃ A c, c3 = .slice A l.len c ∧ l.len ≤ 9223372036854775807 ∧ LAt w B l A 0) ∧ ∃ A c, c4 = .slice A m.len c ∧ m.len ≤ 9223372036854775807 ∧ MAt w B m A 0
def LAt (w : World) (B : Nat) : VL → Option Addr → Nat → Prop
 | .nil, _, _ => True
 | .cons v t, A, j => (∃ b o c0 c1 c2 c3 c4, A = some ⟨b, o, none⟩ ∧ b < B ∧ Five w b (o + j * 5) c0 c1 c2 c3 c4 ∧ VAt w B v c0 c1 c2 c3 c4) ∧ LAt w B t A (j + 1)
def MAt (w : World) (B : Nat) : VM → Option Addr → Nat → Prop
 | .nil, _, _ => True
 | .cons nm v t, A, j => (∃ b o c0 c1 c2 c3 c4, A = some ⟨b, o, none⟩ ∧ b < B ∧ w.cell? ⟨b, o + j * 6, none⟩ = some (.string nm) ∧ nm.size ≤ 9223372036854775807 ∧ Five w b (o + j * 6 + 1) c0 c1 c2 c3 c4 ∧ VAt w B v c0 c1 c2 c3 c4) ∧ MAt w B t A (j + 1)
end
mutual
theorem VAt.below {w w' : World} {B : Nat} (hb : Below B w w') : ∀ (v : VT) (c0 c1 c2 c3 c4 : Value), VAt w B v c0 c1 c2 c3 c4 → VAt w' B v c0 c1 c2 c3 c4
 | .mk k n s l m, c0, c1, c2, c3, c4, h => by
   unfold VAt at h ⊢
   obtain ⟨h0, h1, h2, hs, ⟨A, c, h3, g3, h4⟩, A', c', h5, g5, h6⟩ := h
   exact ⟨h0, h1, h2, hs, ⟨A, c, h3, g3, LAt.below hb l A 0 h4⟩, A', c', h5, g5, MAt.below hb m A' 0 h6⟩
theorem LAt.below {w w' : World} {B : Nat} (hb : Below B w w') : ∀ (l : VL) (A : Option Addr) (j : Nat), LAt w B l A j → LAt w' B l A j
 | .nil, _, _, _ => by unfold LAt; trivial
 | .cons v t, A, j, h => by
   unfold LAt at h ⊢
   obtain ⟨⟨b, o, c0, c1, c2, c3, c4, hA, hlt, hf, hv⟩, ht⟩ := h
   exact ⟨⟨b, o, c0, c1, c2, c3, c4, hA, hlt, hf.below hb hlt, VAt.below hb v _ _ _ _ _ hv⟩, LAt.below hb t A (j + 1) ht⟩
theorem MAt.below {w w' : World} {B : Nat} (hb : Below B w w') : ∀ (l : VM) (A : Option Addr) (j : Nat), MAt w B l A j → MAt w' B l A j
 | .nil, _, _, _ => by unfold MAt; trivial
 | .cons nm v t, A, j, h => by
   unfold MAt at h ⊢
   obtain ⟨⟨b, o, c0, c1, c2, c3, c4, hA, hlt, hn, hz, hf, hv⟩, ht⟩ := h
   exact ⟨⟨b, o, c0, c1, c2, c3, c4, hA, hlt, (hb.cell (p := ⟨b, _, none⟩) hlt).trans hn, hz, hf.below hb hlt, VAt.below hb v _ _ _ _ _ hv⟩, MAt.below hb t A (j + 1) ht⟩
end
theorem LAt.at {w : World} {B : Nat} : ∀ {l : VL} {A : Option Addr} {i j : Nat} {v : VT}, LAt w B l A i → l.get j = some v → ∃ b o c0 c1 c2 c3 c4, A = some ⟨b, o, none⟩ ∧ b < B ∧ Five w b (o + (i + j) * 5) c0 c1 c2 c3 c4 ∧ VAt w B v c0 c1 c2 c3 c4
 | .nil, _, _, _, _, _, h => by simp [VL.get] at h
 | .cons u t, A, i, 0, v, h, hg => by
   unfold LAt at h
   have : u = v := by simpa [VL.get] using hg
   subst this
   exact h.1
 | .cons u t, A, i, j + 1, v, h, hg => by
   unfold LAt at h
   have := LAt.at h.2 (j := j) (v := v) hg
   rwa [show i + 1 + j = i + (j + 1) by omega] at this
theorem MAt.at {w : World} {B : Nat} : ∀ {l : VM} {A : Option Addr} {i j : Nat} {nm : ByteArray} {v : VT}, MAt w B l A i → l.get j = some (nm, v) → ∃ b o c0 c1 c2 c3 c4, A = some ⟨b, o, none⟩ ∧ b < B ∧ w.cell? ⟨b, o + (i + j) * 6, none⟩ = some (.string nm) ∧ nm.size ≤ 9223372036854775807 ∧ Five w b (o + (i + j) * 6 + 1) c0 c1 c2 c3 c4 ∧ VAt w B v c0 c1 c2 c3 c4
 | .nil, _, _, _, _, _, _, h => by simp [VM.get] at h
 | .cons u x t, A, i, 0, nm, v, h, hg => by
   unfold MAt at h
   have : u = nm ∧ x = v := by simpa [VM.get] using hg
   obtain ⟨rfl, rfl⟩ := this
   exact h.1
 | .cons u x t, A, i, j + 1, nm, v, h, hg => by
   unfold MAt at h
   have := MAt.at h.2 (j := j) (nm := nm) (v := v) hg
   rwa [show i + 1 + j = i + (j + 1) by omega] at this
theorem cellsV : Tryz.prog.cellsOf 35 = 5 := by kernel_rfl
theorem cellsM : Tryz.prog.cellsOf 98 = 6 := by kernel_rfl
theorem cellsI : Tryz.prog.cellsOf 3 = 1 := by kernel_rfl
theorem cellsI64 : Tryz.prog.cellsOf 2 = 1 := by kernel_rfl
theorem cellsS : Tryz.prog.cellsOf 9 = 1 := by kernel_rfl
theorem cellsLV : Tryz.prog.cellsOf 32 = 1 := by kernel_rfl
theorem cellsLM : Tryz.prog.cellsOf 33 = 1 := by kernel_rfl
theorem five_list {cs : List Value} (h : cs.length = 5) : ∃ c0 c1 c2 c3 c4, cs = [c0, c1, c2, c3, c4] := by
 match cs, h with
 | [a, b, c, d, e], _ => exact ⟨a, b, c, d, e, rfl⟩
theorem six_list {cs : List Value} (h : cs.length = 6) : ∃ c0 c1 c2 c3 c4 c5, cs = [c0, c1, c2, c3, c4, c5] := by
 match cs, h with
 | [a, b, c, d, e, f], _ => exact ⟨a, b, c, d, e, f, rfl⟩
theorem add_at {b o i : Nat} : (⟨b, o, none⟩ : Addr).add i = ⟨b, o + i, none⟩ := by unfold Addr.add; split <;> simp_all
mutual
def sizeV : VT → Nat
 | .mk _ _ s l m => 1 + s.size + sizeL l + sizeM m
def sizeL : VL → Nat
 | .nil => 0
 | .cons v t => sizeV v + sizeL t
def sizeM : VM → Nat
 | .nil => 0
 | .cons nm v t => nm.size + sizeV v + sizeM t
end
def preL : VL → Nat → Nat
 | .nil, _ => 0
 | .cons _ _, 0 => 0
 | .cons v t, j + 1 => sizeV v + preL t j
def preM : VM → Nat → Nat
 | .nil, _ => 0
 | .cons _ _ _, 0 => 0
 | .cons nm v t, j + 1 => nm.size + sizeV v + preM t j
theorem preL_zero (l : VL) : preL l 0 = 0 := by cases l <;> rfl
theorem preM_zero (l : VM) : preM l 0 = 0 := by cases l <;> rfl
theorem preL_next : ∀ {l : VL} {j : Nat} {v : VT}, l.get j = some v → preL l (j + 1) = preL l j + sizeV v
 | .nil, _, _, h => by simp [VL.get] at h
 | .cons u t, 0, v, h => by
   have : u = v := by simpa [VL.get] using h
   subst this
   show sizeV u + preL t 0 = 0 + sizeV u
   rw [preL_zero]; omega
 | .cons u t, j + 1, v, h => by
   have := preL_next (l := t) (j := j) (v := v) h
   rw [preL, this, preL]; omega
theorem preM_next : ∀ {l : VM} {j : Nat} {nm : ByteArray} {v : VT}, l.get j = some (nm, v) → preM l (j + 1) = preM l j + nm.size + sizeV v
 | .nil, _, _, _, h => by simp [VM.get] at h
 | .cons x u t, 0, nm, v, h => by
   have : x = nm ∧ u = v := by simpa [VM.get] using h
   obtain ⟨rfl, rfl⟩ := this
   show x.size + sizeV u + preM t 0 = 0 + x.size + sizeV u
   rw [preM_zero]; omega
 | .cons x u t, j + 1, nm, v, h => by
   have := preM_next (l := t) (j := j) (nm := nm) (v := v) h
   rw [preM, this, preM]; omega
theorem preL_all : ∀ l : VL, preL l l.len = sizeL l
 | .nil => rfl
 | .cons v t => by rw [VL.len, preL, preL_all t, sizeL]
theorem preM_all : ∀ l : VM, preM l l.len = sizeM l
 | .nil => rfl
 | .cons nm v t => by rw [VM.len, preM, preM_all t, sizeM]
theorem sizeL_get : ∀ {l : VL} {j : Nat} {v : VT}, l.get j = some v → sizeV v ≤ sizeL l
 | .nil, _, _, h => by simp [VL.get] at h
 | .cons u t, 0, v, h => by
   have : u = v := by simpa [VL.get] using h
   subst this
   rw [sizeL]; omega
 | .cons u t, j + 1, v, h => by
   have := sizeL_get (l := t) (j := j) (v := v) h
   rw [sizeL]; omega
theorem sizeM_get : ∀ {l : VM} {j : Nat} {nm : ByteArray} {v : VT}, l.get j = some (nm, v) → nm.size + sizeV v ≤ sizeM l
 | .nil, _, _, _, h => by simp [VM.get] at h
 | .cons x u t, 0, nm, v, h => by
   have : x = nm ∧ u = v := by simpa [VM.get] using h
   obtain ⟨rfl, rfl⟩ := this
   rw [sizeM]; omega
 | .cons x u t, j + 1, nm, v, h => by
   have := sizeM_get (l := t) (j := j) (nm := nm) (v := v) h
   rw [sizeM]; omega
def W64 (n : Nat) : Int := IntKind.i64.wrap (n : Int)
theorem W64_add (a b : Nat) : IntKind.i64.wrap (W64 a + W64 b) = W64 (a + b) := by
 unfold W64
 simp only [IntKind.wrap_i64]
 omega
theorem W64_plus (a b : Nat) : IntKind.i64.wrap (W64 a + (b : Int)) = W64 (a + b) := by
 unfold W64
 simp only [IntKind.wrap_i64]
 omega
theorem W64_one (b : Nat) : IntKind.i64.wrap (1 + (b : Int)) = W64 (1 + b) := by
 unfold W64
 simp only [IntKind.wrap_i64]
 omega
def KV (w : World) (c2 c3 c4 : Value) (w' : World) : Prop := w'.cell? ⟨w.heap.size, 2, none⟩ = some c2 ∧ w'.cell? ⟨w.heap.size, 3, none⟩ = some c3 ∧ w'.cell? ⟨w.heap.size, 4, none⟩ = some c4 ∧ Below w.heap.size w w' ∧ w.heap.size < w'.heap.size
theorem KV.next {w W W' : World} {c2 c3 c4 : Value} (h : KV w c2 c3 c4 W) (hb : Below W.heap.size W W') : KV w c2 c3 c4 W' := by
 obtain ⟨h2, h3, h4, hB, hs⟩ := h
 exact ⟨(hb.cell (p := ⟨_, _, none⟩) hs).trans h2, (hb.cell (p := ⟨_, _, none⟩) hs).trans h3, (hb.cell (p := ⟨_, _, none⟩) hs).trans h4, hB.trans (hb.mono hB.size), Nat.lt_of_lt_of_le hs hb.size⟩
theorem KV.start (w : World) (c0 c1 c2 c3 c4 : Value) (t : TypeId) : KV w c2 c3 c4 (w.alloc (.cells #[c0, c1, c2, c3, c4] t)) := by
 refine ⟨?_, ?_, ?_, (Below.refl _ _).alloc (Nat.le_refl _) _, by simp⟩ <;> (simp only [World.cell?]; rw [show (w.alloc (.cells #[c0, c1, c2, c3, c4] t)).heap[w.heap.size]? = some (.cells #[c0, c1, c2, c3, c4] t) by show (w.heap.push _)[w.heap.size]? = _; simp]; rfl)
def KM (w : World) (c2 c3 c4 : Value) (b O : Nat) (nm d0 d1 d2 d3 d4 : Value) (w' : World) : Prop := w'.cell? ⟨w.heap.size, 4, none⟩ = some c4 ∧ w'.cell? ⟨b, O, none⟩ = some nm ∧ Five w' b (O + 1) d0 d1 d2 d3 d4 ∧ KV w c2 c3 c4 w'
theorem KM.next {w W W' : World} {c2 c3 c4 : Value} {b O : Nat} {nm d0 d1 d2 d3 d4 : Value} (h : KM w c2 c3 c4 b O nm d0 d1 d2 d3 d4 W) (hbw : b < w.heap.size) (hb : Below W.heap.size W W') : KM w c2 c3 c4 b O nm d0 d1 d2 d3 d4 W' := by
 obtain ⟨h4, hn, hF, hK⟩ := h
 have hl : b < W.heap.size := Nat.lt_trans hbw hK.2.2.2.2
 have hK' := hK.next hb
 exact ⟨hK'.2.2.1, (hb.cell (p := ⟨b, _, none⟩) hl).trans hn, hF.below hb hl, hK'⟩
theorem KM.below {w W : World} {c2 c3 c4 : Value} {b O : Nat} {nm d0 d1 d2 d3 d4 : Value} (h : KM w c2 c3 c4 b O nm d0 d1 d2 d3 d4 W) : Below w.heap.size w W := h.2.2.2.2.2.2.1
theorem KM.written {w W : World} {c2 c3 c4 : Value} {b O : Nat} {nm d0 d1 d2 d3 d4 : Value} (h : KM w c2 c3 c4 b O nm d0 d1 d2 d3 d4 W) : W.cell? ⟨w.heap.size, 4, none⟩ = some c4 ∧ W.cell? ⟨b, O, none⟩ = some nm ∧ W.cell? ⟨b, O + 1, none⟩ = some d0 ∧ W.cell? ⟨b, O + 1 + 1, none⟩ = some d1 ∧ W.cell? ⟨b, O + 1 + 2, none⟩ = some d2 ∧ W.cell? ⟨b, O + 1 + 3, none⟩ = some d3 ∧ W.cell? ⟨b, O + 1 + 4, none⟩ = some d4 ∧ KM w c2 c3 c4 b O nm d0 d1 d2 d3 d4 W :=
 ⟨h.1, h.2.1, h.2.2.1.1, h.2.2.1.2.1, h.2.2.1.2.2.1, h.2.2.1.2.2.2.1, h.2.2.1.2.2.2.2, h⟩
theorem vret {a b : Nat} (h : b = a) : Ending.returned (.int .i64 (W64 a)) = .returned (.int .i64 (W64 b)) := by rw [h]
theorem W64_two (a b c : Nat) : IntKind.i64.wrap (IntKind.i64.wrap (W64 a + (b : Int)) + W64 c) = W64 (a + b + c) := by
 rw [W64_plus, W64_add]
set_option maxRecDepth 100000 in
set_option maxHeartbeats 4000000 in
theorem vsize_any : ∀ (N : Nat) (v : VT), sizeV v ≤ N → ∀ (c0 c1 c2 c3 c4 : Value) (w : World) (B : Nat), B ≤ w.heap.size → VAt w B v c0 c1 c2 c3 c4 →
   Calls Tryz.prog 23 #[.agg #[c0, c1, c2, c3, c4]] w fun e w' => e = .returned (.int .i64 (W64 (sizeV v))) ∧ Below w.heap.size w w' := by
 intro N
 induction N with
 | zero => intro v h; cases v; rw [sizeV] at h; omega
 | succ N ih =>
   intro v hN c0 c1 c2 c3 c4 w B hB hv
   obtain ⟨k, n, s, l, m⟩ := v
   have hsz : sizeV (.mk k n s l m) = 1 + s.size + sizeL l + sizeM m := by rw [sizeV]
   rw [hsz] at hN ⊢
   unfold VAt at hv
   obtain ⟨rfl, rfl, rfl, hs, ⟨A, c, rfl, hl, hL⟩, A', c', rfl, hm, hM⟩ := hv
   have HL := Hd hL
   have HM := Hd hM
   have IH := Hd ih
   have hw1 := W64_one s.size
   have HB0 := Hd hB
   clear hL hM ih hsz hB
   go_enter Tryz.func23, Tryz.ntmps23
   go_wp2_with fail
   go_loopg [3, 4] l.len (fun g out i wx => ∃ q : Nat, q + g = l.len ∧ i = .int .i64 q ∧ out = .int .i64 (W64 (1 + s.size + preL l q)) ∧ KV w (.string s) (.slice A l.len c) (.slice A' m.len c') wx)
   case atStart => exact ⟨0, by omega, rfl, by rw [preL_zero, Nat.add_zero], KV.start _ _ _ _ _ _ _⟩
   case round =>
    obtain ⟨q, hq, rfl, rfl, hK⟩ := hrel
    have K := Hd hK
    obtain ⟨h2, h3, h4, hb, hlt0⟩ := hK
    have HBB := Hd hb
    clear hb hw1
    cases gk with
    | zero =>
      obtain rfl : q = l.len := by omega
      rw [preL_all]
      obtain ⟨T, hT⟩ : ∃ T : Nat, 1 + s.size + sizeL l = T := ⟨_, rfl⟩
      rw [hT] at hN ⊢
      have hT1 : 1 ≤ T := by omega
      have HT := Hd hT
      clear hT hlt0
      go_wp2_with fail
      clear h2 h3 h4
      go_loopg [3, 5] m.len (fun g out i wx => ∃ q : Nat, q + g = m.len ∧ i = .int .i64 q ∧ out = .int .i64 (W64 (T + preM m q)) ∧ KV w (.string s) (.slice A l.len c) (.slice A' m.len c') wx)
      case atStart => exact ⟨0, by omega, rfl, by rw [preM_zero, Nat.add_zero], K.out⟩
      case round =>
       obtain ⟨q, hq, rfl, rfl, hK⟩ := hrel
       have K' := Hd hK
       obtain ⟨h2, h3, h4, hb, hlt0⟩ := hK
       have HBC := Hd hb
       clear hb h2 h3
       cases gk with
       | zero =>
         obtain rfl : q = m.len := by omega
         rw [preM_all]
         go_wp2_with fail
         go_ret
         exact ⟨vret (by rw [HT.out]), HBC.out⟩
       | succ g =>
         have hqn : q < m.len := by omega
         have hqn' : (q : Int) < (m.len : Int) := by omega
         obtain ⟨⟨nm, v⟩, hv⟩ := VM.get_lt hqn
         have hvN := sizeM_get hv
         obtain ⟨b, o, d0, d1, d2, d3, d4, rfl, hblt, hnm, hns, hF, hV⟩ := MAt.at HM.out hv
         rw [Nat.zero_add] at hF hnm
         have hbw : b < w.heap.size := Nat.lt_of_lt_of_le hblt HB0.out
         have hE : KM w (.string s) (.slice A l.len c) (.slice (some ⟨b, o, none⟩) m.len c') b (o + q * 6) (.string nm) d0 d1 d2 d3 d4 wr := ⟨h4, (HBC.out.cell (p := ⟨b, _, none⟩) hbw).trans hnm, hF.below HBC.out hbw, K'.out⟩
         have hE2 := hE
         obtain ⟨f4, f5, ⟨f6, f7, f8, f9, f10⟩, _⟩ := hE2
         have HBW := Hd hbw
         have C := fun (wx : World) (hx : Below w.heap.size w wx) => Hd (IH.out v (by omega) d0 d1 d2 d3 d4 wx B (Nat.le_trans HB0.out hx.size) (VAt.below (hx.mono HB0.out) _ _ _ _ _ _ hV))
         have hs2 := W64_two (T + preM m q) nm.size (sizeV v)
         have hs1 := W64_plus (T + preM m q) nm.size
         have hs0 := W64_add (T + preM m q + nm.size) (sizeV v)
         have hnx := Hd (preM_next hv)
         clear hV hvN hv hbw hF hnm hblt h4
         go_wp2_with fail
         go_region_held3 (fun w' => w'.cell? ⟨w.heap.size, 4, none⟩ = some (.slice (some ⟨b, o, none⟩) m.len c') ∧ w'.cell? ⟨b, o + q * 6, none⟩ = some (.string nm) ∧ w'.cell? ⟨b, o + q * 6 + 1, none⟩ = some d0 ∧ w'.cell? ⟨b, o + q * 6 + 1 + 1, none⟩ = some d1 ∧ w'.cell? ⟨b, o + q * 6 + 1 + 2, none⟩ = some d2 ∧ w'.cell? ⟨b, o + q * 6 + 1 + 3, none⟩ = some d3 ∧ w'.cell? ⟨b, o + q * 6 + 1 + 4, none⟩ = some d4 ∧ KM w (.string s) (.slice A l.len c) (.slice (some ⟨b, o, none⟩) m.len c') b (o + q * 6) (.string nm) d0 d1 d2 d3 d4 w')
          (first
           | exact KM.written (hE.next HBW.out (Below.drew (Below.refl _ _)))
           | exact KM.written ((hE.next HBW.out (Below.drew (Below.refl _ _))).next HBW.out (by assumption))
           | exact KM.written (hE.next HBW.out (by assumption))
           | exact KM.written (KM.next (by assumption) HBW.out (by assumption))
           | go_keep)
          ((first | (go_at_call 23; refine (C _ (by first | exact Below.drew (KM.below hE) | exact KM.below (by assumption))).out.mono ?_; rintro e w' ⟨rfl, hb⟩)))
         all_goals
          have HKM : KM w (.string s) (.slice A l.len c) (.slice (some ⟨b, o, none⟩) m.len c') b (o + q * 6) (.string nm) d0 d1 d2 d3 d4 w' := And.right (And.right (And.right (And.right (And.right (And.right (And.right (by assumption)))))))
          have HKB := Hd HKM.2.2.2
          clear HKM hE C hs2 hs1 hs0 f4 f5 f6 f7 f8 f9 f10
          go_wp2_with fail
          go_roundg g
          case measure => omega
          case rel => exact ⟨q + 1, by omega, by go_num, by rw [hnx.out, ← Nat.add_assoc, ← Nat.add_assoc], HKB.out⟩
    | succ g =>
      have hqn : q < l.len := by omega
      have hqn' : (q : Int) < (l.len : Int) := by omega
      obtain ⟨v, hv⟩ := VL.get_lt hqn
      have hvN := sizeL_get hv
      obtain ⟨b, o, d0, d1, d2, d3, d4, rfl, hblt, hF, hV⟩ := LAt.at (LAt.below (HBB.out.mono HB0.out) _ _ _ HL.out) hv
      rw [Nat.zero_add] at hF
      obtain ⟨g0, g1, g2, g3, g4⟩ := hF
      have C := Hd (IH.out v (by omega) d0 d1 d2 d3 d4 wr B (Nat.le_trans HB0.out HBB.out.size) hV)
      have hsum := W64_add (1 + s.size + preL l q) (sizeV v)
      have hnx := Hd (preL_next hv)
      clear hV hvN hv
      go_wp2_with fail
      refine C.out.mono ?_
      rintro e w2 ⟨rfl, hb2⟩
      have K2 := Hd (K.out.next hb2)
      clear hb2 h2 h3 h4 g0 g1 g2 g3 g4
      go_wp2_with fail
      go_roundg g
      case measure => omega
      case rel => exact ⟨q + 1, by omega, by go_num, by rw [hnx.out, ← Nat.add_assoc], K2.out⟩
theorem vaside {p : Prop} (h : p) : Aside p := h
theorem VL.ext : ∀ {l l' : VL}, l.len = l'.len → (∀ j, j < l.len → l.get j = l'.get j) → l = l'
 | .nil, .nil, _, _ => rfl
 | .nil, .cons _ _, h, _ => by simp [VL.len] at h
 | .cons _ _, .nil, h, _ => by simp [VL.len] at h
 | .cons u t, .cons u' t', h, hg => by
   have h0 : u = u' := by simpa [VL.get] using hg 0 (by rw [VL.len]; omega)
   have ht : t = t' := VL.ext (by simp only [VL.len] at h; omega) (fun j hj => by simpa [VL.get] using hg (j + 1) (by rw [VL.len]; omega))
   rw [h0, ht]
theorem VM.ext : ∀ {l l' : VM}, l.len = l'.len → (∀ j, j < l.len → l.get j = l'.get j) → l = l'
 | .nil, .nil, _, _ => rfl
 | .nil, .cons _ _ _, h, _ => by simp [VM.len] at h
 | .cons _ _ _, .nil, h, _ => by simp [VM.len] at h
 | .cons x u t, .cons x' u' t', h, hg => by
   have h0 : x = x' ∧ u = u' := by simpa [VM.get] using hg 0 (by rw [VM.len]; omega)
   have ht : t = t' := VM.ext (by simp only [VM.len] at h; omega) (fun j hj => by simpa [VM.get] using hg (j + 1) (by rw [VM.len]; omega))
   rw [h0.1, h0.2, ht]
def AgreeL (l l' : VL) (q : Nat) : Prop := ∀ j, j < q → l.get j = l'.get j
def AgreeM (l l' : VM) (q : Nat) : Prop := ∀ j, j < q → l.get j = l'.get j
theorem AgreeL.next {l l' : VL} {q : Nat} {v : VT} (h : AgreeL l l' q) (h1 : l.get q = some v) (h2 : l'.get q = some v) : AgreeL l l' (q + 1) := fun j hj => by
 rcases Nat.lt_or_ge j q with h' | h'
 · exact h j h'
 · obtain rfl : j = q := by omega
   rw [h1, h2]
theorem AgreeM.next {l l' : VM} {q : Nat} {v : ByteArray × VT} (h : AgreeM l l' q) (h1 : l.get q = some v) (h2 : l'.get q = some v) : AgreeM l l' (q + 1) := fun j hj => by
 rcases Nat.lt_or_ge j q with h' | h'
 · exact h j h'
 · obtain rfl : j = q := by omega
   rw [h1, h2]
def VT.zero : VT := .mk 0 0 ⟨#[]⟩ .nil .nil
def VM.drop : VM → Nat → VM
 | m, 0 => m
 | .nil, _ + 1 => .nil
 | .cons _ _ t, j + 1 => t.drop j
theorem ret_v1 {R : Ending → World → Prop} {fn : Func} {a : Act} {W : World} {c0 c1 c2 c3 c4 : Value} {p b : Nat} (hf : fn.results = #[.cell p 35]) (h2 : a.tmps.getD p undef = .pointer (some ⟨b, 0, none⟩)) (hd : a.defers = [])
  (hc : W.heap[b]? = some (.cells #[c0, c1, c2, c3, c4] 35 (0, 0))) (hR : R (.returned (.agg #[c0, c1, c2, c3, c4])) W) : bodyPost Tryz.prog fn R .ret a W := by
 have hl : (loadVar 35 ⟨b, 0, none⟩).run Tryz.prog W = .ok (.agg #[c0, c1, c2, c3, c4]) W :=
  run_loadVar_row W b 35 35 #[c0, c1, c2, c3, c4] (0, 0) _ hc Tryz.underlying35 rfl (by kernel_rfl)
 refine bodyPost_ret ?_ hd hR
 have h2' : a.tmps[p]?.getD undef = .pointer (some ⟨b, 0, none⟩) := by rw [← h2]; simp
 simp [results, hf, h2', asAddr, hl]
theorem pint_any (z : Int) (w : World) :
  Calls Tryz.prog 190 #[.int .i64 z] w fun e w' => e = .returned (.agg #[.int .i64 2, .int .i64 z, .string ⟨#[]⟩, .slice none 0 0, .slice none 0 0]) ∧ Below w.heap.size w w' := by
 go_enter Tryz.func190, Tryz.ntmps190
 go_wp2_with fail
 exact ret_v1 rfl rfl rfl (heap_alloc_new _ _) ⟨rfl, (Below.refl _ _).alloc (Nat.le_refl _) _⟩
theorem ptext_any (s : ByteArray) (w : World) :
  Calls Tryz.prog 191 #[.string s] w fun e w' => e = .returned (.agg #[.int .i64 4, .int .i64 0, .string s, .slice none 0 0, .slice none 0 0]) ∧ Below w.heap.size w w' := by
 go_enter Tryz.func191, Tryz.ntmps191
 go_wp2_with fail
 exact ret_v1 rfl rfl rfl (heap_alloc_new _ _) ⟨rfl, (Below.refl _ _).alloc (Nat.le_refl _) _⟩
theorem five_set {w : World} {b : Nat} {z0 z1 z2 z3 z4 v0 v1 v2 v3 v4 : Value} {t : TypeId} (h : w.heap[b]? = some (.cells #[z0, z1, z2, z3, z4] t (0, 0))) : (((((w.setCell ⟨b, 0, none⟩ v0).setCell ⟨b, 1, none⟩ v1).setCell ⟨b, 2, none⟩ v2).setCell ⟨b, 3, none⟩ v3).setCell ⟨b, 4, none⟩ v4).heap[b]? = some (.cells #[v0, v1, v2, v3, v4] t (0, 0)) :=
 heap_setCell_same _ b 4 _ _ _ (heap_setCell_same _ b 3 _ _ _ (heap_setCell_same _ b 2 _ _ _ (heap_setCell_same _ b 1 _ _ _ (heap_setCell_same _ b 0 _ _ _ h))))
theorem gvc {w : World} {b : Nat} {z0 z1 z2 z3 z4 : Value} {t : TypeId} (h : w.heap[b]? = some (.cells #[z0, z1, z2, z3, z4] t (0, 0))) : w.cell? ⟨b, 0, none⟩ = some z0 ∧ w.cell? ⟨b, 1, none⟩ = some z1 ∧ w.cell? ⟨b, 2, none⟩ = some z2 ∧ w.cell? ⟨b, 3, none⟩ = some z3 ∧ w.cell? ⟨b, 4, none⟩ = some z4 ∧ ∀ i, w.frozen? ⟨b, i, none⟩ = false := by
 refine ⟨?_, ?_, ?_, ?_, ?_, fun i => ?_⟩
 all_goals first | (simp only [World.cell?, h]; rfl) | simp [World.frozen?, h]
def byt (l : List UInt8) (k : Nat) : Int := ((l.getD k 0).toNat : Int)
def contB (b : Int) : Bool := decide (128 ≤ b ∧ b ≤ 191)
def lead : Nat → Int | 0 => 0 | 1 => 192 | 2 => 224 | _ => 240
def mask : Nat → Int | 0 => 128 | 1 => 224 | 2 => 240 | _ => 248
def least : Nat → Int | 0 => 0 | 1 => 128 | 2 => 2048 | _ => 65536
def wide : Nat → Int | 0 => 128 | 1 => 32 | 2 => 16 | _ => 8
def acc (l : List UInt8) (c : Int) : Nat → Int
 | 0 => c
 | 1 => c
 | k + 2 => acc l c (k + 1) * 64 + (byt l (k + 1) - 128)
def contTo (l : List UInt8) : Nat → Bool
 | 0 => true
 | 1 => true
 | k + 2 => contTo l (k + 1) && contB (byt l (k + 1))
def leads (k : Nat) (a : Int) : Prop := lead k ≤ a ∧ a < lead k + wide k
instance (k : Nat) (a : Int) : Decidable (leads k a) := by unfold leads; infer_instance
def fair (k : Nat) (c : Int) : Prop := least k ≤ c ∧ c ≤ 1114111 ∧ halfB c = false
instance (k : Nat) (c : Int) : Decidable (fair k c) := by unfold fair; infer_instance
def decK (k : Nat) (l : List UInt8) : Option (Int × Int) :=
 if k < l.length ∧ leads k (byt l 0) ∧ contTo l (k + 1) = true ∧ fair k (acc l (byt l 0 - lead k) (k + 1)) then some (acc l (byt l 0 - lead k) (k + 1), (k : Int) + 1) else none
def dec (l : List UInt8) : Int × Int :=
 match decK 0 l with
 | some p => p
 | none => match decK 1 l with
   | some p => p
   | none => match decK 2 l with
     | some p => p
     | none => match decK 3 l with
       | some p => p
       | none => (0, 0)
def noneTo (l : List UInt8) (k : Nat) : Prop := ∀ j, j < k → decK j l = none
theorem noneTo_succ {l : List UInt8} {k : Nat} (h : noneTo l k) (hk : decK k l = none) : noneTo l (k + 1) := fun j hj => by
 rcases Nat.lt_or_ge j k with h' | h'
 · exact h j h'
 · obtain rfl : j = k := by omega
   exact hk
theorem dec_none {l : List UInt8} (h : noneTo l 4) : dec l = (0, 0) := by
 simp [dec, h 0 (by omega), h 1 (by omega), h 2 (by omega), h 3 (by omega)]
theorem dec_some {l : List UInt8} {k : Nat} {p : Int × Int} (hk : k < 4) (h : noneTo l k) (hp : decK k l = some p) : dec l = p := by
 match k, hk with
 | 0, _ => simp [dec, hp]
 | 1, _ => simp [dec, h 0 (by omega), hp]
 | 2, _ => simp [dec, h 0 (by omega), h 1 (by omega), hp]
 | 3, _ => simp [dec, h 0 (by omega), h 1 (by omega), h 2 (by omega), hp]
theorem byt_lt (l : List UInt8) (k : Nat) : 0 ≤ byt l k ∧ byt l k < 256 := by
 have := (l.getD k 0).toNat_lt
 unfold byt; omega
theorem byt_drop (s : ByteArray) (i k : Nat) (h : i + k < s.size) : (s[i + k].toNat : Int) = byt (s.data.toList.drop i) k := by
 unfold byt
 have hl : s.data.toList.length = s.size := Array.length_toList
 rw [List.getD_eq_getElem?_getD, List.getElem?_drop, List.getElem?_eq_getElem (by omega)]
 rfl
theorem acc_bd (l : List UInt8) (c : Int) (h0 : 0 ≤ c) (h1 : c < 128) : ∀ k, contTo l k = true → 0 ≤ acc l c k ∧ acc l c k < 128 * 64 ^ (k - 1) := by
 intro k
 induction k with
 | zero => intro _; exact ⟨h0, by simpa [acc] using h1⟩
 | succ k ih =>
   cases k with
   | zero => intro _; exact ⟨h0, by simpa [acc] using h1⟩
   | succ k =>
     intro h
     simp only [contTo, Bool.and_eq_true] at h
     obtain ⟨a, b⟩ := ih h.1
     have hc := h.2
     simp only [contB, decide_eq_true_eq] at hc
     simp only [acc]
     refine ⟨by omega, ?_⟩
     rw [show k + 1 + 1 - 1 = (k + 1 - 1) + 1 from by omega, Int.pow_succ]
     omega
theorem decK_leads {l : List UInt8} {k : Nat} (h : ¬ leads k (byt l 0)) : decK k l = none := by
 unfold decK; rw [if_neg (fun x => h x.2.1)]
theorem decK_short {l : List UInt8} {k : Nat} (h : ¬ k < l.length) : decK k l = none := by
 unfold decK; rw [if_neg (fun x => h x.1)]
theorem decK_fair {l : List UInt8} {k : Nat} (h : ¬ fair k (acc l (byt l 0 - lead k) (k + 1))) : decK k l = none := by
 unfold decK; rw [if_neg (fun x => h x.2.2.2)]
theorem contTo_mono {l : List UInt8} : ∀ (k j : Nat), j ≤ k → contTo l k = true → contTo l j = true := by
 intro k
 induction k with
 | zero => intro j hj h; obtain rfl : j = 0 := by omega
           exact h
 | succ k ih =>
   intro j hj h
   rcases Nat.lt_or_ge j (k + 1) with h' | h'
   · refine ih j (by omega) ?_
     cases k with
     | zero => rfl
     | succ k => simp only [contTo, Bool.and_eq_true] at h; exact h.1
   · obtain rfl : j = k + 1 := by omega
     exact h
theorem decK_cont {l : List UInt8} {k j : Nat} (h0 : 1 ≤ j) (hj : j ≤ k) (h : ¬ contB (byt l j) = true) : decK k l = none := by
 unfold decK; rw [if_neg (fun x => h ?_)]
 have := contTo_mono (k + 1) (j + 1) (by omega) x.2.2.1
 match j, h0 with
 | j + 1, _ => simp only [contTo, Bool.and_eq_true] at this; exact this.2
theorem decK_yes {l : List UInt8} {k : Nat} (h1 : k < l.length) (h2 : leads k (byt l 0)) (h3 : contTo l (k + 1) = true) (h4 : fair k (acc l (byt l 0 - lead k) (k + 1))) :
 decK k l = some (acc l (byt l 0 - lead k) (k + 1), (k : Int) + 1) := by unfold decK; rw [if_pos ⟨h1, h2, h3, h4⟩]
theorem leads_bd {k : Nat} {a : Int} (h : leads k a) : 0 ≤ a - lead k ∧ a - lead k < 128 := by
 unfold leads at h
 match k, h with
 | 0, h => simp only [lead, wide] at *; omega
 | 1, h => simp only [lead, wide] at *; omega
 | 2, h => simp only [lead, wide] at *; omega
 | k + 3, h => simp only [lead, wide] at *; omega
theorem contTo_succ {l : List UInt8} {j : Nat} (h0 : 1 ≤ j) (h : contTo l j = true) (hc : contB (byt l j) = true) : contTo l (j + 1) = true := by
 match j, h0 with
 | j + 1, _ => simp [contTo, h, hc]
theorem acc_succ {l : List UInt8} {c : Int} {j : Nat} (h0 : 1 ≤ j) : acc l c (j + 1) = acc l c j * 64 + (byt l j - 128) := by
 match j, h0 with
 | j + 1, _ => rfl
theorem acc_small {l : List UInt8} {c : Int} {j : Nat} (h0 : 0 ≤ c) (h1 : c < 128) (hj : j ≤ 4) (h : contTo l j = true) : 0 ≤ acc l c j ∧ acc l c j < 33554433 := by
 have hx : ∀ (k : Nat), k ≤ 3 → (128 : Int) * 64 ^ k ≤ 33554432 := by
  intro k hk
  match k, hk with
  | 0, _ => decide
  | 1, _ => decide
  | 2, _ => decide
  | 3, _ => decide
 have hb : 0 ≤ acc l c j ∧ acc l c j < 128 * 64 ^ (j - 1) := acc_bd l c h0 h1 j h
 have := hx (j - 1) (by omega)
 omega
theorem and_mask_all : ∀ k : Fin 4, ∀ a : Fin 256, (bits .and .i64 ((a.val : Nat) : Int) (mask k.val) = lead k.val ↔ leads k.val ((a.val : Nat) : Int)) ∧ (leads k.val ((a.val : Nat) : Int) → bits .andNot .i64 ((a.val : Nat) : Int) (mask k.val) = ((a.val : Nat) : Int) - lead k.val) := by decide +kernel
theorem and_tail_all : ∀ a : Fin 256, (bits .and .i64 ((a.val : Nat) : Int) 192 = 128 ↔ contB ((a.val : Nat) : Int) = true) ∧ (contB ((a.val : Nat) : Int) = true → bits .and .i64 ((a.val : Nat) : Int) 63 = ((a.val : Nat) : Int) - 128) := by decide +kernel
theorem and_mask {k : Nat} (hk : k < 4) {a : Int} (h0 : 0 ≤ a) (h1 : a < 256) : (bits .and .i64 a (mask k) = lead k ↔ leads k a) ∧ (leads k a → bits .andNot .i64 a (mask k) = a - lead k) := by
 obtain ⟨n, rfl⟩ := Int.eq_ofNat_of_zero_le h0
 exact and_mask_all ⟨k, hk⟩ ⟨n, by omega⟩
theorem and_tail {a : Int} (h0 : 0 ≤ a) (h1 : a < 256) : (bits .and .i64 a 192 = 128 ↔ contB a = true) ∧ (contB a = true → bits .and .i64 a 63 = a - 128) := by
 obtain ⟨n, rfl⟩ := Int.eq_ofNat_of_zero_le h0
 exact and_tail_all ⟨n, by omega⟩
theorem ofInt_i64 (a : Nat) (ha : a < 9223372036854775808) : (BitVec.ofInt 64 (a : Int)).toNat = a := by
 rw [BitVec.ofInt_natCast, BitVec.toNat_ofNat]; exact Nat.mod_eq_of_lt (by omega)
theorem or_six {c d : Int} (h0 : 0 ≤ c) (h1 : c < 134217728) (h2 : 0 ≤ d) (h3 : d < 64) : bits .or .i64 (c * 64) d = c * 64 + d := by
 obtain ⟨a, rfl⟩ := Int.eq_ofNat_of_zero_le h0
 obtain ⟨b, rfl⟩ := Int.eq_ofNat_of_zero_le h2
 have e : ((a : Int) * 64) = ((a * 64 : Nat) : Int) := by omega
 rw [e]
 show IntKind.i64.wrap ((BitVec.ofInt 64 ((a * 64 : Nat) : Int) ||| BitVec.ofInt 64 (b : Int)).toNat : Int) = _
 have h := Nat.shiftLeft_add_eq_or_of_lt (b := b) (i := 6) (by omega) a
 rw [BitVec.toNat_or, ofInt_i64 _ (by omega), ofInt_i64 b (by omega), show a * 64 = a <<< 6 from by rw [Nat.shiftLeft_eq], ← h, IntKind.wrap_i64, Nat.shiftLeft_eq]
 omega
theorem decK_bd {k : Nat} {l : List UInt8} {p : Int × Int} (hk : k < 4) (h : decK k l = some p) : p.2 = (k : Int) + 1 ∧ k + 1 ≤ l.length ∧ 0 ≤ p.1 ∧ fair k p.1 := by
 unfold decK at h
 split at h
 · rename_i hc
   obtain ⟨h1, h2, h3, h4⟩ := hc
   injection h with h
   subst h
   have hls := leads_bd h2
   exact ⟨rfl, by omega, (acc_small hls.1 hls.2 (by omega) h3).1, h4⟩
 · cases h
theorem dec_cases (l : List UInt8) : (noneTo l 4 ∧ dec l = (0, 0)) ∨ ∃ k, k < 4 ∧ noneTo l k ∧ decK k l = some (dec l) := by
 cases h0 : decK 0 l with
 | some p => exact .inr ⟨0, by omega, fun j hj => by omega, by rw [dec_some (k := 0) (by omega) (fun j hj => by omega) h0, h0]⟩
 | none =>
   have n1 : noneTo l 1 := fun j hj => by obtain rfl : j = 0 := by omega
                                          exact h0
   cases h1 : decK 1 l with
   | some p => exact .inr ⟨1, by omega, n1, by rw [dec_some (k := 1) (by omega) n1 h1, h1]⟩
   | none =>
     have n2 := noneTo_succ n1 h1
     cases h2 : decK 2 l with
     | some p => exact .inr ⟨2, by omega, n2, by rw [dec_some (k := 2) (by omega) n2 h2, h2]⟩
     | none =>
       have n3 := noneTo_succ n2 h2
       cases h3 : decK 3 l with
       | some p => exact .inr ⟨3, by omega, n3, by rw [dec_some (k := 3) (by omega) n3 h3, h3]⟩
       | none => exact .inl ⟨noneTo_succ n3 h3, dec_none (noneTo_succ n3 h3)⟩
theorem dec_bd (l : List UInt8) : 0 ≤ (dec l).2 ∧ (dec l).2 ≤ 4 ∧ (dec l).2 ≤ l.length ∧ 0 ≤ (dec l).1 ∧ (dec l).1 ≤ 1114111 ∧ halfB (dec l).1 = false := by
 rcases dec_cases l with ⟨_, h⟩ | ⟨k, hk, _, h⟩
 · rw [h]; simp [halfB]
 · obtain ⟨h1, h2, h3, h4⟩ := decK_bd hk h
   unfold fair at h4
   exact ⟨by omega, by omega, by omega, h3, h4.2.1, h4.2.2⟩
def codesF : Nat → List UInt8 → Option (List Int)
 | _, [] => some []
 | 0, _ :: _ => none
 | n + 1, b :: t => if (dec (b :: t)).2 = 0 then none else (codesF n ((b :: t).drop (dec (b :: t)).2.toNat)).map ((dec (b :: t)).1 :: ·)
def codes (l : List UInt8) : Option (List Int) := codesF l.length l
theorem codesF_enough : ∀ (n m : Nat) (l : List UInt8), l.length ≤ n → l.length ≤ m → codesF n l = codesF m l := by
 intro n
 induction n with
 | zero =>
   intro m l h _
   have : l = [] := List.eq_nil_of_length_eq_zero (by omega)
   subst this
   cases m <;> rfl
 | succ n ih =>
   intro m l hn hm
   cases l with
   | nil => cases m <;> rfl
   | cons b t =>
     cases m with
     | zero => simp at hm
     | succ m =>
       have hb := dec_bd (b :: t)
       simp only [codesF]
       split
       · rfl
       · rename_i h0
         rw [ih m _ (by simp only [List.length_drop, List.length_cons] at *; omega) (by simp only [List.length_drop, List.length_cons] at *; omega)]
theorem codes_nil : codes [] = some [] := rfl
theorem codes_bad {l : List UInt8} (h : l ≠ []) (h0 : (dec l).2 = 0) : codes l = none := by
 cases l with
 | nil => exact absurd rfl h
 | cons b t => simp only [codes, List.length_cons, codesF, if_pos h0]
theorem codes_step {l : List UInt8} (h : l ≠ []) (h0 : (dec l).2 ≠ 0) : codes l = (codes (l.drop (dec l).2.toNat)).map ((dec l).1 :: ·) := by
 cases l with
 | nil => exact absurd rfl h
 | cons b t =>
   have hb := dec_bd (b :: t)
   show codesF (t.length + 1) (b :: t) = _
   simp only [codesF, if_neg h0]
   rw [codesF_enough t.length ((b :: t).drop (dec (b :: t)).2.toNat).length _ (by simp only [List.length_drop, List.length_cons] at *; omega) (Nat.le_refl _)]
   rfl
def eachP (p : Int → Bool) (l : List UInt8) : Bool :=
 match codes l with
 | some cs => cs.all p
 | none => false
theorem eachP_bad {p : Int → Bool} {l : List UInt8} (h : l ≠ []) (h0 : (dec l).2 = 0) : eachP p l = false := by simp [eachP, codes_bad h h0]
theorem eachP_step {p : Int → Bool} {l : List UInt8} (h : l ≠ []) (h0 : (dec l).2 ≠ 0) : eachP p l = (p (dec l).1 && eachP p (l.drop (dec l).2.toNat)) := by
 unfold eachP
 rw [codes_step h h0]
 cases codes (l.drop (dec l).2.toNat) with
 | none => simp
 | some cs => simp
def srcB (c : Int) : Bool := decide (c = 9 ∨ c = 10 ∨ c = 13 ∨ (32 ≤ c ∧ c < 65536))
def goodB (l : List UInt8) : Bool := eachP (fun _ => true) l
def sourceB (l : List UInt8) : Bool := eachP srcB l
theorem goodB_iff (l : List UInt8) : goodB l = (codes l).isSome := by
 unfold goodB eachP
 cases codes l <;> simp
def pairUp : List Int → Option (List Int)
 | [] => some []
 | [c] => if c < 0 ∨ 65536 ≤ c ∨ halfB c = true then none else some [c]
 | c :: d :: t => if c < 0 ∨ 65536 ≤ c then none else if halfB c = true then (if pairB c d = true then (pairUp t).map ((65536 + 1024 * (c - 55296) + d - 56320) :: ·) else none) else (pairUp (d :: t)).map (c :: ·)
def bytesOf (cs : List Int) : List UInt8 := cs.flatMap Lib.encodeRune
def joinL (l : List Int) : Option (List UInt8) := (pairUp l).map bytesOf
def unitOf (c : Int) : List Int := if c < 65536 then [c] else [55296 + (c - 65536) / 1024, 56320 + (c - 65536) % 1024]
def unitsOf (cs : List Int) : List Int := cs.flatMap unitOf
def okB (c : Int) : Bool := decide (0 ≤ c ∧ c ≤ 1114111 ∧ halfB c = false)
theorem pairUp_one {c : Int} {t : List Int} (h0 : ¬ c < 0) (h1 : ¬ 65536 ≤ c) (h2 : halfB c = false) : pairUp (c :: t) = (pairUp t).map (c :: ·) := by
 cases t with
 | nil => simp [pairUp, h0, h1, h2]
 | cons d t => simp [pairUp, h0, h1, h2]
theorem pairUp_two {c d : Int} {t : List Int} (h0 : ¬ c < 0) (h1 : ¬ 65536 ≤ c) (h2 : halfB c = true) (h3 : pairB c d = true) : pairUp (c :: d :: t) = (pairUp t).map ((65536 + 1024 * (c - 55296) + d - 56320) :: ·) := by
 simp [pairUp, h0, h1, h2, h3]
theorem pairUp_range {c : Int} {t : List Int} (h : c < 0 ∨ 65536 ≤ c) : pairUp (c :: t) = none := by
 cases t with
 | nil => simp only [pairUp]; rw [if_pos (by rcases h with h | h; exact .inl h; exact .inr (.inl h))]
 | cons d t => simp only [pairUp]; rw [if_pos h]
theorem pairUp_end {c : Int} (h : halfB c = true) : pairUp [c] = none := by
 simp [pairUp, h]
theorem pairUp_odd {c d : Int} {t : List Int} (h2 : halfB c = true) (h3 : pairB c d = false) : pairUp (c :: d :: t) = none := by
 simp [pairUp, h2, h3]
theorem units_of_pairUp : ∀ (n : Nat) (l cs : List Int), l.length ≤ n → pairUp l = some cs → unitsOf cs = l ∧ cs.all okB = true := by
 intro n
 induction n with
 | zero =>
   intro l cs hl h
   have : l = [] := List.eq_nil_of_length_eq_zero (by omega)
   subst this
   simp only [pairUp, Option.some.injEq] at h
   subst h
   exact ⟨rfl, rfl⟩
 | succ n ih =>
   intro l cs hl h
   cases l with
   | nil =>
     simp only [pairUp, Option.some.injEq] at h
     subst h
     exact ⟨rfl, rfl⟩
   | cons c t =>
     by_cases hr : c < 0 ∨ 65536 ≤ c
     · rw [pairUp_range hr] at h; cases h
     · cases hh : halfB c
       · rw [pairUp_one (by omega) (by omega) hh] at h
         obtain ⟨cs', h', rfl⟩ := Option.map_eq_some_iff.1 h
         obtain ⟨a, b⟩ := ih t cs' (by simp at hl; omega) h'
         refine ⟨?_, ?_⟩
         · have : unitOf c = [c] := by unfold unitOf; rw [if_pos (by omega)]
           show unitOf c ++ unitsOf cs' = _
           rw [this, a]; rfl
         · rw [List.all_cons, b, Bool.and_true]
           simp [okB, hh]; omega
       · cases t with
         | nil => rw [pairUp_end hh] at h; cases h
         | cons d t =>
           cases hp : pairB c d
           · rw [pairUp_odd hh hp] at h; cases h
           · rw [pairUp_two (by omega) (by omega) hh hp] at h
             obtain ⟨cs', h', rfl⟩ := Option.map_eq_some_iff.1 h
             obtain ⟨a, b⟩ := ih t cs' (by simp at hl; omega) h'
             have hp' : 55296 ≤ c ∧ c < 56320 ∧ 56320 ≤ d ∧ d ≤ 57343 := by simpa [pairB] using hp
             refine ⟨?_, ?_⟩
             · have : unitOf (65536 + 1024 * (c - 55296) + d - 56320) = [c, d] := by
                unfold unitOf
                rw [if_neg (by omega)]
                congr 1
                · omega
                · congr 1; omega
               show unitOf _ ++ unitsOf cs' = _
               rw [this, a]; rfl
             · rw [List.all_cons, b, Bool.and_true]
               simp [okB, halfB]; omega
theorem pairUp_units : ∀ (cs : List Int), cs.all okB = true → pairUp (unitsOf cs) = some cs := by
 intro cs
 induction cs with
 | nil => intro _; rfl
 | cons c cs ih =>
   intro h
   rw [List.all_cons, Bool.and_eq_true] at h
   have hok : 0 ≤ c ∧ c ≤ 1114111 ∧ halfB c = false := by simpa [okB] using h.1
   show pairUp (unitOf c ++ unitsOf cs) = _
   unfold unitOf
   by_cases h6 : c < 65536
   · rw [if_pos h6]
     show pairUp (c :: unitsOf cs) = _
     rw [pairUp_one (by omega) (by omega) hok.2.2, ih h.2]; rfl
   · rw [if_neg h6]
     show pairUp (_ :: _ :: unitsOf cs) = _
     rw [pairUp_two (by omega) (by omega) (by simp [halfB]; omega) (by simp [pairB]; omega), ih h.2]
     simp only [Option.map_some, Option.some.injEq]
     congr 1
     omega
theorem byt_cons_zero (b : UInt8) (t : List UInt8) : byt (b :: t) 0 = (b.toNat : Int) := rfl
theorem byt_cons_succ (b : UInt8) (t : List UInt8) (k : Nat) : byt (b :: t) (k + 1) = byt t k := rfl
theorem toNat_ofInt {x : Int} (h0 : 0 ≤ x) (h1 : x < 256) : ((x.toNat.toUInt8).toNat : Int) = x := by
 obtain ⟨n, rfl⟩ := Int.eq_ofNat_of_zero_le h0
 simp [Nat.toUInt8, UInt8.toNat_ofNat']
 omega
theorem leads_inj {j k : Nat} {a : Int} (hj : j < 4) (hk : k < 4) (h1 : leads j a) (h2 : leads k a) : j = k := by
 unfold leads at h1 h2
 match j, hj, k, hk with
 | 0, _, 0, _ | 1, _, 1, _ | 2, _, 2, _ | 3, _, 3, _ => rfl
 | 0, _, 1, _ | 0, _, 2, _ | 0, _, 3, _ | 1, _, 0, _ | 1, _, 2, _ | 1, _, 3, _ | 2, _, 0, _ | 2, _, 1, _ | 2, _, 3, _ | 3, _, 0, _ | 3, _, 1, _ | 3, _, 2, _ =>
   simp only [lead, wide] at h1 h2; omega
theorem dec_of {l : List UInt8} {k : Nat} {c : Int} (hk : k < 4) (h1 : k < l.length) (h2 : leads k (byt l 0)) (h3 : contTo l (k + 1) = true) (ha : acc l (byt l 0 - lead k) (k + 1) = c) (h4 : fair k c) : dec l = (c, (k : Int) + 1) := by
 subst ha
 exact dec_some hk (fun j hj => decK_leads (fun h => by have := leads_inj (by omega) hk h h2; omega)) (decK_yes h1 h2 h3 h4)
theorem contB_yes {b : Int} (h0 : 128 ≤ b) (h1 : b ≤ 191) : contB b = true := by simp [contB, h0, h1]
theorem dec_encode {c : Int} (h : okB c = true) (t : List UInt8) : dec (Lib.encodeRune c ++ t) = (c, ((Lib.encodeRune c).length : Int)) := by
 have hok : 0 ≤ c ∧ c ≤ 1114111 ∧ halfB c = false := by simpa [okB] using h
 obtain ⟨h0, h1, h2⟩ := hok
 have hh : ¬ (55296 ≤ c ∧ c ≤ 57343) := by simpa [halfB] using h2
 by_cases a1 : c ≤ 127
 · have e : Lib.encodeRune c = [c.toNat.toUInt8] := by simp [Lib.encodeRune, Lib.encodeRuneZ_one h0 a1]
   rw [e]
   have b0 : byt ([c.toNat.toUInt8] ++ t) 0 = c := toNat_ofInt h0 (by omega)
   have hl : 1 ≤ ([c.toNat.toUInt8] ++ t).length := by simp
   generalize [c.toNat.toUInt8] ++ t = l at *
   exact dec_of (k := 0) (by omega) (by omega) (by rw [b0]; simp only [leads, lead, wide]; omega) rfl (by rw [b0]; simp [acc, lead]) ⟨h0, h1, h2⟩
 by_cases a2 : c ≤ 2047
 · have e : Lib.encodeRune c = [(192 + c / 64).toNat.toUInt8, (128 + c % 64).toNat.toUInt8] := by simp [Lib.encodeRune, Lib.encodeRuneZ_two (by omega) a2]
   rw [e]
   generalize hx : (192 + c / 64).toNat.toUInt8 = x
   generalize hy : (128 + c % 64).toNat.toUInt8 = y
   have b0 : byt ([x, y] ++ t) 0 = 192 + c / 64 := by rw [← hx]; exact toNat_ofInt (by omega) (by omega)
   have b1 : byt ([x, y] ++ t) 1 = 128 + c % 64 := by rw [← hy]; exact toNat_ofInt (by omega) (by omega)
   have hl : 2 ≤ ([x, y] ++ t).length := by simp
   generalize [x, y] ++ t = l at *
   refine dec_of (k := 1) (by omega) (by omega) (by rw [b0]; simp only [leads, lead, wide]; omega) ?_ ?_ ⟨by simp only [least]; omega, h1, h2⟩
   · simp only [contTo, b1, Bool.true_and]; exact contB_yes (by omega) (by omega)
   · simp only [acc, b0, b1, lead]; omega
 by_cases a3 : c ≤ 65535
 · have e : Lib.encodeRune c = [(224 + c / 4096).toNat.toUInt8, (128 + c / 64 % 64).toNat.toUInt8, (128 + c % 64).toNat.toUInt8] := by simp [Lib.encodeRune, Lib.encodeRuneZ_three (show (2048 ≤ c ∧ c < 55296) ∨ (57343 < c ∧ c ≤ 65535) by omega)]
   rw [e]
   generalize hx : (224 + c / 4096).toNat.toUInt8 = x
   generalize hy : (128 + c / 64 % 64).toNat.toUInt8 = y
   generalize hz : (128 + c % 64).toNat.toUInt8 = z
   have b0 : byt ([x, y, z] ++ t) 0 = 224 + c / 4096 := by rw [← hx]; exact toNat_ofInt (by omega) (by omega)
   have b1 : byt ([x, y, z] ++ t) 1 = 128 + c / 64 % 64 := by rw [← hy]; exact toNat_ofInt (by omega) (by omega)
   have b2 : byt ([x, y, z] ++ t) 2 = 128 + c % 64 := by rw [← hz]; exact toNat_ofInt (by omega) (by omega)
   have hl : 3 ≤ ([x, y, z] ++ t).length := by simp
   generalize [x, y, z] ++ t = l at *
   refine dec_of (k := 2) (by omega) (by omega) (by rw [b0]; simp only [leads, lead, wide]; omega) ?_ ?_ ⟨by simp only [least]; omega, h1, h2⟩
   · simp only [contTo, b1, b2, Bool.true_and]; rw [contB_yes (by omega) (by omega), contB_yes (by omega) (by omega)]; rfl
   · simp only [acc, b0, b1, b2, lead]; omega
 · have e : Lib.encodeRune c = [(240 + c / 262144).toNat.toUInt8, (128 + c / 4096 % 64).toNat.toUInt8, (128 + c / 64 % 64).toNat.toUInt8, (128 + c % 64).toNat.toUInt8] := by simp [Lib.encodeRune, Lib.encodeRuneZ_four (show 65536 ≤ c by omega) h1]
   rw [e]
   generalize hx : (240 + c / 262144).toNat.toUInt8 = x
   generalize hy : (128 + c / 4096 % 64).toNat.toUInt8 = y
   generalize hz : (128 + c / 64 % 64).toNat.toUInt8 = z
   generalize hu : (128 + c % 64).toNat.toUInt8 = u
   have b0 : byt ([x, y, z, u] ++ t) 0 = 240 + c / 262144 := by rw [← hx]; exact toNat_ofInt (by omega) (by omega)
   have b1 : byt ([x, y, z, u] ++ t) 1 = 128 + c / 4096 % 64 := by rw [← hy]; exact toNat_ofInt (by omega) (by omega)
   have b2 : byt ([x, y, z, u] ++ t) 2 = 128 + c / 64 % 64 := by rw [← hz]; exact toNat_ofInt (by omega) (by omega)
   have b3 : byt ([x, y, z, u] ++ t) 3 = 128 + c % 64 := by rw [← hu]; exact toNat_ofInt (by omega) (by omega)
   have hl : 4 ≤ ([x, y, z, u] ++ t).length := by simp
   generalize [x, y, z, u] ++ t = l at *
   refine dec_of (k := 3) (by omega) (by omega) (by rw [b0]; simp only [leads, lead, wide]; omega) ?_ ?_ ⟨by simp only [least]; omega, h1, h2⟩
   · simp only [contTo, b1, b2, b3, Bool.true_and]; rw [contB_yes (by omega) (by omega), contB_yes (by omega) (by omega), contB_yes (by omega) (by omega)]; rfl
   · simp only [acc, b0, b1, b2, b3, lead]; omega
theorem ofNum {b : UInt8} {x : Int} (h : (b.toNat : Int) = x) : x.toNat.toUInt8 = b := by
 subst h; simp
set_option maxRecDepth 10000 in
theorem encode_dec {l : List UInt8} (h : (dec l).2 ≠ 0) : Lib.encodeRune (dec l).1 = l.take (dec l).2.toNat := by
 rcases dec_cases l with ⟨_, h'⟩ | ⟨k, hk, _, h'⟩
 · rw [h'] at h; exact absurd rfl h
 · obtain ⟨e2, hlen, h0, hf⟩ := decK_bd hk h'
   have hp := h'
   unfold decK at hp
   split at hp
   · rename_i hc
     obtain ⟨_, hL, hC, _⟩ := hc
     injection hp with hp
     have e1 : (dec l).1 = acc l (byt l 0 - lead k) (k + 1) := by rw [← hp]
     rw [e2, show ((k : Int) + 1).toNat = k + 1 from by omega]
     unfold fair at hf
     generalize (dec l).1 = c at *
     clear h h' hp e2
     have hh : ¬ (55296 ≤ c ∧ c ≤ 57343) := by simpa [halfB] using hf.2.2
     have hcb : ∀ b : Int, contB b = true → 128 ≤ b ∧ b ≤ 191 := fun b hb => by simpa [contB] using hb
     match k, hk with
     | 0, _ =>
       match l, hlen with
       | x :: t, _ =>
         simp only [acc, byt_cons_zero, lead, leads, wide] at e1 hL
         rw [Lib.encodeRune, Lib.encodeRuneZ_one h0 (by omega)]
         simp only [List.map, List.take_succ_cons, List.take_zero]
         rw [ofNum (b := x) (by omega)]
     | 1, _ =>
       match l, hlen with
       | x :: y :: t, _ =>
         simp only [acc, byt_cons_zero, byt_cons_succ, lead, leads, wide, contTo, Bool.true_and] at e1 hL hC
         have c1 := hcb _ hC
         simp only [least] at hf
         rw [Lib.encodeRune, Lib.encodeRuneZ_two (by omega) (by omega)]
         simp only [List.map, List.take_succ_cons, List.take_zero]
         rw [ofNum (b := x) (by omega), ofNum (b := y) (by omega)]
     | 2, _ =>
       match l, hlen with
       | x :: y :: z :: t, _ =>
         simp only [acc, byt_cons_zero, byt_cons_succ, lead, leads, wide, contTo, Bool.true_and, Bool.and_eq_true] at e1 hL hC
         have c1 := hcb _ hC.1
         have c2 := hcb _ hC.2
         simp only [least] at hf
         rw [Lib.encodeRune, Lib.encodeRuneZ_three (by omega)]
         simp only [List.map, List.take_succ_cons, List.take_zero]
         rw [ofNum (b := x) (by omega), ofNum (b := y) (by omega), ofNum (b := z) (by omega)]
     | 3, _ =>
       match l, hlen with
       | x :: y :: z :: u :: t, _ =>
         simp only [acc, byt_cons_zero, byt_cons_succ, lead, leads, wide, contTo, Bool.true_and, Bool.and_eq_true] at e1 hL hC
         have c1 := hcb _ hC.1.1
         have c2 := hcb _ hC.1.2
         have c3 := hcb _ hC.2
         simp only [least] at hf
         rw [Lib.encodeRune, Lib.encodeRuneZ_four (by omega) (by omega)]
         simp only [List.map, List.take_succ_cons, List.take_zero]
         rw [ofNum (b := x) (by omega), ofNum (b := y) (by omega), ofNum (b := z) (by omega), ofNum (b := u) (by omega)]
   · cases hp
theorem encode_ne (c : Int) : Lib.encodeRune c ≠ [] := by
 have := (Lib.encodeRuneZ_length c).1
 intro e
 have h := congrArg List.length e
 simp [Lib.encodeRune] at h
 rw [h] at this
 simp at this
theorem codes_bytes : ∀ (cs : List Int) (t : List UInt8), cs.all okB = true → codes (bytesOf cs ++ t) = (codes t).map (cs ++ ·) := by
 intro cs
 induction cs with
 | nil => intro t _; show codes t = _; cases codes t <;> rfl
 | cons c cs ih =>
   intro t h
   rw [List.all_cons, Bool.and_eq_true] at h
   have e : bytesOf (c :: cs) ++ t = Lib.encodeRune c ++ (bytesOf cs ++ t) := by simp [bytesOf]
   have hd := dec_encode h.1 (bytesOf cs ++ t)
   have hne := encode_ne c
   have hpos : 0 < (Lib.encodeRune c).length := List.length_pos_iff.2 hne
   rw [e, codes_step (by simp [hne]) (by rw [hd]; show ((Lib.encodeRune c).length : Int) ≠ 0; omega), hd]
   show Option.map _ (codes (List.drop (((Lib.encodeRune c).length : Int)).toNat _)) = _
   rw [show (((Lib.encodeRune c).length : Int)).toNat = (Lib.encodeRune c).length from by omega, List.drop_left, ih t h.2]
   cases codes t <;> rfl
theorem bytes_codes : ∀ (n : Nat) (l : List UInt8) (cs : List Int), l.length ≤ n → codes l = some cs → bytesOf cs = l ∧ cs.all okB = true := by
 intro n
 induction n with
 | zero =>
   intro l cs hl h
   have : l = [] := List.eq_nil_of_length_eq_zero (by omega)
   subst this
   rw [codes_nil, Option.some.injEq] at h
   subst h
   exact ⟨rfl, rfl⟩
 | succ n ih =>
   intro l cs hl h
   by_cases hn : l = []
   · subst hn
     rw [codes_nil, Option.some.injEq] at h
     subst h
     exact ⟨rfl, rfl⟩
   · by_cases h0 : (dec l).2 = 0
     · rw [codes_bad hn h0] at h; cases h
     · rw [codes_step hn h0] at h
       obtain ⟨cs', h', rfl⟩ := Option.map_eq_some_iff.1 h
       have hb := dec_bd l
       obtain ⟨a, b⟩ := ih _ cs' (by rw [List.length_drop]; omega) h'
       refine ⟨?_, ?_⟩
       · show Lib.encodeRune (dec l).1 ++ bytesOf cs' = l
         rw [encode_dec h0, a, List.take_append_drop]
       · rw [List.all_cons, b, Bool.and_true]
         simp [okB, hb.2.2.2.2.2]; omega
theorem codes_append {l : List UInt8} {cs : List Int} (h : codes l = some cs) (t : List UInt8) : codes (l ++ t) = (codes t).map (cs ++ ·) := by
 obtain ⟨a, b⟩ := bytes_codes _ l cs (Nat.le_refl _) h
 conv => lhs; rw [← a]
 exact codes_bytes cs t b
end Go.Proofs.YtpkmbhnikilihaaGreatDoor
namespace Go.Proofs.YtpkmbhnikilihaaGreatDoor.Blk
def eolB (c : UInt8) : Bool := c == 10 || c == 13
def firstL (l : List UInt8) : List UInt8 := l.takeWhile fun c => !eolB c
def afterL (l : List UInt8) : Option (List UInt8) :=
 match l.dropWhile fun c => !eolB c with
 | [] => none
 | c :: t => if c = 13 then (match t with | d :: t' => if d = 10 then some t' else some t | [] => some t) else some t
def linesF : Nat → List UInt8 → List (List UInt8)
 | 0, l => [l]
 | n + 1, l => firstL l :: (match afterL l with | none => [] | some t => linesF n t)
def linesL (l : List UInt8) : List (List UInt8) := linesF (l.length + 1) l
theorem dropWhile_len (p : UInt8 → Bool) : ∀ l : List UInt8, (l.dropWhile p).length ≤ l.length := by
 intro l
 induction l with
 | nil => simp
 | cons c t ih => rw [List.dropWhile_cons]; split <;> simp <;> omega
theorem afterL_len {l t : List UInt8} (h : afterL l = some t) : t.length < l.length := by
 unfold afterL at h
 have hl := dropWhile_len (fun c => !eolB c) l
 split at h
 · cases h
 · rename_i c r hd
   rw [hd] at hl
   simp only [List.length_cons] at hl
   split at h
   · split at h
     · split at h
       · cases h; simp only [List.length_cons] at hl; omega
       · cases h; simp only [List.length_cons] at hl ⊢; omega
     · cases h; simp only [List.length_nil] at hl ⊢; omega
   · cases h; omega
theorem linesF_enough : ∀ (n m : Nat) (l : List UInt8), l.length < n → l.length < m → linesF n l = linesF m l := by
 intro n
 induction n with
 | zero => intro m l h; omega
 | succ n ih =>
   intro m l hn hm
   cases m with
   | zero => omega
   | succ m =>
     simp only [linesF]
     cases ha : afterL l with
     | none => rfl
     | some t =>
       have := afterL_len ha
       simp only
       rw [ih m t (by omega) (by omega)]
theorem linesL_eq (l : List UInt8) : linesL l = firstL l :: (match afterL l with | none => [] | some t => linesL t) := by
 show linesF (l.length + 1) l = _
 simp only [linesF]
 cases ha : afterL l with
 | none => rfl
 | some t =>
   have := afterL_len ha
   simp only [linesL]
   rw [linesF_enough l.length (t.length + 1) t (by omega) (by omega)]
def plainL (l : List UInt8) : Prop := ∀ c ∈ l, eolB c = false
theorem takeWhile_plain {a : List UInt8} (h : plainL a) (r : List UInt8) : (a ++ r).takeWhile (fun c => !eolB c) = a ++ r.takeWhile (fun c => !eolB c) := by
 induction a with
 | nil => rfl
 | cons c a ih =>
   have hc := h c (by simp)
   rw [List.cons_append, List.takeWhile_cons, hc, List.cons_append]
   simp only [Bool.not_false, if_true]
   rw [ih (fun d hd => h d (by simp [hd]))]
theorem dropWhile_plain {a : List UInt8} (h : plainL a) (r : List UInt8) : (a ++ r).dropWhile (fun c => !eolB c) = r.dropWhile (fun c => !eolB c) := by
 induction a with
 | nil => rfl
 | cons c a ih =>
   have hc := h c (by simp)
   rw [List.cons_append, List.dropWhile_cons, hc]
   simp only [Bool.not_false, if_true]
   exact ih (fun d hd => h d (by simp [hd]))
theorem linesL_one {a : List UInt8} (h : plainL a) : linesL a = [a] := by
 have h1 := takeWhile_plain h []
 have h2 := dropWhile_plain h []
 rw [List.append_nil] at h1 h2
 rw [linesL_eq]
 unfold firstL afterL
 rw [h1, h2]
 simp
theorem linesL_ten {a r : List UInt8} (h : plainL a) : linesL (a ++ 10 :: r) = a :: linesL r := by
 rw [linesL_eq]
 unfold firstL afterL
 rw [takeWhile_plain h, dropWhile_plain h]
 simp [eolB]
theorem linesL_both {a r : List UInt8} (h : plainL a) : linesL (a ++ 13 :: 10 :: r) = a :: linesL r := by
 rw [linesL_eq]
 unfold firstL afterL
 rw [takeWhile_plain h, dropWhile_plain h]
 simp [eolB]
theorem linesL_cr {a r : List UInt8} (h : plainL a) (hr : r.head? ≠ some 10) : linesL (a ++ 13 :: r) = a :: linesL r := by
 rw [linesL_eq]
 unfold firstL afterL
 rw [takeWhile_plain h, dropWhile_plain h]
 cases r with
 | nil => simp [eolB]
 | cons d r =>
   have hd : d ≠ 10 := fun e => hr (by rw [e]; rfl)
   simp [eolB, hd]
theorem linesL_ne (l : List UInt8) : linesL l ≠ [] := by rw [linesL_eq]; simp
def blankB (c : UInt8) : Bool := c == 9 || c == 32
def leadN (l : List UInt8) : Nat := (l.takeWhile blankB).length
def inkB (l : List UInt8) : Bool := l.any fun c => !blankB c
def stepI (out : Int) (x : List UInt8) : Int := if inkB x = true ∧ (out < 0 ∨ (leadN x : Int) < out) then (leadN x : Int) else out
def indentL (ls : List (List UInt8)) : Int := (ls.drop 1).foldl stepI (-1)
def cutL (n : Nat) : List (List UInt8) → List (List UInt8)
 | [] => []
 | x :: t => x :: t.map (List.drop n)
def frontL (ls : List (List UInt8)) : List (List UInt8) := ls.dropWhile fun x => !inkB x
def trimL (ls : List (List UInt8)) : List (List UInt8) := (frontL (frontL ls).reverse).reverse
def joinTen : List (List UInt8) → List UInt8
 | [] => []
 | [x] => x
 | x :: y :: t => x ++ 10 :: joinTen (y :: t)
def shownL (raw : List UInt8) : List (List UInt8) := trimL (cutL (max (indentL (linesL raw)) 0).toNat (linesL raw))
def valueL (raw : List UInt8) : List UInt8 := joinTen (shownL raw)
end Go.Proofs.YtpkmbhnikilihaaGreatDoor.Blk
