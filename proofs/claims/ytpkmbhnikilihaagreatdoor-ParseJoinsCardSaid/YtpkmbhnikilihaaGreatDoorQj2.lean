/- Plain facts on bytes, code points, names and UTF-16 units, of no program: what the walks of the package letters and of the document's own answer come to. -/
import Derived.Lib.Strings
import Derived.Test.YtpkmbhnikilihaaGreatDoorChecked
import Derived.WalkKit
import Derived.Deep.LoopGhost
import Derived.Shelf.Strings.BuilderK
import Derived.Shelf.Strings.BuilderRune
import Derived.Test.YtpkmbhnikilihaaGreatDoorProg
import Derived.WalkLawsBesides
import Derived.Deep.CondSized
import Derived.Lib.Hide
import Derived.Deep.QuietTactic
import Derived.BigQuiet
import Derived.Deep.Draws
import Derived.Deep.DeepCutAuto
import Derived.Shelf.Abstract
namespace Go.Proofs.YtpkmbhnikilihaaGreatDoor

def letB (c : Int) : Bool := decide ((97 ≤ c ∧ c ≤ 122) ∨ (65 ≤ c ∧ c ≤ 90) ∨ c = 95)
def digB (c : Int) : Bool := decide (48 ≤ c ∧ c ≤ 57)
def halfB (c : Int) : Bool := decide (55296 ≤ c ∧ c ≤ 57343)
def pairB (a b : Int) : Bool := decide (55296 ≤ a ∧ a < 56320 ∧ 56320 ≤ b ∧ b ≤ 57343)

/-- Are all of them letters, signs of the low line or digits? -/
def tailB (l : List UInt8) : Bool := l.all fun b => letB (b.toNat : Int) || digB (b.toNat : Int)
/-- Is it a name? -/
def nameB : List UInt8 → Bool
  | [] => false
  | b :: t => letB (b.toNat : Int) && tailB t

theorem tailB_append (l m : List UInt8) : tailB (l ++ m) = (tailB l && tailB m) := by simp [tailB]
theorem nameB_append (l m : List UInt8) (h : l ≠ []) : nameB (l ++ m) = (nameB l && tailB m) := by
  cases l with
  | nil => exact absurd rfl h
  | cons b t => simp [nameB, tailB_append, Bool.and_assoc]
theorem take_snoc (s : ByteArray) (k : Nat) (h : k < s.size) : s.data.toList.take (k + 1) = s.data.toList.take k ++ [s[k]] := by
  rw [List.take_succ_eq_append_getElem (by simpa using h)]; rfl
/-- One byte more of a text of which all so far is a name's. -/
def nameTo (s : ByteArray) (k : Nat) : Prop := k = 0 ∨ nameB (s.data.toList.take k) = true
theorem take_ne (s : ByteArray) (k : Nat) (h0 : k ≠ 0) (h : k < s.size) : s.data.toList.take k ≠ [] := by
  have : s.data.toList.length = s.size := Array.length_toList
  intro e
  have := congrArg List.length e
  simp only [List.length_take, List.length_nil] at this
  omega
theorem nameTo_letter {s : ByteArray} {k : Nat} (h : k < s.size) (ht : nameTo s k) (hl : letB (s[k].toNat : Int) = true) : nameTo s (k + 1) := by
  refine .inr ?_
  rw [take_snoc s k h]
  rcases ht with h0 | ht
  · subst h0; simp [nameB, tailB, hl]
  · rw [nameB_append _ _ (by intro e; rw [e] at ht; cases ht), ht]; simp [tailB, hl]
theorem nameTo_digit {s : ByteArray} {k : Nat} (h : k < s.size) (h0 : k ≠ 0) (ht : nameTo s k) (hl : digB (s[k].toNat : Int) = true) : nameTo s (k + 1) := by
  refine .inr ?_
  rw [take_snoc s k h]
  rcases ht with h0' | ht
  · exact absurd h0' h0
  · rw [nameB_append _ _ (by intro e; rw [e] at ht; cases ht), ht]; simp [tailB, hl]
theorem nameB_split (s : ByteArray) (k : Nat) (h : k < s.size) : s.data.toList = s.data.toList.take k ++ s[k] :: s.data.toList.drop (k + 1) := by
  have e := (List.take_append_drop (k + 1) s.data.toList).symm
  rw [take_snoc s k h, List.append_assoc] at e
  exact e
theorem name_stop0 {s : ByteArray} (h : 0 < s.size) (hl : letB (s[0].toNat : Int) = false) : nameB s.data.toList = false := by
  rw [nameB_split s 0 h]; simp [nameB, hl]
theorem name_stop {s : ByteArray} {k : Nat} (h : k < s.size) (h0 : k ≠ 0) (hl : letB (s[k].toNat : Int) = false) (hd : digB (s[k].toNat : Int) = false) : nameB s.data.toList = false := by
  rw [nameB_split s k h, nameB_append _ _ (take_ne s k h0 h)]
  simp [tailB, hl, hd]
theorem name_done {s : ByteArray} (ht : nameTo s s.size) : nameB s.data.toList = !s.toList.isEmpty := by
  have hl : s.data.toList.length = s.size := Array.length_toList
  have e : s.toList = s.data.toList := Lib.toList_data s
  rw [e]
  rcases ht with h0 | ht
  · have : s.data.toList = [] := List.eq_nil_of_length_eq_zero (by omega)
    rw [this]; rfl
  · rw [← hl, List.take_length] at ht
    rw [ht]
    cases h : s.data.toList with
    | nil => rw [h] at ht; cases ht
    | cons _ _ => rfl
end Go.Proofs.YtpkmbhnikilihaaGreatDoor
/- The walks of the small tests of letters and of the document's own answer: letter, digit, half, pair, start. Each answers a plain test of its number and leaves the world as it was. -/
namespace Go.Proofs.YtpkmbhnikilihaaGreatDoor
open Go.RowKit

theorem Aside.intro {p : Prop} (h : p) : Aside p := h
theorem ret_bool {a b : Bool} (h : a = b) : Ending.returned (.bool a) = .returned (.bool b) := by rw [h]
theorem ret_boolw {a b : Bool} {w : World} (h : a = true ↔ b = true) : Ending.returned (.bool a) = .returned (.bool b) ∧ w = w := by rw [Bool.eq_iff_iff.2 h]; exact ⟨rfl, rfl⟩

theorem letter_any (c : Int) (w : World) : Calls Tryz.prog 196 #[.int .u8 c] w fun e w' => e = .returned (.bool (letB c)) ∧ w = w' := by
  go_enter Tryz.func196, Tryz.ntmps196
  go_wp2
  all_goals go_ret
  all_goals (refine ret_boolw ?_; simp [letB]; try omega)
theorem digit_any (c : Int) (w : World) : Calls Tryz.prog 197 #[.int .u8 c] w fun e w' => e = .returned (.bool (digB c)) ∧ w = w' := by
  go_enter Tryz.func197, Tryz.ntmps197
  go_wp2
  all_goals go_ret
  all_goals (refine ret_boolw ?_; simp [digB]; try omega)
theorem half_any (c : Int) (w : World) : Calls Tryz.prog 283 #[.int .i64 c] w fun e w' => e = .returned (.bool (halfB c)) ∧ w = w' := by
  go_enter Tryz.func283, Tryz.ntmps283
  go_wp2
  all_goals go_ret
  all_goals (refine ret_boolw ?_; simp [halfB]; try omega)
theorem pair_any (a b : Int) (w : World) : Calls Tryz.prog 306 #[.int .i64 a, .int .i64 b] w fun e w' => e = .returned (.bool (pairB a b)) ∧ w = w' := by
  go_enter Tryz.func306, Tryz.ntmps306
  go_wp2
  all_goals go_ret
  all_goals (refine ret_boolw ?_; simp [pairB]; try omega)

/-- The name's walk. -/
theorem name_any (s : ByteArray) (w : World) (hs : s.size ≤ 1100000) : Calls Tryz.prog 130 #[.string s] w fun e w' => e = .returned (.bool (nameB s.data.toList)) ∧ w = w' := by
  go_enter Tryz.func130, Tryz.ntmps130
  go_wp2
  go_loop [6] (fun i => ∃ k : Nat, k ≤ s.size ∧ i = .int .i64 k ∧ nameTo s k) (fun i => s.size - (intOf i).toNat)
  case atStart => exact ⟨0, Nat.zero_le _, rfl, .inl rfl⟩
  case round =>
    obtain ⟨k, hk, rfl, H⟩ := hrel
    by_cases hlt : k < s.size
    · cases hl : letB (s[k].toNat : Int)
      · by_cases h0 : k = 0
        · have hst := Aside.intro (name_stop0 (s := s) (by omega) (by subst h0; exact hl))
          have e0 : ((k : Int) == 0) = true := by simp [h0]
          clear h0 H
          go_wp2_with (first
            | (go_at_call 196; refine (letter_any _ _).mono ?_; rintro e w' ⟨rfl, rfl⟩)
            | (go_at_call 197; refine (digit_any _ _).mono ?_; rintro e w' ⟨rfl, rfl⟩))
          go_ret
          exact ⟨ret_bool hst.out.symm, rfl⟩
        · have e0 : ((k : Int) == 0) = false := by simp [h0]
          cases hd : digB (s[k].toNat : Int)
          · have hst := Aside.intro (name_stop (s := s) hlt h0 hl hd)
            clear h0 H
            go_wp2_with (first
              | (go_at_call 196; refine (letter_any _ _).mono ?_; rintro e w' ⟨rfl, rfl⟩)
              | (go_at_call 197; refine (digit_any _ _).mono ?_; rintro e w' ⟨rfl, rfl⟩))
            go_ret
            exact ⟨ret_bool hst.out.symm, rfl⟩
          · have hst := Aside.intro (nameTo_digit (s := s) hlt h0 H hd)
            clear h0 H
            go_wp2_with (first
              | (go_at_call 196; refine (letter_any _ _).mono ?_; rintro e w' ⟨rfl, rfl⟩)
              | (go_at_call 197; refine (digit_any _ _).mono ?_; rintro e w' ⟨rfl, rfl⟩))
            go_round
            case rel => exact ⟨k + 1, by omega, by go_num, hst.out⟩
            case measure => simp [intOf]; omega
      · have hst := Aside.intro (nameTo_letter (s := s) hlt H hl)
        clear H
        go_wp2_with (first
          | (go_at_call 196; refine (letter_any _ _).mono ?_; rintro e w' ⟨rfl, rfl⟩)
          | (go_at_call 197; refine (digit_any _ _).mono ?_; rintro e w' ⟨rfl, rfl⟩))
        go_round
        case rel => exact ⟨k + 1, by omega, by go_num, hst.out⟩
        case measure => simp [intOf]; omega
    · obtain rfl : k = s.size := by omega
      have hst := Aside.intro (name_done H)
      clear H hk
      go_wp2
      go_ret
      exact ⟨ret_bool hst.out.symm, rfl⟩
end Go.Proofs.YtpkmbhnikilihaaGreatDoor
/- The library's own contracts on strings.Builder at this translation, laid by hand in plain words: WriteRune and String. -/
namespace Go.Proofs.YtpkmbhnikilihaaGreatDoor
open Go.Shelf Go.RowKit
def runeRen : Go.Shelf.Ren := ⟨fun | 168 => 140 | 240 => 139 | 242 => 204 | 276 => 203 | 278 => 251 | n => n, fun | 0 => 0 | 3 => 3 | 4 => 4 | 5 => 5 | 9 => 9 | 20 => 20 | 21 => 21 | 37 => 100 | 46 => 167 | 51 => 243 | 70 => 99 | 72 => 102 | 75 => 105 | 80 => 110 | 164 => 220 | n => n, fun | n => n⟩
theorem runeLays : Go.Proofs.Lays.n168 Tryz.prog runeRen := {
  mixed := by kernel_rfl
  f168 := Tryz.func140.trans (congrArg some (by kernel_rfl))
  f240 := Tryz.func139.trans (congrArg some (by kernel_rfl))
  f242 := Tryz.func204.trans (congrArg some (by kernel_rfl))
  f276 := Tryz.func203.trans (congrArg some (by kernel_rfl))
  f278 := Tryz.func251.trans (congrArg some (by kernel_rfl))
  t0 := Tryz.underlying0
  a0 := Tryz.isAgg0
  z0 := Tryz.sizeOf0
  v0 := Tryz.zeroValue0
  t3 := Tryz.underlying3
  a3 := Tryz.isAgg3
  z3 := Tryz.sizeOf3
  v3 := Tryz.zeroValue3
  t4 := Tryz.underlying4
  a4 := Tryz.isAgg4
  z4 := Tryz.sizeOf4
  v4 := Tryz.zeroValue4
  t5 := Tryz.underlying5
  a5 := Tryz.isAgg5
  z5 := Tryz.sizeOf5
  v5 := Tryz.zeroValue5
  t9 := Tryz.underlying9
  a9 := Tryz.isAgg9
  z9 := Tryz.sizeOf9
  v9 := Tryz.zeroValue9
  t20 := Tryz.underlying20
  a20 := Tryz.isAgg20
  z20 := Tryz.sizeOf20
  v20 := Tryz.zeroValue20
  t21 := Tryz.underlying21
  a21 := Tryz.isAgg21
  z21 := Tryz.sizeOf21
  v21 := Tryz.zeroValue21
  t37 := Tryz.underlying100
  a37 := Tryz.isAgg100
  z37 := Tryz.sizeOf100
  v37 := Tryz.zeroValue100
  t46 := Tryz.underlying167
  a46 := Tryz.isAgg167
  z46 := Tryz.sizeOf167
  v46 := Tryz.zeroValue167
  t51 := Tryz.underlying243
  a51 := Tryz.isAgg243
  z51 := Tryz.sizeOf243
  v51 := Tryz.zeroValue243
  t70 := Tryz.underlying99
  a70 := Tryz.isAgg99
  z70 := Tryz.sizeOf99
  v70 := Tryz.zeroValue99
  t72 := Tryz.underlying102
  a72 := Tryz.isAgg102
  z72 := Tryz.sizeOf102
  v72 := Tryz.zeroValue102
  t75 := Tryz.underlying105
  a75 := Tryz.isAgg105
  z75 := Tryz.sizeOf105
  v75 := Tryz.zeroValue105
  t164 := Tryz.underlying220
  a164 := Tryz.isAgg220
  z164 := Tryz.sizeOf220
  v164 := Tryz.zeroValue220 }
theorem runeExtra : Builder.Extra Tryz.prog runeRen := {
  sizeBuilder := by kernel_rfl
  liesBuilder := by kernel_rfl
  t5 := Tryz.underlying5
  a5 := Tryz.isAgg5
  z5 := Tryz.sizeOf5
  v5 := Tryz.zeroValue5
  infoByte := by kernel_rfl
  cellsByte := by kernel_rfl
  sizeByte := by kernel_rfl
  neB5 := by decide }
/-- WriteRune, at every rune. -/
theorem writeRune (B b : Nat) (bs : List Value) (r : Int) (hr0 : -2147483648 ≤ r) (hr1 : r ≤ 2147483647) (w : World) (h : Lib.IsBuilderF 102 5 B b bs w) (hlen : bs.length + 4 ≤ 140737488355328) (hBw : B ≤ w.heap.size) :
    Calls Tryz.prog 140 #[.pointer (some ⟨b, 0, none⟩), .int .i32 r] w fun e w' => e = .returned (.tuple #[.int .i64 (Lib.runeCells r).length, .nilIface]) ∧ (Lib.BuilderAtF 102 5 B b (.pointer (some ⟨b, 0, none⟩)) (bs ++ Lib.runeCells r) w' ∧ Below B w w' ∧ Lib.OthersKept 5 (some b) w w') :=
  Any.Builder_WriteRune_k runeLays runeExtra B b bs r hr0 hr1 w h hlen hBw
def textRen : Go.Shelf.Ren := ⟨fun | 169 => 62 | n => n, fun | 0 => 0 | 3 => 3 | 9 => 9 | 37 => 100 | 70 => 99 | 72 => 102 | 127 => 176 | 5 => 5 | n => n, fun | n => n⟩
theorem textLays : Go.Proofs.Lays.n169 Tryz.prog textRen := {
  mixed := by kernel_rfl
  f169 := Tryz.func62.trans (congrArg some (by kernel_rfl))
  t0 := Tryz.underlying0
  a0 := Tryz.isAgg0
  z0 := Tryz.sizeOf0
  v0 := Tryz.zeroValue0
  t3 := Tryz.underlying3
  a3 := Tryz.isAgg3
  z3 := Tryz.sizeOf3
  v3 := Tryz.zeroValue3
  t9 := Tryz.underlying9
  a9 := Tryz.isAgg9
  z9 := Tryz.sizeOf9
  v9 := Tryz.zeroValue9
  t37 := Tryz.underlying100
  a37 := Tryz.isAgg100
  z37 := Tryz.sizeOf100
  v37 := Tryz.zeroValue100
  t70 := Tryz.underlying99
  a70 := Tryz.isAgg99
  z70 := Tryz.sizeOf99
  v70 := Tryz.zeroValue99
  t72 := Tryz.underlying102
  a72 := Tryz.isAgg102
  z72 := Tryz.sizeOf102
  v72 := Tryz.zeroValue102
  t127 := Tryz.underlying176
  a127 := Tryz.isAgg176
  z127 := Tryz.sizeOf176
  v127 := Tryz.zeroValue176 }
theorem textExtra : Builder.Extra Tryz.prog textRen := {
  sizeBuilder := by kernel_rfl
  liesBuilder := by kernel_rfl
  t5 := Tryz.underlying5
  a5 := Tryz.isAgg5
  z5 := Tryz.sizeOf5
  v5 := Tryz.zeroValue5
  infoByte := by kernel_rfl
  cellsByte := by kernel_rfl
  sizeByte := by kernel_rfl
  neB5 := by decide }
/-- String, whatever the builder holds. -/
theorem builderText (B b : Nat) (l : List UInt8) (w : World) (h : Lib.IsBuilderF 102 5 B b (Lib.byteCells l) w) (hBw : B ≤ w.heap.size) :
    Calls Tryz.prog 62 #[.pointer (some ⟨b, 0, none⟩)] w fun e w' => e = .returned (.string ⟨l.toArray⟩) ∧ (Lib.IsBuilderF 102 5 B b (Lib.byteCells l) w' ∧ Below B w w' ∧ Lib.OthersKept 5 (some b) w w') :=
  Any.Builder_String_any_k textLays textExtra B b l w h hBw
end Go.Proofs.YtpkmbhnikilihaaGreatDoor
/- The landed reader of tokens (package parse): what it holds; the walks of ended, at, atWord. -/
namespace Go.Proofs.YtpkmbhnikilihaaGreatDoor
open Go.RowKit

abbrev Tok := Int × ByteArray
/-- All blocks but one stand. -/
def Moved (r : Nat) (w w' : World) : Prop := w.grownBy w' (some r)
theorem Moved.refl (r : Nat) (w : World) : Moved r w w := ⟨rfl, rfl, rfl, Nat.le_refl _, fun _ _ _ => rfl⟩
theorem Moved.of_below {r : Nat} {w w' : World} (h : Below w.heap.size w w') : Moved r w w' := ⟨h.os, h.tape, h.output, h.size, fun b hb _ => h.block b hb⟩
theorem Moved.trans {r : Nat} {w w1 w2 : World} (h : Moved r w w1) (h' : Moved r w1 w2) : Moved r w w2 :=
  ⟨h'.os.trans h.os, h'.tape.trans h.tape, h'.output.trans h.output, Nat.le_trans h.size h'.size, fun b hb hn => (h'.block b (Nat.lt_of_lt_of_le hb h.size) hn).trans (h.block b hb hn)⟩
theorem Moved.set {r i : Nat} {w : World} {v : Value} : Moved r w (w.setCell ⟨r, i, none⟩ v) := by
  exact ⟨rfl, rfl, rfl, by simp [World.setCell], fun b hb hn => Below.heap_setCell _ _ _ _ (fun e => hn (by rw [e]))⟩
/-- These tokens lie in memory, ahead of the reader. -/
def PToksAt (w : World) (r : Nat) (A : Option Addr) (ts : List Tok) : Prop := ∀ (j : Nat) t, ts[j]? = some t → ∃ b o, A = some ⟨b, o, none⟩ ∧ b < r ∧ w.cell? ⟨b, o + j * 2, none⟩ = some (.int .i64 t.1) ∧ w.cell? ⟨b, o + j * 2 + 1, none⟩ = some (.string t.2)
theorem PToksAt.moved {w w' : World} {r : Nat} {A : Option Addr} {ts : List Tok} (h : PToksAt w r A ts) (hm : Moved r w w') (hr : r < w.heap.size) : PToksAt w' r A ts := by
  intro j t ht
  obtain ⟨b, o, e, hb, h0, h1⟩ := h j t ht
  have hs := hm.block b (by omega) (fun e => by injection e; omega)
  exact ⟨b, o, e, hb, (World.cell?_of_block (a := ⟨b, o + j * 2, none⟩) hs).trans h0, (World.cell?_of_block (a := ⟨b, o + j * 2 + 1, none⟩) hs).trans h1⟩
/-- The reader: what is left, and how many brackets are open. -/
def Rd (w : World) (r : Nat) (ts : List Tok) (d : Nat) : Prop := ∃ A c, w.heap[r]? = some (.cells #[.slice A ts.length c, .int .i64 d] 147 (0, 0)) ∧ ts.length ≤ c ∧ ts.length ≤ 200000 ∧ PToksAt w r A ts
theorem Rd.lt {w : World} {r : Nat} {ts : List Tok} {d : Nat} (h : Rd w r ts d) : r < w.heap.size := by
  obtain ⟨A, c, h, _⟩ := h
  exact (Array.getElem?_eq_some_iff.1 h).1
theorem Rd.below {w w' : World} {r : Nat} {ts : List Tok} {d : Nat} (h : Rd w r ts d) (hb : Below w.heap.size w w') : Rd w' r ts d := by
  have hl := h.lt
  obtain ⟨A, c, h0, h1, h2, h3⟩ := h
  exact ⟨A, c, (hb.block r hl).trans h0, h1, h2, h3.moved (Moved.of_below hb) hl⟩
theorem two_box {w : World} {b : Nat} {z0 z1 : Value} {t : TypeId} (h : w.heap[b]? = some (.cells #[z0, z1] t (0, 0))) : w.cell? ⟨b, 0, none⟩ = some z0 ∧ w.cell? ⟨b, 1, none⟩ = some z1 ∧ w.frozen? ⟨b, 0, none⟩ = false ∧ w.frozen? ⟨b, 1, none⟩ = false := by
  refine ⟨?_, ?_, ?_, ?_⟩
  · simp only [World.cell?, h]; rfl
  · simp only [World.cell?, h]; rfl
  · simp [World.frozen?, h]
  · simp [World.frozen?, h]
/-- A refusal. -/
def PanicE (e : Int) : Ending := .panicked [{ v := .iface 145 (.agg #[.int .i64 e]), recovered := false }]
/-- Is the next token this one? -/
def atB (k : Int) (s : ByteArray) : List Tok → Bool
  | [] => false
  | t :: _ => t.1 == k && (t.2.toList == s.toList)
def wordB : List Tok → Bool
  | [] => false
  | t :: _ => t.1 == 2
theorem ended_any (r : Nat) (ts : List Tok) (d : Nat) (w : World) (h : Rd w r ts d) : Calls Tryz.prog 94 #[.pointer (some ⟨r, 0, none⟩)] w fun e w' => e = .returned (.bool ts.isEmpty) ∧ w = w' := by
  obtain ⟨A, c, h0, h1, h2, h3⟩ := h
  obtain ⟨c0, c1, _, _⟩ := two_box h0
  have he : ((ts.length : Int) == 0) = ts.isEmpty := by cases ts <;> simp; omega
  obtain ⟨b, hb⟩ : ∃ b, ts.isEmpty = b := ⟨_, rfl⟩
  rw [hb] at he ⊢
  clear h0 h3 hb
  generalize ts.length = n at *
  go_enter Tryz.func94, Tryz.ntmps94
  go_wp2_with fail
  go_ret
  exact ⟨rfl, rfl⟩
set_option maxRecDepth 100000 in
theorem at_any (r : Nat) (ts : List Tok) (d : Nat) (k : Int) (s : ByteArray) (w : World) (h : Rd w r ts d) : Calls Tryz.prog 95 #[.pointer (some ⟨r, 0, none⟩), .int .i64 k, .string s] w fun e w' => e = .returned (.bool (atB k s ts)) ∧ w = w' := by
  have HE := Lib.hid (ended_any r ts d w h)
  obtain ⟨A, c, h0, h1, h2, h3⟩ := h
  obtain ⟨c0, c1, _, _⟩ := two_box h0
  cases ts with
  | nil =>
    clear h0 h3
    go_enter Tryz.func95, Tryz.ntmps95
    go_wp2_with fail
    refine HE.out.mono ?_
    rintro e w1 ⟨rfl, rfl⟩
    go_wp2_with fail
    go_ret
    exact ⟨rfl, rfl⟩
  | cons t ts =>
    obtain ⟨b, o, rfl, hb, g0, g1⟩ := h3 0 t rfl
    obtain ⟨tk, tx⟩ := t
    simp only [Nat.zero_mul, Nat.add_zero] at g0 g1
    have hr : Hid (atB k s ((tk, tx) :: ts) = (tk == k && (tx.toList == s.toList))) := Lib.hid rfl
    have hn : (0 : Int) < (((tk, tx) :: ts).length : Int) := by simp
    have hn2 : ((tk, tx) :: ts).length = ts.length + 1 := rfl
    clear h0 h3
    go_enter Tryz.func95, Tryz.ntmps95
    go_wp2_with fail
    refine HE.out.mono ?_
    rintro e w1 ⟨rfl, rfl⟩
    go_wp2_with fail
    all_goals
      go_ret
      exact ⟨ret_bool (by rw [hr.out]; simp [*]), rfl⟩
set_option maxRecDepth 100000 in
theorem atWord_any (r : Nat) (ts : List Tok) (d : Nat) (w : World) (h : Rd w r ts d) : Calls Tryz.prog 174 #[.pointer (some ⟨r, 0, none⟩)] w fun e w' => e = .returned (.bool (wordB ts)) ∧ w = w' := by
  have HE := Lib.hid (ended_any r ts d w h)
  obtain ⟨A, c, h0, h1, h2, h3⟩ := h
  obtain ⟨c0, c1, _, _⟩ := two_box h0
  cases ts with
  | nil =>
    clear h0 h3
    go_enter Tryz.func174, Tryz.ntmps174
    go_wp2_with fail
    refine HE.out.mono ?_
    rintro e w1 ⟨rfl, rfl⟩
    go_wp2_with fail
    go_ret
    exact ⟨rfl, rfl⟩
  | cons t ts =>
    obtain ⟨b, o, rfl, hb, g0, g1⟩ := h3 0 t rfl
    obtain ⟨tk, tx⟩ := t
    simp only [Nat.zero_mul, Nat.add_zero] at g0 g1
    have hn : (0 : Int) < (((tk, tx) :: ts).length : Int) := by simp
    have hn2 : ((tk, tx) :: ts).length = ts.length + 1 := rfl
    clear h0 h3
    go_enter Tryz.func174, Tryz.ntmps174
    go_wp2_with fail
    refine HE.out.mono ?_
    rintro e w1 ⟨rfl, rfl⟩
    go_wp2_with fail
    go_ret
    exact ⟨rfl, rfl⟩
theorem heap_at2 (w : World) (r : Nat) (v : Value) (o o' : Obj) : (((w.setCell ⟨r, 0, none⟩ v).alloc o).alloc o').heap[w.heap.size]? = some o := by
  have h1 : (w.setCell ⟨r, 0, none⟩ v).heap.size = w.heap.size := by simp [World.setCell]
  rw [Below.heap_alloc _ _ _ (by simp [h1])]
  have := heap_alloc_new (w.setCell ⟨r, 0, none⟩ v) o
  rwa [h1] at this
/-- The end of a function that answers a token out of a cell. -/
theorem pret_tok {R : Ending → World → Prop} {fn : Func} {a : Act} {W : World} {c0 c1 : Value} {p b : Nat} (hf : fn.results = #[.cell p 70]) (h2 : a.tmps.getD p undef = .pointer (some ⟨b, 0, none⟩)) (hd : a.defers = [])
    (hc : W.heap[b]? = some (.cells #[c0, c1] 70 (0, 0))) (hR : R (.returned (.agg #[c0, c1])) W) : bodyPost Tryz.prog fn R .ret a W := by
  have hl : (loadVar 70 ⟨b, 0, none⟩).run Tryz.prog W = .ok (.agg #[c0, c1]) W :=
    run_loadVar_row W b 70 70 #[c0, c1] (0, 0) _ hc Tryz.underlying70 rfl (by kernel_rfl)
  refine bodyPost_ret ?_ hd hR
  have h2' : a.tmps[p]?.getD undef = .pointer (some ⟨b, 0, none⟩) := by rw [← h2]; simp
  simp [results, hf, h2', asAddr, hl]
/-- The world behind a token that is taken. -/
theorem take_world {w : World} {r : Nat} {x y v : Value} {tt : TypeId} {o o' : Obj} (h : w.heap[r]? = some (.cells #[x, y] tt (0, 0))) : (((w.setCell ⟨r, 0, none⟩ v).alloc o).alloc o').heap[r]? = some (.cells #[v, y] tt (0, 0)) ∧ Moved r w (((w.setCell ⟨r, 0, none⟩ v).alloc o).alloc o') := by
  have hl : r < w.heap.size := (Array.getElem?_eq_some_iff.1 h).1
  have h1 : (w.setCell ⟨r, 0, none⟩ v).heap.size = w.heap.size := by simp [World.setCell]
  refine ⟨?_, Moved.set.trans ((Moved.of_below ((Below.refl _ _).alloc (Nat.le_refl _) o)).trans (Moved.of_below ((Below.refl _ _).alloc (Nat.le_refl _) o')))⟩
  rw [Below.heap_alloc _ _ _ (by simp [h1]; omega), Below.heap_alloc _ _ _ (by rw [h1]; exact hl)]
  exact heap_setCell_same _ r 0 _ _ _ h
theorem add_two (b o : Nat) : (⟨b, o, none⟩ : Addr).add 2 = ⟨b, o + 2, none⟩ := by unfold Addr.add; split <;> simp_all
/-- The reader behind a token. -/
theorem rd_after {w w2 : World} {r : Nat} {t : Tok} {ts : List Tok} {d c : Nat} {b o : Nat} (hA : PToksAt w r (some ⟨b, o, none⟩) (t :: ts)) (hr : r < w.heap.size) (hlen : ts.length ≤ 200000) (hc : ts.length ≤ c)
    (hm : Moved r w w2) (h2 : w2.heap[r]? = some (.cells #[.slice (some ⟨b, o + 2, none⟩) ts.length c, .int .i64 d] 147 (0, 0))) : Rd w2 r ts d := by
  refine ⟨_, c, h2, hc, hlen, fun j u hu => ?_⟩
  obtain ⟨b', o', e, hb, g0, g1⟩ := (hA.moved hm hr) (j + 1) u (by simpa using hu)
  injection e with e
  injection e with e1 e2
  subst e1 e2
  exact ⟨b, o + 2, rfl, hb, by rw [show o + 2 + j * 2 = o + (j + 1) * 2 by omega]; exact g0, by rw [show o + 2 + j * 2 + 1 = o + (j + 1) * 2 + 1 by omega]; exact g1⟩
set_option maxRecDepth 100000 in
theorem take_no (r d : Nat) (w : World) (h : Rd w r [] d) : Calls Tryz.prog 119 #[.pointer (some ⟨r, 0, none⟩)] w fun e w' => e = PanicE 2 ∧ Moved r w w' := by
  have HE := fun wx hb => Lib.hid (ended_any r [] d wx (h.below (w' := wx) hb))
  have hb0 := Lib.hid (fun o => (Below.refl w.heap.size w).alloc (Nat.le_refl _) o)
  clear h
  go_enter Tryz.func119, Tryz.ntmps119
  go_wp2_with fail
  refine (HE _ (hb0.out _)).out.mono ?_
  rintro e w1 ⟨rfl, rfl⟩
  go_wp2_with fail
  exact ⟨rfl, rfl, Moved.of_below (hb0.out _)⟩
set_option maxRecDepth 100000 in
theorem take_yes (r : Nat) (t : Tok) (ts : List Tok) (d : Nat) (w : World) (h : Rd w r (t :: ts) d) : Calls Tryz.prog 119 #[.pointer (some ⟨r, 0, none⟩)] w fun e w' => e = .returned (.agg #[.int .i64 t.1, .string t.2]) ∧ Rd w' r ts d ∧ Moved r w w' := by
  have HE := fun wx hb => Lib.hid (ended_any r (t :: ts) d wx (h.below (w' := wx) hb))
  have hb0 := Lib.hid (fun o => (Below.refl w.heap.size w).alloc (Nat.le_refl _) o)
  have hl := h.lt
  obtain ⟨A, c, h0, h1, h2, h3⟩ := h
  obtain ⟨b, o, rfl, hb, g0, g1⟩ := h3 0 t rfl
  have H3 := Lib.hid h3
  obtain ⟨tk, tx⟩ := t
  simp only [Nat.zero_mul, Nat.add_zero] at g0 g1
  have hcell0 : (w.alloc (.cells #[.int .i64 0, .string ⟨#[]⟩] 70)).heap[r]? = some (.cells #[.slice (some ⟨b, o, none⟩) (ts.length + 1) c, .int .i64 d] 147 (0, 0)) := ((hb0.out _).block r hl).trans h0
  obtain ⟨c0, c1, z0, z1⟩ := two_box hcell0
  have e0 := ((hb0.out (.cells #[.int .i64 0, .string ⟨#[]⟩] 70)).cell (p := ⟨b, o, none⟩) (by simp; omega)).trans g0
  have e1 := ((hb0.out (.cells #[.int .i64 0, .string ⟨#[]⟩] 70)).cell (p := ⟨b, o + 1, none⟩) (by simp; omega)).trans g1
  have hlen : ts.length + 1 ≤ 200000 := by simpa using h2
  have hcap : ts.length + 1 ≤ c := by simpa using h1
  have hsl := add_two b o
  have H0 := Lib.hid h0
  have HL := Lib.hid hl
  clear h0 h3 h1 h2 g0 g1
  by_cases hc1 : c = 1
  · subst hc1
    obtain rfl : ts = [] := List.length_eq_zero_iff.1 (by omega)
    go_enter Tryz.func119, Tryz.ntmps119
    go_wp2_with fail
    refine (HE _ (hb0.out _)).out.mono ?_
    rintro e w1 ⟨rfl, rfl⟩
    go_wp2_with fail
    refine pret_tok rfl rfl rfl (heap_at2 _ _ _ _ _) ?_
    obtain ⟨t1, t2⟩ := take_world (v := .slice (some ⟨b, o, none⟩) 0 0) (o := .cells #[.int .i64 tk, .string tx] 70) (o' := .cells #[.int .i64 tk, .string tx] 70) H0.out
    exact ⟨rfl, ⟨_, 0, t1, Nat.le_refl _, by simp, fun j u hu => by simp at hu⟩, t2⟩
  · obtain ⟨c', rfl⟩ : ∃ c', c = c' + 1 := ⟨c - 1, by omega⟩
    have hc' : 0 < c' := by omega
    go_enter Tryz.func119, Tryz.ntmps119
    go_wp2_with fail
    refine (HE _ (hb0.out _)).out.mono ?_
    rintro e w1 ⟨rfl, rfl⟩
    go_wp2_with fail
    refine pret_tok rfl rfl rfl (heap_at2 _ _ _ _ _) ?_
    obtain ⟨t1, t2⟩ := take_world (v := .slice (some ⟨b, o + 2, none⟩) ts.length c') (o := .cells #[.int .i64 tk, .string tx] 70) (o' := .cells #[.int .i64 tk, .string tx] 70) H0.out
    exact ⟨rfl, rd_after H3.out HL.out (by omega) (by omega) t2 t1, t2⟩
end Go.Proofs.YtpkmbhnikilihaaGreatDoor
/- The landed reader: skip, need, name, enter, leave. -/
namespace Go.Proofs.YtpkmbhnikilihaaGreatDoor
open Go.RowKit

theorem at_tail {k : Int} {s : ByteArray} {ts : List Tok} (h : atB k s ts = true) : ∃ t, ts = t :: ts.tail := by
  cases ts with
  | nil => cases h
  | cons t ts => exact ⟨t, rfl⟩
def skipT (k : Int) (s : ByteArray) (ts : List Tok) : List Tok := if atB k s ts = true then ts.tail else ts
set_option maxRecDepth 100000 in
theorem skip_any (r : Nat) (ts : List Tok) (d : Nat) (k : Int) (s : ByteArray) (w : World) (h : Rd w r ts d) : Calls Tryz.prog 97 #[.pointer (some ⟨r, 0, none⟩), .int .i64 k, .string s] w fun e w' => e = .returned (.bool (atB k s ts)) ∧ Rd w' r (skipT k s ts) d ∧ Moved r w w' := by
  have HA := Lib.hid (at_any r ts d k s w h)
  have H := Lib.hid h
  clear h
  cases hb : atB k s ts with
  | false =>
    rw [hb] at HA
    have hs : Hid (skipT k s ts = ts) := Lib.hid (by unfold skipT; rw [hb]; rfl)
    clear hb
    go_enter Tryz.func97, Tryz.ntmps97
    go_wp2_with fail
    refine HA.out.mono ?_
    rintro e w1 ⟨rfl, rfl⟩
    go_wp2_with fail
    go_ret
    exact ⟨rfl, by rw [hs.out]; exact H.out, Moved.refl _ _⟩
  | true =>
    rw [hb] at HA
    have hs : Hid (skipT k s ts = ts.tail) := Lib.hid (by unfold skipT; rw [hb]; rfl)
    obtain ⟨t, ht⟩ := at_tail hb
    have HT := Lib.hid (take_yes r t ts.tail d w (by rw [← ht]; exact H.out))
    clear hb ht
    go_enter Tryz.func97, Tryz.ntmps97
    go_wp2_with fail
    refine HA.out.mono ?_
    rintro e w1 ⟨rfl, rfl⟩
    go_wp2_with fail
    refine HT.out.mono ?_
    rintro e w2 ⟨rfl, h2, m2⟩
    have H2 := Lib.hid (And.intro h2 m2)
    clear h2 m2
    go_wp2_with fail
    go_ret
    exact ⟨rfl, by rw [hs.out]; exact H2.out.1, H2.out.2⟩
set_option maxRecDepth 100000 in
theorem need_any (r : Nat) (ts : List Tok) (d : Nat) (k : Int) (s : ByteArray) (w : World) (h : Rd w r ts d) : Calls Tryz.prog 178 #[.pointer (some ⟨r, 0, none⟩), .int .i64 k, .string s] w fun e w' => if atB k s ts = true then e = .returned (.tuple #[]) ∧ Rd w' r ts.tail d ∧ Moved r w w' else e = PanicE 2 ∧ Moved r w w' := by
  have HA := Lib.hid (skip_any r ts d k s w h)
  cases hb : atB k s ts with
  | false =>
    rw [hb] at HA
    simp only [Bool.false_eq_true, if_false]
    clear hb h
    go_enter Tryz.func178, Tryz.ntmps178
    go_wp2_with fail
    refine HA.out.mono ?_
    rintro e w1 ⟨rfl, h1, m1⟩
    have M1 := Lib.hid m1
    clear h1 m1
    go_wp2_with fail
    exact ⟨rfl, rfl, M1.out⟩
  | true =>
    have hs : Hid (skipT k s ts = ts.tail) := Lib.hid (by unfold skipT; rw [hb]; rfl)
    rw [hb] at HA
    simp only [if_true]
    clear hb h
    go_enter Tryz.func178, Tryz.ntmps178
    go_wp2_with fail
    refine HA.out.mono ?_
    rintro e w1 ⟨rfl, h1, m1⟩
    rw [hs.out] at h1
    have M1 := Lib.hid (And.intro h1 m1)
    clear h1 m1
    go_wp2_with fail
    go_end0
    exact ⟨rfl, M1.out.1, M1.out.2⟩
/-- A name, or none. -/
def nameR : List Tok → Option (ByteArray × List Tok)
  | [] => none
  | t :: ts => if t.1 = 2 then some (t.2, ts) else none
set_option maxRecDepth 100000 in
theorem pname_any (r : Nat) (ts : List Tok) (d : Nat) (w : World) (h : Rd w r ts d) : Calls Tryz.prog 117 #[.pointer (some ⟨r, 0, none⟩)] w fun e w' => match nameR ts with
    | some (s, ts') => e = .returned (.string s) ∧ Rd w' r ts' d ∧ Moved r w w'
    | none => e = PanicE 2 ∧ Moved r w w' := by
  cases ts with
  | nil =>
    have HT := Lib.hid (take_no r d w h)
    clear h
    show Calls _ _ _ _ fun e w' => e = PanicE 2 ∧ Moved r w w'
    go_enter Tryz.func117, Tryz.ntmps117
    go_wp2_with fail
    refine HT.out.mono ?_
    rintro e w1 ⟨rfl, m1⟩
    exact ⟨rfl, rfl, m1⟩
  | cons t ts =>
    obtain ⟨k, s⟩ := t
    have HT := Lib.hid (take_yes r (k, s) ts d w h)
    clear h
    by_cases hk : k = 2
    · subst hk
      show Calls _ _ _ _ fun e w' => e = .returned (.string s) ∧ Rd w' r ts d ∧ Moved r w w'
      go_enter Tryz.func117, Tryz.ntmps117
      go_wp2_with fail
      refine HT.out.mono ?_
      rintro e w1 ⟨rfl, h1, m1⟩
      have H1 := Lib.hid (And.intro h1 m1)
      clear h1 m1
      go_wp2_with fail
      go_ret
      exact ⟨rfl, H1.out.1.below ((Below.refl _ _).alloc (Nat.le_refl _) _), H1.out.2.trans (Moved.of_below ((Below.refl _ _).alloc (Nat.le_refl _) _))⟩
    · have hr : nameR ((k, s) :: ts) = none := by show (if k = 2 then some (s, ts) else none) = none; rw [if_neg hk]
      rw [hr]
      have hk' : (k != 2) = true := by simpa using hk
      clear hk hr
      go_enter Tryz.func117, Tryz.ntmps117
      go_wp2_with fail
      refine HT.out.mono ?_
      rintro e w1 ⟨rfl, h1, m1⟩
      have H1 := Lib.hid (And.intro h1 m1)
      clear h1 m1
      go_wp2_with fail
      exact ⟨rfl, rfl, H1.out.2.trans (Moved.of_below ((Below.refl _ _).alloc (Nat.le_refl _) _))⟩
theorem Rd.deep {w : World} {r : Nat} {ts : List Tok} {d d' : Nat} (h : Rd w r ts d) {z : Int} (hz : z = (d' : Int)) : Rd (w.setCell ⟨r, 1, none⟩ (.int .i64 z)) r ts d' ∧ Moved r w (w.setCell ⟨r, 1, none⟩ (.int .i64 z)) := by
  subst hz
  have hl := h.lt
  obtain ⟨A, c, h0, h1, h2, h3⟩ := h
  exact ⟨⟨A, c, heap_setCell_same _ r 1 _ _ _ h0, h1, h2, h3.moved Moved.set hl⟩, Moved.set⟩
set_option maxRecDepth 100000 in
theorem leave_any (r : Nat) (ts : List Tok) (d : Nat) (w : World) (hd : d ≤ 1000) (h : Rd w r ts (d + 1)) : Calls Tryz.prog 173 #[.pointer (some ⟨r, 0, none⟩)] w fun e w' => e = .returned (.tuple #[]) ∧ Rd w' r ts d ∧ Moved r w w' := by
  have H := Lib.hid h
  obtain ⟨A, c, h0, h1, h2, h3⟩ := h
  obtain ⟨c0, c1, z0, z1⟩ := two_box h0
  have hz : ((d + 1 : Nat) : Int) - 1 = (d : Int) := by omega
  obtain ⟨D, hD⟩ : ∃ D, d + 1 = D := ⟨_, rfl⟩
  rw [hD] at c1 hz
  have HE := Lib.hid (H.out.deep (d' := d) rfl)
  have hDb : D ≤ 1001 := by omega
  clear h0 h3 hD H
  go_enter Tryz.func173, Tryz.ntmps173
  go_wp2_with fail
  go_end0
  exact ⟨rfl, HE.out.1, HE.out.2⟩
set_option maxRecDepth 100000 in
theorem enter_any (r : Nat) (ts : List Tok) (d : Nat) (s : ByteArray) (w : World) (hd : d ≤ 1000) (h : Rd w r ts d) : Calls Tryz.prog 170 #[.pointer (some ⟨r, 0, none⟩), .string s] w fun e w' =>
    if atB 1 s ts = true then (if d = 16 then e = PanicE 4 ∧ Moved r w w' else e = .returned (.tuple #[]) ∧ Rd w' r ts.tail (d + 1) ∧ Moved r w w') else e = PanicE 2 ∧ Moved r w w' := by
  have HA := Lib.hid (at_any r ts d 1 s w h)
  have HN := Lib.hid (need_any r ts d 1 s w h)
  have H := Lib.hid h
  obtain ⟨A, c, h0, h1, h2, h3⟩ := h
  obtain ⟨c0, c1, z0, z1⟩ := two_box h0
  cases hb : atB 1 s ts with
  | false =>
    rw [hb] at HA HN
    simp only [Bool.false_eq_true, if_false] at HN ⊢
    clear hb h0 h3
    go_enter Tryz.func170, Tryz.ntmps170
    go_wp2_with fail
    refine HA.out.mono ?_
    rintro e w1 ⟨rfl, rfl⟩
    go_wp2_with fail
    refine HN.out.mono ?_
    rintro e w2 ⟨rfl, m2⟩
    exact ⟨rfl, rfl, m2⟩
  | true =>
    rw [hb] at HA HN
    simp only [if_true] at HN ⊢
    clear hb h0 h3
    by_cases h16 : d = 16
    · subst h16
      simp only [if_true]
      go_enter Tryz.func170, Tryz.ntmps170
      go_wp2_with fail
      refine HA.out.mono ?_
      rintro e w1 ⟨rfl, rfl⟩
      go_wp2_with fail
      exact ⟨rfl, rfl, Moved.refl _ _⟩
    · simp only [h16, if_false]
      have h16' : ((d : Int) == 16) = false := by simp; omega
      clear h16
      go_enter Tryz.func170, Tryz.ntmps170
      go_wp2_with fail
      refine HA.out.mono ?_
      rintro e w1 ⟨rfl, rfl⟩
      go_wp2_with fail
      refine HN.out.mono ?_
      rintro e w2 ⟨rfl, r2, m2⟩
      have HE := Lib.hid (r2.deep (z := (d : Int) + 1) (d' := d + 1) (by omega))
      have M2 := Lib.hid m2
      obtain ⟨A2, c2, g0, _, _, _⟩ := r2
      obtain ⟨y0, y1, x0, x1⟩ := two_box g0
      clear g0 m2 c0 c1 z0 z1
      go_wp2_with fail
      go_end0
      exact ⟨rfl, HE.out.1, M2.out.trans HE.out.2⟩
end Go.Proofs.YtpkmbhnikilihaaGreatDoor
/- The texts of types, as plain lists of bytes: which type may be, how it is printed, how the landed reader and the document's own read it. -/
namespace Go.Proofs.YtpkmbhnikilihaaGreatDoor

/-- May it be? -/
def rightT (n : List UInt8) (l m : Int) : Bool := nameB n && (decide (0 ≤ l) && (decide (l ≤ 4) && (decide (0 ≤ m) && decide (m < 2 ^ (l.toNat + 1)))))
end Go.Proofs.YtpkmbhnikilihaaGreatDoor
/- The landed reader of a type's text, as plain lists of bytes: it reads what may be printed, and nothing else; so does the document's own. -/
namespace Go.Proofs.YtpkmbhnikilihaaGreatDoor

end Go.Proofs.YtpkmbhnikilihaaGreatDoor
/- The walks of Right, of the landed package and of the document's own answer; a type in the memory. -/
namespace Go.Proofs.YtpkmbhnikilihaaGreatDoor
open Go.RowKit

theorem below_new {w : World} {cs : Array Value} {t : TypeId} : Below w.heap.size w (w.alloc (.cells cs t)) := (Below.refl _ _).alloc (Nat.le_refl _) _
theorem bdraw {B : Nat} {a w : World} (h : Below B a w) (n : Nat) : Below B a (w.drewN n) := ⟨h.os, h.tape, h.output, h.size, h.block⟩
theorem ret_bb {a b : Bool} (h : a = b) : Ending.returned (.bool a) = .returned (.bool b) := by rw [h]
theorem right_true {n : List UInt8} {l m : Int} (h : rightT n l m = true) : nameB n = true ∧ 0 ≤ l ∧ l ≤ 4 ∧ 0 ≤ m ∧ m < 2 ^ (l.toNat + 1) := by
  simpa [rightT] using h
theorem right_small {n : List UInt8} {l m : Int} (h : rightT n l m = true) : 0 ≤ l ∧ l ≤ 4 ∧ 0 ≤ m ∧ m < 32 := by
  obtain ⟨_, h1, h2, h3, h4⟩ := right_true h
  refine ⟨h1, h2, h3, ?_⟩
  have : l = 0 ∨ l = 1 ∨ l = 2 ∨ l = 3 ∨ l = 4 := by omega
  rcases this with rfl | rfl | rfl | rfl | rfl <;> simp at h4 <;> omega
theorem right_of {n : List UInt8} {l m : Int} (hn : nameB n = true) (h1 : 0 ≤ l) (h2 : l ≤ 4) (h3 : 0 ≤ m) (h4 : m < 2 ^ (l.toNat + 1)) : rightT n l m = true := by
  simp [rightT, hn, h1, h2, h3, h4]
theorem five {l : Int} (h0 : 0 ≤ l) (h4 : l ≤ 4) : l = 0 ∨ l = 1 ∨ l = 2 ∨ l = 3 ∨ l = 4 := by omega

set_option maxRecDepth 100000 in
set_option maxHeartbeats 2000000 in
theorem wright_any (n : ByteArray) (l m : Int) (w : World) (hn : n.size ≤ 9000) : Calls Tryz.prog 213 #[.agg #[.string n, .int .i64 l, .int .i64 m]] w fun e w' => e = .returned (.bool (rightT n.data.toList l m)) ∧ Below w.heap.size w w' := by
  have HN := fun w => Lib.hid (name_any n w (by omega))
  have HB := Lib.hid (below_new (w := w) (cs := #[.string n, .int .i64 l, .int .i64 m]) (t := 39))
  cases hb : nameB n.data.toList
  · have hr : Hid (rightT n.data.toList l m = false) := Lib.hid (by simp [rightT, hb])
    rw [hb] at HN
    clear hb
    go_enter Tryz.func213, Tryz.ntmps213
    go_wp2
    go_quiet (exact (HN _).out.mono fun _ _ h => ⟨h.1, _, h.2.symm⟩)
    go_wp2
    go_ret
    exact ⟨ret_bb hr.out.symm, bdraw HB.out _⟩
  · rw [hb] at HN
    have hb' := Lib.hid hb
    clear hb
    by_cases h1 : 0 ≤ l
    · by_cases h2 : l ≤ 4
      · by_cases h3 : 0 ≤ m
        · have t1 : decide ((0 : Int) ≤ m) = true := by simpa using h3
          rcases five h1 h2 with rfl | rfl | rfl | rfl | rfl
          · by_cases h4 : m < 2
            · have hr : Hid (rightT n.data.toList 0 m = true) := Lib.hid (right_of hb'.out (by omega) (by omega) h3 (by simpa using h4))
              have t2 : decide (m < 2) = true := by simpa using h4
              go_enter Tryz.func213, Tryz.ntmps213
              go_wp2
              go_quiet (exact (HN _).out.mono fun _ _ h => ⟨h.1, _, h.2.symm⟩)
              go_wp2
              go_ret
              exact ⟨ret_bb hr.out.symm, bdraw HB.out _⟩
            · have hr : Hid (rightT n.data.toList 0 m = false) := Lib.hid (by simp [rightT]; intro _ _; simp at h4; omega)
              have t2 : decide (m < 2) = false := by simpa using h4
              go_enter Tryz.func213, Tryz.ntmps213
              go_wp2
              go_quiet (exact (HN _).out.mono fun _ _ h => ⟨h.1, _, h.2.symm⟩)
              go_wp2
              go_ret
              exact ⟨ret_bb hr.out.symm, bdraw HB.out _⟩
          · by_cases h4 : m < 4
            · have hr : Hid (rightT n.data.toList 1 m = true) := Lib.hid (right_of hb'.out (by omega) (by omega) h3 (by simpa using h4))
              have t2 : decide (m < 4) = true := by simpa using h4
              go_enter Tryz.func213, Tryz.ntmps213
              go_wp2
              go_quiet (exact (HN _).out.mono fun _ _ h => ⟨h.1, _, h.2.symm⟩)
              go_wp2
              go_ret
              exact ⟨ret_bb hr.out.symm, bdraw HB.out _⟩
            · have hr : Hid (rightT n.data.toList 1 m = false) := Lib.hid (by simp [rightT]; intro _ _; simp at h4; omega)
              have t2 : decide (m < 4) = false := by simpa using h4
              go_enter Tryz.func213, Tryz.ntmps213
              go_wp2
              go_quiet (exact (HN _).out.mono fun _ _ h => ⟨h.1, _, h.2.symm⟩)
              go_wp2
              go_ret
              exact ⟨ret_bb hr.out.symm, bdraw HB.out _⟩
          · by_cases h4 : m < 8
            · have hr : Hid (rightT n.data.toList 2 m = true) := Lib.hid (right_of hb'.out (by omega) (by omega) h3 (by simpa using h4))
              have t2 : decide (m < 8) = true := by simpa using h4
              go_enter Tryz.func213, Tryz.ntmps213
              go_wp2
              go_quiet (exact (HN _).out.mono fun _ _ h => ⟨h.1, _, h.2.symm⟩)
              go_wp2
              go_ret
              exact ⟨ret_bb hr.out.symm, bdraw HB.out _⟩
            · have hr : Hid (rightT n.data.toList 2 m = false) := Lib.hid (by simp [rightT]; intro _ _; simp at h4; omega)
              have t2 : decide (m < 8) = false := by simpa using h4
              go_enter Tryz.func213, Tryz.ntmps213
              go_wp2
              go_quiet (exact (HN _).out.mono fun _ _ h => ⟨h.1, _, h.2.symm⟩)
              go_wp2
              go_ret
              exact ⟨ret_bb hr.out.symm, bdraw HB.out _⟩
          · by_cases h4 : m < 16
            · have hr : Hid (rightT n.data.toList 3 m = true) := Lib.hid (right_of hb'.out (by omega) (by omega) h3 (by simpa using h4))
              have t2 : decide (m < 16) = true := by simpa using h4
              go_enter Tryz.func213, Tryz.ntmps213
              go_wp2
              go_quiet (exact (HN _).out.mono fun _ _ h => ⟨h.1, _, h.2.symm⟩)
              go_wp2
              go_ret
              exact ⟨ret_bb hr.out.symm, bdraw HB.out _⟩
            · have hr : Hid (rightT n.data.toList 3 m = false) := Lib.hid (by simp [rightT]; intro _ _; simp at h4; omega)
              have t2 : decide (m < 16) = false := by simpa using h4
              go_enter Tryz.func213, Tryz.ntmps213
              go_wp2
              go_quiet (exact (HN _).out.mono fun _ _ h => ⟨h.1, _, h.2.symm⟩)
              go_wp2
              go_ret
              exact ⟨ret_bb hr.out.symm, bdraw HB.out _⟩
          · by_cases h4 : m < 32
            · have hr : Hid (rightT n.data.toList 4 m = true) := Lib.hid (right_of hb'.out (by omega) (by omega) h3 (by simpa using h4))
              have t2 : decide (m < 32) = true := by simpa using h4
              go_enter Tryz.func213, Tryz.ntmps213
              go_wp2
              go_quiet (exact (HN _).out.mono fun _ _ h => ⟨h.1, _, h.2.symm⟩)
              go_wp2
              go_ret
              exact ⟨ret_bb hr.out.symm, bdraw HB.out _⟩
            · have hr : Hid (rightT n.data.toList 4 m = false) := Lib.hid (by simp [rightT]; intro _ _; simp at h4; omega)
              have t2 : decide (m < 32) = false := by simpa using h4
              go_enter Tryz.func213, Tryz.ntmps213
              go_wp2
              go_quiet (exact (HN _).out.mono fun _ _ h => ⟨h.1, _, h.2.symm⟩)
              go_wp2
              go_ret
              exact ⟨ret_bb hr.out.symm, bdraw HB.out _⟩
        · have hr : Hid (rightT n.data.toList l m = false) := Lib.hid (by simp [rightT]; omega)
          have t1 : decide ((0 : Int) ≤ m) = false := by simpa using h3
          go_enter Tryz.func213, Tryz.ntmps213
          go_wp2
          go_quiet (exact (HN _).out.mono fun _ _ h => ⟨h.1, _, h.2.symm⟩)
          go_wp2
          go_ret
          exact ⟨ret_bb hr.out.symm, bdraw HB.out _⟩
      · have hr : Hid (rightT n.data.toList l m = false) := Lib.hid (by simp [rightT]; omega)
        have t1 : decide (l ≤ (4 : Int)) = false := by simpa using h2
        go_enter Tryz.func213, Tryz.ntmps213
        go_wp2
        go_quiet (exact (HN _).out.mono fun _ _ h => ⟨h.1, _, h.2.symm⟩)
        go_wp2
        go_ret
        exact ⟨ret_bb hr.out.symm, bdraw HB.out _⟩
    · have hr : Hid (rightT n.data.toList l m = false) := Lib.hid (by simp [rightT]; omega)
      have t1 : decide ((0 : Int) ≤ l) = false := by simpa using h1
      go_enter Tryz.func213, Tryz.ntmps213
      go_wp2
      go_quiet (exact (HN _).out.mono fun _ _ h => ⟨h.1, _, h.2.symm⟩)
      go_wp2
      go_ret
      exact ⟨ret_bb hr.out.symm, bdraw HB.out _⟩
end Go.Proofs.YtpkmbhnikilihaaGreatDoor
/- The walks of the document's own Name and RightType. -/
namespace Go.Proofs.YtpkmbhnikilihaaGreatDoor
open Go.RowKit

end Go.Proofs.YtpkmbhnikilihaaGreatDoor
